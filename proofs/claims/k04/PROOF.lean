import PyProof.Rows.All
import Wide.All
import OpenK.AllK
import Wide.FinOn
import HandS.ForMost
import HandS.More
import HandS.Conv
import HandS.Walk
import HandS.Flow
import HandS.Style
import HandS.Strs
import HandS.Codes
import PyProof.Rows.SetFrom
import PyProof.StrWalks
import HandS.IsInst
import HandS.Iter
import HandS.DictComp
import HandS.StrMore
import HandS.Text
import HandS.Replace
import HandS.ReplaceLit
import HandS.Words
import HandS.ReplaceList
import PyProof.Rows.RegReprOcc
import PyProof.Rows.StrCountLaw
import HandS.DictTup
import HandS.MapObj
import PyProof.DictWalks
import HandS.NoneIn
import HandS.Property
import HandS.FStr
import KE.GoesEnumKw
import PyProof.Rows.CallKwBuiltin
import HandS.SortKw
import HandS.ForExc
import HandS.TryMany
import HandS.ExcInit
import HandS.ExcField
import KE.KDictList
import KE.KEqNest
import PyProof.NeKinds
import HandS.ListItems
import PyProof.DictFindH
import PyProof.DictRoadsH
import HandS.ClsMeth
import HandS.OwnEq
import HandS.DeepEq
import HandS.Lambda
import HandS.Set
import HandS.StrSplit
import KE.RegKTryMore
import PySem.Challenge.RW_textboxes_k04_bad_program_texts
set_option Elab.async false
set_option linter.all false
set_option maxRecDepth 100000
set_option maxHeartbeats 1000000
/-! Rules that speak of a new object without telling the heap: what stood stands (Same), the new one is at p. -/
namespace Tb
open PySem PySem.Spec PyProof.Rows L2
theorem same_upd {H : Hp} {p : Addr} {o : HO} (h : H p = none) : Same H (upd H p o) := fun b x e => by
  rw [upd_ne (ne_of_none e h)]
  exact e
theorem sql_upd {K : PySem.W.Frag} {H : Hp} {a p : Addr} {o : HO} {xs : List V} (h : SqL K H a xs) (ne : a ≠ p) : SqL K (upd H p o) a xs := by
  rcases h with (h | ⟨u, h⟩) | h
  · exact .inl (.inl (by rw [upd_ne ne]; exact h))
  · exact .inl (.inr ⟨u, by rw [upd_ne ne]; exact h⟩)
  · exact .inr h
theorem PE.weak {X : Cx} {e : Expr} {t t' : TE} (h : PE X e t) (w : ∀ σ H Q, t' σ H Q → t σ H Q) : PE X e t' := ⟨fun pins s σ H Q I z => h.run pins s σ H Q I (w σ H Q z)⟩
theorem PA.weak {X : Cx} {es : List Expr} {t t' : TA} (h : PA X es t) (w : ∀ σ H Q, t' σ H Q → t σ H Q) : PA X es t' := ⟨fun pos pins s σ H Q I z => h.run pos pins s σ H Q I (w σ H Q z)⟩
theorem OpR.weak {X : Cx} {f : Value → Value → Sem Value} {r r' : R2} (h : OpR X f r) (w : ∀ x y H Q, r' x y H Q → r x y H Q) : OpR X f r' := fun pins s σ H x y v u Q I rx ry z => h pins s σ H x y v u Q I rx ry (w x y H Q z)
theorem CallR.weak {X : Cx} {f : Value} {r r' : List V → Hp → VK → Prop} (h : CallR X f r) (w : ∀ xs H Q, r' xs H Q → r xs H Q) : CallR X f r' := fun pins s σ H xs us Q I rx z => h pins s σ H xs us Q I rx (w xs H Q z)
/-- what holds of a new object o -/
def New (H : Hp) (o : HO) (Q : VK) : Prop := ∀ p H', Same H H' → H p = none → H' p = some o → Q (.ref p) H'
theorem New.at {H : Hp} {o : HO} {Q : VK} (h : New H o Q) : ∀ p, H p = none → Q (.ref p) (upd H p o) := fun p np => h p _ (same_upd np) np upd_same
theorem tYes_if {A B : Hp → Prop} {σ : L2.St} {H : Hp} (h : A H) : tYes σ H (fun b H3 => if b = true then A H3 else B H3) := by
  show (if true = true then A H else B H)
  rw [if_pos rfl]
  exact h
section
variable {X : Cx} {es : List Expr} {t : TA} {p : Pos}
def tLstS (t : TA) : TE := fun σ H Q => t σ H fun xs H1 => xs.length ≤ sizeLine ∧ New H1 (.lst xs) Q
def tTupS (t : TA) : TE := fun σ H Q => t σ H fun xs H1 => xs.length ≤ sizeLine ∧ New H1 (.tup xs) Q
theorem PA.mono (h : PA X es t) : PA X es (fun σ H Q => ∃ R, t σ H R ∧ ∀ xs H1, R xs H1 → Q xs H1) := ⟨fun pos pins s σ H Q I ⟨R, z, m⟩ => thn (h.run pos pins s σ H R I z) fun us s1 ⟨vs, H1, I1, r1, q1⟩ => ⟨vs, H1, I1, r1, m vs H1 q1⟩⟩
theorem pe_lstS (h : PA X es t) : PE X (.List es p) (tLstS t) := PE.weak (pe_lst (PA.mono h)) fun σ H Q z => ⟨_, z, fun xs H1 q => ⟨q.1, q.2.at⟩⟩
theorem pe_tupS {k : Nat} (h : PA X es t) : PE X (.Tuple es k p) (tTupS t) := PE.weak (pe_tup (PA.mono h)) fun σ H Q z => ⟨_, z, fun xs H1 q => ⟨q.1, q.2.at⟩⟩
def rCatS : R2 := fun x y H Q => ∃ l b xs zs ys, x = .ref l ∧ y = .ref b ∧ H l = some (.lst xs) ∧ H b = some (.lst zs) ∧ xs.length + zs.length ≤ sizeLine ∧ xs ++ zs = ys ∧ New H (.lst ys) Q
theorem op_catS : OpR X (binaryOp .Add) rCatS := OpR.weak op_cat fun x y H Q ⟨l, b, xs, zs, ys, e1, e2, h1, h2, hl, e, h⟩ => ⟨l, b, xs, zs, e1, e2, h1, h2, hl, by rw [e]; exact h.at⟩
def rRepS : R2 := fun x y H Q => ∃ l k xs ys, x = .ref l ∧ y = .int k ∧ H l = some (.lst xs) ∧ -(2 ^ 63) ≤ k ∧ k < 2 ^ 63 ∧ xs.length * k.toNat ≤ sizeLine ∧ (List.replicate k.toNat xs).flatten = ys ∧ New H (.lst ys) Q
theorem op_repS : OpR X (binaryOp .Mult) rRepS := OpR.weak op_rep fun x y H Q ⟨l, k, xs, ys, e1, e2, h1, k0, k1, hl, e, h⟩ => ⟨l, k, xs, e1, e2, h1, k0, k1, hl, by rw [e]; exact h.at⟩
def tNewK : TE := fun _ H Q => New H (.dK []) Q
def tNewT : TE := fun _ H Q => New H (.dT []) Q
theorem pe_newK : PE X (.Dict [] [] p) tNewK := PE.weak pe_dnewK fun σ H Q z => z.at
theorem pe_newT : PE X (.Dict [] [] p) tNewT := PE.weak pe_dnewT fun σ H Q z => z.at
def rLen (K : PySem.W.Frag) : List V → Hp → VK → Prop := fun xs H Q => ∃ p ys, xs = [.ref p] ∧ (SqL K H p ys ∨ SqT K H p ys) ∧ Q (.int ys.length) H
theorem call_lenS : CallR X (.builtin "len") (rLen X.K) := call_len_seq
def num (k : Nat) : V := .int (k : Int)
theorem rgV_num (m : Nat) : rgV 0 (m : Int) = (List.range m).map num := by
  unfold rgV
  rw [show ((m : Int) - 0).toNat = m by omega]
  exact List.map_congr_left fun i _ => congrArg V.int (Int.zero_add _)
theorem PE.mono {e : Expr} {t : TE} (h : PE X e t) : PE X e (fun σ H Q => ∃ R, t σ H R ∧ ∀ v H1, R v H1 → Q v H1) := ⟨fun pins s σ H Q I ⟨R, z, m⟩ => thn (h.run pins s σ H R I z) fun u s1 ⟨v, H1, I1, r1, q1⟩ => ⟨v, H1, I1, r1, m v H1 q1⟩⟩
/-- list(range(n)) -/
def tListN (t : TE) : TE := fun σ H Q => t σ H fun x H1 => ∃ m : Nat, x = num m ∧ m ≤ 16777216 ∧ New H1 (.lst ((List.range m).map num)) Q
theorem pe_listN {e : Expr} {t : TE} {p1 p2 p3 p4 : Pos} (hc : X.calm = true) (hg : Gl X "list") (hm : X.mg "list" = none) (hg' : Gl X "range") (hm' : X.mg "range" = none) (h : PE X e t) (hs : starEach [e] X.env = (false, eval e X.env) :: starEach [] X.env := by rfl) :
    PE X (.Call (.Name "list" p1) [.Call (.Name "range" p2) [e] [] p3] [] p4) (tListN t) :=
  PE.weak (pe_listRg hc hg hm (prg_1 hg' hm' (PE.mono h) (na := hs))) fun σ H Q z => ⟨_, z, fun v H1 ⟨m, e1, l, q⟩ => ⟨(m : Int), e1, RgOk.of_le (by omega) (by omega) (by omega) (by omega), by rw [rgV_num]; exact q.at⟩⟩
end
/-- a def of the module's top that keeps a promise -/
structure Df (P : Program) (w : World) (K : PySem.W.Frag) (mg : Str → Option Value) (base : Heap) (k : Nat) (nm : Str) (ps : List Str) (sp : Sp) : Prop where
  ex : ∃ f fd, FnOk P w K mg base CX0 k f fd ps sp ∧ Binds K fd ps [] ∧ PySem.W.keepIn K (.ref f) = true ∧ mg nm = some (.ref f)
theorem Df.imp {P : Program} {w : World} {K : PySem.W.Frag} {mg : Str → Option Value} {base : Heap} {k : Nat} {nm : Str} {ps : List Str} {sp sp' : Sp} (D : Df P w K mg base k nm ps sp) (h : ∀ vs H Q E, sp' vs H Q E → sp vs H Q E) : Df P w K mg base k nm ps sp' := by
  obtain ⟨f, fd, G, b, kp, m⟩ := D.ex
  exact ⟨f, fd, G.imp h, b, kp, m⟩
theorem pe_df {X : Cx} {k j : Nat} {nm : Str} {ps : List Str} {sp : Sp} {e : Expr} {es : List Expr} {t : TA} {p pos : Pos} (D : Df X.prog X.w X.K X.mg X.base k nm ps sp) (hr : Room j X.A) (ha : PA X (e :: es) t) (hg : Gl X nm := by rfl) (hk : k ≤ j := by omega)
    (hdb : (nm == ("__debug__" : Str)) = false := by decide) (he : starEach (e :: es) X.env = (false, eval e X.env) :: starEach es X.env := by rfl) (hpl : (backTo pos (starEach es X.env)).any (·.1) = false := by rfl) :
    PE X (.Call (.Name nm p) (e :: es) [] pos) (tCall sp [] E0 t) := by
  obtain ⟨f, fd, G, b, kp, m⟩ := D.ex
  exact pe_call G (hr.mono hk) hg m kp b .nil pass0 ha hdb he hpl
end Tb

set_option Elab.async false
set_option linter.all false
set_option maxRecDepth 100000
set_option maxHeartbeats 1000000
namespace Tb
open PySem PySem.Spec PyProof.Rows L2 TL
/-! ### texts by their signs -/
def S (l : List Nat) : Str := ⟨l.toArray⟩
theorem tl_S (l : List Nat) : tl (S l) = l := rfl
theorem S_tl (x : Str) : S (tl x) = x := ext_tl rfl
theorem S_app (a b : List Nat) : S a ++ S b = S (a ++ b) := ext_tl (by rw [tl_append]; rfl)
theorem len_S (l : List Nat) : (S l).length = l.length := by rw [len_tl, tl_S]
theorem S_inj {a b : List Nat} (h : S a = S b) : a = b := by
  have e := congrArg tl h
  exact e
theorem joinL_nil : ∀ parts : List (List Nat), joinL [] parts = parts.flatten
  | [] => rfl
  | [p] => by simp [joinL]
  | p :: q :: r => by
    have ih := joinL_nil (q :: r)
    show p ++ ([] ++ joinL [] (q :: r)) = _
    rw [ih]
    rfl
theorem join_S (s : List Nat) (parts : List (List Nat)) : Txt.join (S s) (parts.map S) = S (joinL s parts) := ext_tl (by
  rw [join_eq, tl_join, List.map_map]
  have e : parts.map (tl ∘ S) = parts := by
    rw [show (tl ∘ S) = id from funext fun l => rfl, List.map_id]
  rw [e]
  rfl)
theorem ones_flat : ∀ cs : List Nat, (cs.map fun c => [c]).flatten = cs
  | [] => rfl
  | c :: r => congrArg (c :: ·) (ones_flat r)
theorem join_signs (cs : List Nat) : Txt.join (S []) (cs.map fun c => S [c]) = S cs := by
  have e : cs.map (fun c => S [c]) = (cs.map fun c => [c]).map S := by rw [List.map_map]; rfl
  rw [e, join_S, joinL_nil, ones_flat]
theorem sum_ones (cs : List Nat) : ((cs.map fun c => S [c]).map (·.length)).sum = cs.length := by
  induction cs with
  | nil => rfl
  | cons c r ih =>
    show 1 + ((r.map fun c => S [c]).map (·.length)).sum = r.length + 1
    omega
theorem str_empty : (Str.ofString "" : Str) = S [] := by decide +kernel
/-! ### comprehensions whose element is a value of the item -/
section
variable {K : PySem.W.Frag} {te : TE} {vs : List Nat} {σ : L2.St} {H1 : Hp} {D : Addr} {Qd : Hp → Prop} {sl : Nat}
theorem lc_mapL {a : Addr} {xs : List V} (g : V → V) (hS : SqL K H1 a xs) (nD : H1 D = none) (hl : xs.length < sizeLine) (he : ∀ x ∈ xs, ∀ H' (R : VK), Same H1 H' → R (g x) H' → te ((wipe σ vs).set sl (some x)) H' R)
    (hd : ∀ H', Same H1 H' → H' D = some (.lst (xs.map g)) → Qd H') (hw : ∀ x, wipe ((wipe σ vs).set sl (some x)) vs = wipe σ vs := by intro _; rfl) :
    ∃ W : Nat → Nat → Hp → Prop, (∃ m, W 0 m (upd H1 D (.lst []))) ∧ ∀ i m H, W i m H →
      ((Itl K a).stop i H ∧ Qd H) ∨ ((Itl K a).go i H ∧ ∃ Nx : Hp → Prop, (∀ H', Nx H' → ∃ m', m' < m ∧ W (i + 1) m' H') ∧ ∀ x H', (Itl K a).yld i H x H' → gName sl x (wipe σ vs) H' fun σ2 H2 => wipe σ2 vs = wipe σ vs ∧ tYes σ2 H2 fun b H3 =>
        if b = true then te σ2 H3 fun y H4 => ∃ acc, H4 D = some (.lst acc) ∧ acc.length < sizeLine ∧ Nx (upd H4 D (.lst (acc ++ [y]))) else Nx H3) := by
  refine lc_list (K := K) (a := a) (xs := xs) (fun i H => Same H1 H ∧ H D = some (.lst ((xs.take i).map g))) ⟨same_upd nD, upd_same⟩ (fun i H _ h => h.1.seq hS) ?_ ?_
  · rintro i x H hx ⟨s, e⟩
    refine ⟨hw x, tYes_if (he x (List.mem_of_getElem? hx) H _ s ⟨_, e, ?_, fun b o eb => ?_, ?_⟩)⟩
    · rw [List.length_map, List.length_take]
      exact Nat.lt_of_le_of_lt (Nat.min_le_right _ _) hl
    · rw [upd_ne (ne_of_none eb nD)]
      exact s _ _ eb
    · rw [upd_same, List.take_add_one, hx, List.map_append]
      rfl
  · rintro H ⟨s, e⟩
    rw [List.take_length] at e
    exact hd H s e
theorem lc_mapR {n : Nat} (g : Nat → V) (nD : H1 D = none) (hl : n < sizeLine) (he : ∀ i, i < n → ∀ H' (R : VK), Same H1 H' → R (g i) H' → te ((wipe σ vs).set sl (some (num i))) H' R)
    (hd : ∀ H', Same H1 H' → H' D = some (.lst ((List.range n).map g)) → Qd H') (hw : ∀ x, wipe ((wipe σ vs).set sl (some x)) vs = wipe σ vs := by intro _; rfl) :
    ∃ W : Nat → Nat → Hp → Prop, (∃ m, W 0 m (upd H1 D (.lst []))) ∧ ∀ i m H, W i m H →
      ((Itr 0 n).stop i H ∧ Qd H) ∨ ((Itr 0 n).go i H ∧ ∃ Nx : Hp → Prop, (∀ H', Nx H' → ∃ m', m' < m ∧ W (i + 1) m' H') ∧ ∀ x H', (Itr 0 n).yld i H x H' → gName sl x (wipe σ vs) H' fun σ2 H2 => wipe σ2 vs = wipe σ vs ∧ tYes σ2 H2 fun b H3 =>
        if b = true then te σ2 H3 fun y H4 => ∃ acc, H4 D = some (.lst acc) ∧ acc.length < sizeLine ∧ Nx (upd H4 D (.lst (acc ++ [y]))) else Nx H3) := by
  refine lc_range (lo := 0) (n := n) (fun i H => Same H1 H ∧ H D = some (.lst ((List.range i).map g))) ⟨same_upd nD, upd_same⟩ ?_ ?_
  · rintro i H hi ⟨s, e⟩
    refine ⟨hw _, tYes_if ?_⟩
    have en : V.int (0 + (i : Int)) = num i := congrArg V.int (Int.zero_add _)
    rw [en]
    refine he i hi H _ s ⟨_, e, ?_, fun b o eb => ?_, ?_⟩
    · rw [List.length_map, List.length_range]
      omega
    · rw [upd_ne (ne_of_none eb nD)]
      exact s _ _ eb
    · rw [upd_same, List.range_succ, List.map_append]
      rfl
  · rintro H ⟨s, e⟩
    exact hd H s e
theorem lc_mapS {cs : List Nat} (g : Nat → V) (nD : H1 D = none) (hl : cs.length < sizeLine) (he : ∀ c ∈ cs, ∀ H' (R : VK), Same H1 H' → R (g c) H' → te ((wipe σ vs).set sl (some (.str (S [c])))) H' R)
    (hd : ∀ H', Same H1 H' → H' D = some (.lst (cs.map g)) → Qd H') (hw : ∀ x, wipe ((wipe σ vs).set sl (some x)) vs = wipe σ vs := by intro _; rfl) :
    ∃ W : Nat → Nat → Hp → Prop, (∃ m, W 0 m (upd H1 D (.lst []))) ∧ ∀ i m H, W i m H →
      ((Its (S cs)).stop i H ∧ Qd H) ∨ ((Its (S cs)).go i H ∧ ∃ Nx : Hp → Prop, (∀ H', Nx H' → ∃ m', m' < m ∧ W (i + 1) m' H') ∧ ∀ x H', (Its (S cs)).yld i H x H' → gName sl x (wipe σ vs) H' fun σ2 H2 => wipe σ2 vs = wipe σ vs ∧ tYes σ2 H2 fun b H3 =>
        if b = true then te σ2 H3 fun y H4 => ∃ acc, H4 D = some (.lst acc) ∧ acc.length < sizeLine ∧ Nx (upd H4 D (.lst (acc ++ [y]))) else Nx H3) := by
  refine lc_it (walk_str (z := S cs)) (fun i H => Same H1 H ∧ H D = some (.lst ((cs.take i).map g))) ⟨same_upd nD, upd_same⟩ (fun _ _ _ _ => trivial) ?_ ?_
  · rintro i x H H' hi ⟨s, e⟩ ⟨rfl, c, hc, rfl⟩
    have hc' : cs[i]? = some c := by
      have h := hc
      rw [show (S cs).cps = cs.toArray from rfl, List.getElem?_toArray] at h
      exact h
    refine ⟨hw _, tYes_if (he c (List.mem_of_getElem? hc') _ _ s ⟨_, e, ?_, fun b o eb => ?_, ?_⟩)⟩
    · rw [List.length_map, List.length_take]
      exact Nat.lt_of_le_of_lt (Nat.min_le_right _ _) hl
    · rw [upd_ne (ne_of_none eb nD)]
      exact s _ _ eb
    · rw [upd_same, List.take_add_one, hc', List.map_append]
      rfl
  · rintro H ⟨s, e⟩
    rw [show (S cs).cps.size = cs.length from rfl, List.take_length] at e
    exact hd H s e
theorem tif {t : TT} {σ : L2.St} {H : Hp} {A : Hp → Prop} {B : Hp → Prop} {k : Bool} (ht : ∀ R : Bool → Hp → Prop, R k H → t σ H R) (h1 : k = true → A H) (h2 : k = false → B H) : t σ H (fun b H3 => if b = true then A H3 else B H3) := by
  refine ht _ ?_
  cases k with
  | true =>
    show (if true = true then A H else B H)
    rw [if_pos rfl]
    exact h1 rfl
  | false =>
    show (if false = true then A H else B H)
    rw [if_neg Bool.false_ne_true]
    exact h2 rfl
/-- a list's items that keep, each by its value -/
theorem lc_filtL {a : Addr} {xs : List V} {tt : TT} (keep : V → Bool) (g : V → V) (hS : SqL K H1 a xs) (nD : H1 D = none) (hl : xs.length < sizeLine) (ht : ∀ x ∈ xs, ∀ H' (R : Bool → Hp → Prop), Same H1 H' → R (keep x) H' → tt ((wipe σ vs).set sl (some x)) H' R)
    (he : ∀ x ∈ xs, keep x = true → ∀ H' (R : VK), Same H1 H' → R (g x) H' → te ((wipe σ vs).set sl (some x)) H' R)
    (hd : ∀ H', Same H1 H' → H' D = some (.lst ((xs.filter keep).map g)) → Qd H') (hw : ∀ x, wipe ((wipe σ vs).set sl (some x)) vs = wipe σ vs := by intro _; rfl) :
    ∃ W : Nat → Nat → Hp → Prop, (∃ m, W 0 m (upd H1 D (.lst []))) ∧ ∀ i m H, W i m H →
      ((Itl K a).stop i H ∧ Qd H) ∨ ((Itl K a).go i H ∧ ∃ Nx : Hp → Prop, (∀ H', Nx H' → ∃ m', m' < m ∧ W (i + 1) m' H') ∧ ∀ x H', (Itl K a).yld i H x H' → gName sl x (wipe σ vs) H' fun σ2 H2 => wipe σ2 vs = wipe σ vs ∧ tt σ2 H2 fun b H3 =>
        if b = true then te σ2 H3 fun y H4 => ∃ acc, H4 D = some (.lst acc) ∧ acc.length < sizeLine ∧ Nx (upd H4 D (.lst (acc ++ [y]))) else Nx H3) := by
  refine lc_list (K := K) (a := a) (xs := xs) (fun i H => Same H1 H ∧ H D = some (.lst (((xs.take i).filter keep).map g))) ⟨same_upd nD, upd_same⟩ (fun i H _ h => h.1.seq hS) ?_ ?_
  · rintro i x H hx ⟨s, e⟩
    have hm := List.mem_of_getElem? hx
    have et : xs.take (i + 1) = xs.take i ++ [x] := by
      rw [List.take_add_one, hx]
      rfl
    refine ⟨hw x, tif (k := keep x) (fun R r => ht x hm H R s r) (fun hk => he x hm hk H _ s ⟨_, e, ?_, fun b o eb => ?_, ?_⟩) (fun hk => ⟨s, ?_⟩)⟩
    · rw [List.length_map]
      refine Nat.lt_of_le_of_lt (List.length_filter_le _ _) ?_
      rw [List.length_take]
      exact Nat.lt_of_le_of_lt (Nat.min_le_right _ _) hl
    · rw [upd_ne (ne_of_none eb nD)]
      exact s _ _ eb
    · rw [upd_same, et, List.filter_append, List.map_append]
      simp only [List.filter_cons, hk, if_true, List.filter_nil]
      rfl
    · rw [e, et, List.filter_append]
      simp [List.filter_cons, hk]
  · rintro H ⟨s, e⟩
    rw [List.take_length] at e
    exact hd H s e
end
/-! ### slices, members -/
theorem inV_S (x : List Nat) (ys : List (List Nat)) : inV (.str (S x)) (ys.map fun y => .str (S y)) = decide (x ∈ ys) := by
  unfold inV
  rw [List.any_map, Bool.eq_iff_iff, List.any_eq_true, decide_eq_true_eq]
  constructor
  · rintro ⟨y, hy, e⟩
    have e' : (S y == S x) = true := e
    rw [← S_inj (beq_iff_eq.mp e')]
    exact hy
  · intro h
    exact ⟨x, h, beq_self_eq_true (S x)⟩
theorem flat_S (ys : List (List Nat)) : (ys.map fun y => V.str (S y)).all flatV = true := by
  rw [List.all_map, List.all_eq_true]
  intro y _
  rfl
theorem cutS_drop (cs : List Nat) (k : Nat) : cutS (S cs) (some (k : Int)) none = S (cs.drop k) := by
  refine ext_tl ?_
  show ((cs.drop (HT.sIx (S cs).length 0 (some (k : Int)))).take (HT.sIx (S cs).length (S cs).length none - HT.sIx (S cs).length 0 (some (k : Int)))) = cs.drop k
  rw [HT.sIx_nat, HT.sIx_none, len_S]
  by_cases h : k ≤ cs.length
  · rw [Nat.min_eq_left h]
    refine List.take_of_length_le ?_
    rw [List.length_drop]
    exact Nat.le_refl _
  · rw [Nat.min_eq_right (by omega), List.drop_eq_nil_of_le (Nat.le_refl _), List.drop_eq_nil_of_le (by omega)]
    rw [List.take_nil]
/-! ### slices -/
section
variable {X : Cx}
def rSlLS (K : PySem.W.Frag) : V → Option Int → Option Int → Hp → VK → Prop := fun x lo hi H Q => ∃ a xs, x = .ref a ∧ SqL K H a xs ∧ New H (.lst (cutV xs lo hi)) Q
theorem sl_listS : SlR X (rSlLS X.K) := fun pins s σ H x v vl vu lo hi sl Q I r hs h1 h2 ⟨a, xs, e, hS, q⟩ => sl_list pins s σ H x v vl vu lo hi sl Q I r hs h1 h2 ⟨a, xs, e, hS, q.at⟩
theorem cutV_take (xs : List V) (m : Nat) : cutV xs none (some (m : Int)) = xs.take m := by
  unfold cutV
  rw [HT.sIx_nat, HT.sIx_none, List.drop_zero, Nat.sub_zero, List.take_eq_take_iff]
  omega
end
end Tb

set_option Elab.async false
set_option linter.all false
set_option maxRecDepth 100000
namespace Tb
open PySem PySem.Spec PyProof.Rows L2
def topS (i : Nat) : Stmt := PySem.Challenge.pw_textboxes_k04_bad_program_texts.main.body.getD i (.Pass ⟨0, 0, 0, 0⟩)
abbrev sSource : Stmt := topS 38
abbrev sDraw : Stmt := topS 39
abbrev sPick : Stmt := topS 40
abbrev sOrder : Stmt := topS 41
abbrev sName : Stmt := topS 42
abbrev sNames : Stmt := topS 43
abbrev sSigns : Stmt := topS 44
abbrev sPiece : Stmt := topS 45
abbrev sFill : Stmt := topS 46
abbrev sProgram : Stmt := topS 47
abbrev sMade : Stmt := topS 9999
end Tb

set_option Elab.async false
set_option linter.all false
set_option maxRecDepth 100000
set_option maxHeartbeats 1000000
namespace Tb
open PySem PySem.Spec PyProof.Rows L2 TL
/-! ### the source of draws -/
/-- a list [great, seed, how many were drawn], of at most n draws -/
def SrcO (n : Nat) (o : HO) : Prop := ∃ g s c : Int, o = .lst [.int g, .int s, .int c] ∧ 0 ≤ g ∧ 0 ≤ s ∧ s < 2147483647 ∧ 0 ≤ c ∧ c ≤ n
/-- all but the source stands -/
def But (p : Addr) (H H' : Hp) : Prop := ∀ b o, H b = some o → b ≠ p → H' b = some o
theorem But.refl (p : Addr) (H : Hp) : But p H H := fun _ _ h _ => h
theorem But.trans {p : Addr} {H H1 H2 : Hp} (a : But p H H1) (b : But p H1 H2) : But p H H2 := fun c o h n => b c o (a c o h n) n
theorem But.upd (p : Addr) (H : Hp) (o : HO) : But p H (upd H p o) := fun b u h n => by
  rw [upd_ne n]
  exact h
theorem Same.but {H H' : Hp} (s : Same H H') (p : Addr) : But p H H' := fun b o h _ => s b o h
theorem But.seq {K : PySem.W.Frag} {p a : Addr} {H H' : Hp} {xs : List V} (e : But p H H') (n : a ≠ p) (h : SqL K H a xs) : SqL K H' a xs := by
  rcases h with (h | ⟨o, h⟩) | h
  · exact .inl (.inl (e _ _ h n))
  · exact .inl (.inr ⟨o, e _ _ h n⟩)
  · exact .inr h
theorem But.free {p : Addr} {H H' : Hp} (e : But p H H') {l : Addr} {o : HO} (hp : H' p = some o) (h : H' l = none) : H l = none := by
  cases q : H l with
  | none => rfl
  | some u =>
    have n : l ≠ p := fun z => by
      rw [z, hp] at h
      cases h
    rw [e l u q n] at h
    cases h
/-- the source stands at p, at most n were drawn -/
def Src (H : Hp) (p : Addr) (n : Nat) : Prop := ∃ o, H p = some o ∧ SrcO n o
theorem SrcO.le {n m : Nat} {o : HO} (h : SrcO n o) (l : n ≤ m) : SrcO m o := by
  obtain ⟨g, s, c, e, a, b, d, f, k⟩ := h
  exact ⟨g, s, c, e, a, b, d, f, by omega⟩
theorem Src.le {H : Hp} {p : Addr} {n m : Nat} (h : Src H p n) (l : n ≤ m) : Src H p m := by
  obtain ⟨o, e, h⟩ := h
  exact ⟨o, e, h.le l⟩
theorem Src.same {H H' : Hp} {p : Addr} {n : Nat} (h : Src H p n) (s : Same H H') : Src H' p n := by
  obtain ⟨o, e, h⟩ := h
  exact ⟨o, s _ _ e, h⟩
section
variable {P : Program} {w : World} {K : PySem.W.Frag} {mg : Str → Option Value} {base : Heap}
theorem scSource : FnScope ["_law_script", "_law_great", "_law_seed", "_law_cell"] ["_law_script"] (defScope sSource) := ⟨rfl, rfl, rfl, by decide +kernel, rfl, by decide +kernel, by decide +kernel⟩
def spSource (K : PySem.W.Frag) : Sp := fun vs H Q _ => ∃ (a : Addr) (ns : List Int), vs = [.ref a] ∧ SqL K H a (ns.map V.int) ∧ ∀ p o H', Same H H' → H p = none → H' p = some o → SrcO 0 o → Q (.ref p) H'
theorem ok_source {f : Addr} {fd : FuncData} {k : Nat} (F : Fun K "_law_source" "_law_source" sSource f fd) (mi : mg "int" = none) : FnOk P w K mg base CX0 (k + 1) f fd ["_law_script"] (spSource K) := by
  refine F.ok scSource (fun vs H Q E h => ?_) (fun cdv A outer s H vs Q E hr h => ?_)
  · obtain ⟨a, ns, rfl, _⟩ := h
    rfl
  · obtain ⟨a, ns, rfl, hS, q⟩ := h
    refine ⟨_, pss_cons (ps_asg (pe_tup (pa_cons pe_int (pa_cons pe_int pa_nil))) (pg_tup (by rfl) (pgs_cons (pg_name (i := 1) scSource.nd rfl (.inl rfl)) (pgs_cons (pg_name (i := 2) scSource.nd rfl (.inl rfl)) pgs_nil))))
      (pss_cons (ps_for PassesOwn.never rfl (pi_list (pv 0)) (pg_name (i := 3) scSource.nd rfl (.inl rfl))
        (pss_cons (ps_if (PW.pt (pw_and (pt_cmpR op_eq (pv 1) pe_int (nomark _)) (pw_and1 (pt_cmpR op_ge (pv 3) (pe_op op_pow pe_int pe_int) (nomark _))))) (pss_one (ps_set (i := 1) scSource.nd rfl (.inl rfl) (pv 3))) pss_nil)
        (pss_one (ps_set (i := 2) scSource.nd rfl (.inl rfl) (pe_op op_mod (pe_callTy call_int1 (by rfl) mi (by decide +kernel) (pa_cons (pe_op op_add (pe_op op_add (pe_op op_mul (pv 2) pe_int) (pv 3)) pe_int) pa_nil)) pe_int)))))
      (pss_one (ps_ret (pe_lst (pa_cons (pv 1) (pa_cons (pv 2) (pa_cons pe_int pa_nil))))))), ?_⟩
    refine ⟨by show 2 ≤ sizeLine; decide, fun tp ntp => ⟨tp, _, rfl, .inl (.inl upd_same), rfl, _, _, rfl, _, _, rfl, rfl, ?_⟩⟩
    have s1 : Same H (upd H tp (.tup [.int 0, .int 17])) := same_upd ntp
    generalize upd H tp (.tup [.int 0, .int 17]) = H1 at s1
    refine ⟨_, rfl, a, rfl, ⟨_, s1.seq hS⟩, for_list (K := K) (a := a) (xs := ns.map V.int) (fun i σ H2 => H2 = H1 ∧ ∃ (g s : Int) (v : Option V), σ = [some (.ref a), some (.int g), some (.int s), v] ∧ 0 ≤ g ∧ 0 ≤ s ∧ s < 2147483647) ⟨rfl, 0, 17, none, rfl, by decide, by decide, by decide⟩ (fun i σ H2 _ z => by rw [z.1]; exact s1.seq hS) ?_ ?_⟩
    · rintro i y σ H2 hi ⟨rfl, g, sd, v, rfl, g0, s0, s2⟩
      obtain ⟨z, rfl⟩ : ∃ z, y = V.int z := by
        rw [List.getElem?_map] at hi
        cases e : ns[i]? with
        | none =>
          rw [e] at hi
          cases hi
        | some z =>
          rw [e] at hi
          exact ⟨z, (Option.some.inj hi).symm⟩
      have fin : ∀ g' : Int, 0 ≤ g' → tAsg
        (tOp (rI (fun x j => 0 < j) fun i j => V.int (i % j))
          (tCB (fun xs H Q => (∃ i, xs = [V.int i] ∧ Q (V.int i) H) ∨ ∃ k, xs = [V.bl k] ∧ Q (V.int (if k = true then 1 else 0)) H)
            (tCons (tOp (rI0 fun i j => V.int (i + j)) (tOp (rI0 fun i j => V.int (i + j)) (tOp (rI CMul fun i j => V.int (i * j)) (tVar 2) (tC (V.int 31))) (tVar 3)) (tC (V.int 7))) tNil))
          (tC (V.int 2147483647))) (gName 2) { nx := fun σ H3 => H3 = H2 ∧ ∃ g s v, σ = [some (V.ref a), some (V.int g), some (V.int s), v] ∧ 0 ≤ g ∧ 0 ≤ s ∧ s < 2147483647, rt := Q } [some (.ref a), some (.int g'), some (.int sd), some (.int z)] H2 := fun g' hg => by
        refine ⟨_, rfl, _, _, rfl, rfl, .inl ⟨by omega, by omega⟩, _, rfl, _, _, rfl, rfl, _, _, rfl, rfl, .inl ⟨_, rfl, ?_⟩⟩
        exact ⟨_, _, rfl, rfl, by show (0 : Int) < 2147483647; decide, rfl, g', _, some (.int z), rfl, hg, Int.emod_nonneg _ (by decide), Int.emod_lt_of_pos _ (by decide)⟩
      refine ⟨_, rfl, rfl, _, rfl, ite2 (fun e0 => ?_) (fun e0 => ?_)⟩
      · refine ⟨_, rfl, _, _, rfl, rfl, ⟨by decide, by decide, by decide⟩, _, _, rfl, rfl, _, rfl, ite2 (fun e1 => ?_) (fun e1 => fin g g0)⟩
        have hz : (10 : Int) ^ (18 : Int).toNat ≤ z := of_decide_eq_true e1
        have h10 : (0 : Int) ≤ (10 : Int) ^ (18 : Int).toNat := by decide
        exact ⟨_, rfl, fin z (by omega)⟩
      · exact fin g g0
    · rintro σ H2 ⟨rfl, g, sd, v, rfl, g0, s0, s2⟩
      refine ⟨_, rfl, _, rfl, by show 3 ≤ sizeLine; decide, fun p np => ?_⟩
      exact q p _ _ (s1.trans (same_upd np)) (s1.free np) upd_same ⟨g, sd, 0, rfl, g0, s0, s2, by decide, by decide⟩
theorem scDraw : FnScope ["_law_source_here", "_law_many", "_law_digit", "_law_mixed"] ["_law_source_here", "_law_many"] (defScope sDraw) := ⟨rfl, rfl, rfl, by decide +kernel, rfl, by decide +kernel, by decide +kernel⟩
def spDraw : Sp := fun vs H Q _ => ∃ (p : Addr) (m : Int) (n : Nat) (o : HO), vs = [.ref p, .int m] ∧ H p = some o ∧ SrcO n o ∧ n < 1000000 ∧ 0 < m ∧ m < 1073741824 ∧ ∀ d o', 0 ≤ d → d < m → SrcO (n + 1) o' → Q (.int d) (upd H p o')
theorem ok_draw {f : Addr} {fd : FuncData} {k : Nat} (F : Fun K "_law_draw" "_law_draw" sDraw f fd) (mi : mg "int" = none) : FnOk P w K mg base CX0 (k + 1) f fd ["_law_source_here", "_law_many"] spDraw := by
  refine F.ok scDraw (fun vs H Q E h => ?_) (fun cdv A outer s H vs Q E hr h => ?_)
  · obtain ⟨p, m, n, o, rfl, _⟩ := h
    rfl
  · obtain ⟨p, m, n, o, rfl, hp, ⟨g, sd, c, rfl, g0, s0, s1, c0, c1⟩, hn, m0, m1, q⟩ := h
    refine ⟨_, pss_cons (ps_asg (pe_op op_add (pe_ix ix_list (pv 0) pe_int (fun _ _ => rfl)) pe_int) (pg_sub (pv 0) pe_int set_list))
      (pss_cons (ps_if (pt_cmpR op_gt (pe_ix ix_list (pv 0) pe_int (fun _ _ => rfl)) pe_int (nomark _))
        (pss_cons (ps_set (i := 2) scDraw.nd rfl (.inl rfl) (pe_op op_mod (pe_callTy call_int1 (by rfl) mi (by decide +kernel) (pa_cons (pe_ix ix_list (pv 0) pe_int (fun _ _ => rfl)) pa_nil)) (pv 1)))
        (pss_cons (ps_asg (pe_op op_fdiv (pe_ix ix_list (pv 0) pe_int (fun _ _ => rfl)) (pv 1)) (pg_sub (pv 0) pe_int set_list))
        (pss_one (ps_ret (pv 2))))) pss_nil)
      (pss_cons (ps_set (i := 3) scDraw.nd rfl (.inl rfl) (pe_op op_mod (pe_op op_pow (pe_op op_add (pe_ix ix_list (pv 0) pe_int (fun _ _ => rfl)) (pe_op op_mul pe_int (pe_ix ix_list (pv 0) pe_int (fun _ _ => rfl)))) pe_int) pe_int))
      (pss_one (ps_ret (pe_op op_mod (pe_op op_mod (pe_op op_pow (pe_op op_add (pe_op op_add (pe_op op_mul (pv 3) pe_int) (pe_op op_mul (pe_op op_mul pe_int (pe_ix ix_list (pv 0) pe_int (fun _ _ => rfl))) (pe_ix ix_list (pv 0) pe_int (fun _ _ => rfl)))) pe_int) pe_int) pe_int) (pv 1)))))), ?_⟩
    -- one more was drawn
    refine ⟨_, rfl, p, _, _, _, rfl, rfl, SqL.of hp, atI_nat (j := 2) rfl, _, _, rfl, rfl, _, rfl, p, _, _, 2, rfl, rfl, hp, rfl, ?_⟩
    have h1 : (upd H p (.lst ([V.int g, .int sd, .int c].set 2 (.int (c + 1))))) p = some (.lst [V.int g, .int sd, .int (c + 1)]) := upd_same
    -- a great number gives its digits
    refine ⟨_, rfl, p, _, _, _, rfl, rfl, SqL.of h1, atI_nat (j := 0) rfl, _, _, rfl, rfl, _, rfl, ite2 (fun e0 => ?_) (fun e0 => ?_)⟩
    · have hg : (1 : Int) < g := of_decide_eq_true e0
      refine ⟨_, rfl, p, _, _, _, rfl, rfl, SqL.of h1, atI_nat (j := 0) rfl, .inl ⟨_, rfl, _, rfl, _, _, rfl, rfl, m0, ?_⟩⟩
      refine ⟨_, rfl, p, _, _, _, rfl, rfl, SqL.of h1, atI_nat (j := 0) rfl, _, rfl, _, _, rfl, rfl, ⟨m0, m1⟩, _, rfl, p, _, _, 0, rfl, rfl, h1, rfl, ?_⟩
      refine ⟨_, rfl, ?_⟩
      rw [upd_upd]
      exact q _ _ (Int.emod_nonneg _ (by omega)) (Int.emod_lt_of_pos _ m0) ⟨g / m, sd, c + 1, rfl, Int.ediv_nonneg g0 (by omega), s0, s1, by omega, by omega⟩
    · refine ⟨_, rfl, p, _, _, _, rfl, rfl, SqL.of h1, atI_nat (j := 1) rfl, _, rfl, p, _, _, _, rfl, rfl, SqL.of h1, atI_nat (j := 2) rfl, _, _, rfl, rfl, .inl ⟨by omega, by omega⟩, _, _, rfl, rfl, _, _, rfl, rfl, ⟨by decide, by decide, by omega⟩, _, _, rfl, rfl, by show (0 : Int) < 2147483629; decide, ?_⟩
      have x0 : 0 ≤ (sd + 7919 * (c + 1)) ^ (5 : Int).toNat % 2147483629 := Int.emod_nonneg _ (by decide)
      have x1 : (sd + 7919 * (c + 1)) ^ (5 : Int).toNat % 2147483629 < 2147483629 := Int.emod_lt_of_pos _ (by decide)
      generalize (sd + 7919 * (c + 1)) ^ (5 : Int).toNat % 2147483629 = x at x0 x1
      have y0 : 0 ≤ (c + 1) * (c + 1) := Int.mul_nonneg (by omega) (by omega)
      have y1 : (c + 1) * (c + 1) ≤ 1000000 * 1000000 := Int.mul_le_mul (by omega) (by omega) (by omega) (by decide)
      have e : 16807 * (c + 1) * (c + 1) = 16807 * ((c + 1) * (c + 1)) := Int.mul_assoc _ _ _
      refine ⟨_, rfl, _, _, rfl, rfl, .inl ⟨by omega, by omega⟩, _, rfl, p, _, _, _, rfl, rfl, SqL.of h1, atI_nat (j := 2) rfl, _, _, rfl, rfl, .inl ⟨by decide, by decide⟩, _, rfl, p, _, _, _, rfl, rfl, SqL.of h1, atI_nat (j := 2) rfl, _, _, rfl, rfl, .inr ⟨by omega, by omega⟩, _, _, rfl, rfl, _, _, rfl, rfl, _, _, rfl, rfl, ⟨by decide, by decide, by omega⟩, _, _, rfl, rfl, by show (0 : Int) < 1000000007; decide, _, rfl, _, _, rfl, rfl, m0, ?_⟩
      exact q _ _ (Int.emod_nonneg _ (by omega)) (Int.emod_lt_of_pos _ m0) ⟨g, sd, c + 1, rfl, g0, s0, s1, by omega, by omega⟩
/-- a draw: a number below m -/
def spDrawS : Sp := fun vs H Q _ => ∃ (p : Addr) (m : Int) (n : Nat), vs = [.ref p, .int m] ∧ Src H p n ∧ n < 1000000 ∧ 0 < m ∧ m < 1073741824 ∧ ∀ (d : Nat) H', (d : Int) < m → But p H H' → Src H' p (n + 1) → Q (num d) H'
theorem draw_soft : ∀ vs H Q E, spDrawS vs H Q E → spDraw vs H Q E := by
  rintro vs H Q E ⟨p, m, n, rfl, ⟨o, hp, ho⟩, hn, m0, m1, q⟩
  refine ⟨p, m, n, o, rfl, hp, ho, hn, m0, m1, fun d o' d0 d1 ho' => ?_⟩
  have e : num d.toNat = .int d := congrArg V.int (Int.toNat_of_nonneg d0)
  rw [← e]
  exact q d.toNat _ (by omega) (But.upd p H o') ⟨o', upd_same, ho'⟩
theorem scPick : FnScope ["_law_source_here", "_law_things"] ["_law_source_here", "_law_things"] (defScope sPick) := ⟨rfl, rfl, rfl, by decide +kernel, rfl, by decide +kernel, by decide +kernel⟩
/-- one of a list's, or a text's, things -/
def spPick (K : PySem.W.Frag) : Sp := fun vs H Q _ => ∃ (p : Addr) (n : Nat), Src H p n ∧ n < 1000000 ∧
  ((∃ (t : Addr) (xs : List V), vs = [.ref p, .ref t] ∧ SqL K H t xs ∧ t ≠ p ∧ 0 < xs.length ∧ xs.length < 1073741824 ∧ ∀ x H', x ∈ xs → But p H H' → Src H' p (n + 1) → Q x H') ∨
   (∃ z : Str, vs = [.ref p, .str z] ∧ 0 < z.length ∧ z.length ≤ sizeLine ∧ z.length < 1073741824 ∧ ∀ c H', c ∈ z.cps.toList → But p H H' → Src H' p (n + 1) → Q (.str ⟨#[c]⟩) H'))
theorem ok_pick {f : Addr} {fd : FuncData} {k : Nat} (F : Fun K "_law_pick" "_law_pick" sPick f fd) (DD : Df P w K mg base (k + 1) "_law_draw" ["_law_source_here", "_law_many"] spDrawS) (ml : mg "len" = none) : FnOk P w K mg base CX0 (k + 2) f fd ["_law_source_here", "_law_things"] (spPick K) := by
  refine F.ok scPick (fun vs H Q E h => ?_) (fun cdv A outer s H vs Q E hr h => ?_)
  · obtain ⟨p, n, _, _, ⟨t, xs, rfl, _⟩ | ⟨z, rfl, _⟩⟩ := h
    · rfl
    · rfl
  · obtain ⟨p, n, hp, hn, ⟨t, xs, rfl, ht, ne, l0, l1, q⟩ | ⟨z, rfl, l0, lz, l1, q⟩⟩ := h
    · refine ⟨_, pss_one (ps_ret (pe_ix ix_list (pv 1) (pe_df DD hr (pa_cons (pv 0) (pa_cons (pe_callB call_lenS (by rfl) ml PySem.boot_len (pa_cons (pv 1) pa_nil)) pa_nil))) (fun _ _ => rfl))), ?_⟩
      refine ⟨_, rfl, _, rfl, _, rfl, t, xs, rfl, .inl ht, p, _, n, rfl, hp, hn, by omega, by omega, fun d H' d1 b' s' => ?_⟩
      have hd : d < xs.length := by omega
      exact ⟨t, xs, d, xs[d], rfl, rfl, b'.seq ne ht, atI_nat (List.getElem?_eq_getElem hd), q _ _ (List.getElem_mem hd) b' s'⟩
    · refine ⟨_, pss_one (ps_ret (pe_ix ix_str (pv 1) (pe_df DD hr (pa_cons (pv 0) (pa_cons (pe_callB call_len_str (by rfl) ml PySem.boot_len (pa_cons (pv 1) pa_nil)) pa_nil))) (fun _ _ => rfl))), ?_⟩
      refine ⟨_, rfl, _, rfl, _, rfl, z, rfl, lz, p, _, n, rfl, hp, hn, by omega, by omega, fun d H' d1 b' s' => ?_⟩
      have hd : d < z.cps.toList.length := by
        rw [Array.length_toList]
        have e : z.length = z.cps.size := rfl
        omega
      exact ⟨z, d, z.cps.toList[d], rfl, rfl, lz, atI_nat (List.getElem?_eq_getElem hd), q _ _ (List.getElem_mem hd) b' s'⟩
end
end Tb

set_option Elab.async false
set_option linter.all false
set_option maxRecDepth 100000
set_option maxHeartbeats 1000000
namespace Tb
open PySem PySem.Spec PyProof.Rows L2 TL
theorem erase_map {α β : Type} (f : α → β) : ∀ (xs : List α) (i : Nat), (xs.eraseIdx i).map f = (xs.map f).eraseIdx i
  | [], _ => rfl
  | _ :: _, 0 => rfl
  | x :: xs, i + 1 => congrArg (f x :: ·) (erase_map f xs i)
theorem erase_perm {α : Type} : ∀ (xs : List α) (i : Nat) (h : i < xs.length), (xs[i] :: xs.eraseIdx i).Perm xs
  | x :: xs, 0, _ => List.Perm.refl _
  | x :: xs, i + 1, h => by
    have h' : i < xs.length := Nat.lt_of_succ_lt_succ h
    have ih := erase_perm xs i h'
    show (xs[i] :: x :: xs.eraseIdx i).Perm (x :: xs)
    exact (List.Perm.swap _ _ _).trans (ih.cons x)
section
variable {P : Program} {w : World} {K : PySem.W.Frag} {mg : Str → Option Value} {base : Heap}
theorem scOrder : FnScope ["_law_source_here", "_law_many", "_law_left", "_law_k"] ["_law_source_here", "_law_many"] (defScope sOrder) := ⟨rfl, rfl, rfl, by decide +kernel, rfl, by decide +kernel, by decide +kernel⟩
/-- the numbers below m in some order -/
def spOrder : Sp := fun vs H Q _ => ∃ (p : Addr) (m n : Nat), vs = [.ref p, num m] ∧ Src H p n ∧ n + m < 1000000 ∧ m ≤ 1000 ∧
  ∀ q H' (ks : List Nat), But p H H' → Src H' p (n + m) → H q = none → H' q = some (.lst (ks.map num)) → ks.Perm (List.range m) → Q (.ref q) H'
theorem ok_order {f : Addr} {fd : FuncData} {k : Nat} (F : Fun K "_law_order" "_law_order" sOrder f fd) (DD : Df P w K mg base (k + 1) "_law_draw" ["_law_source_here", "_law_many"] spDrawS)
    (ml : mg "len" = none) (mt : mg "list" = none) (mr : mg "range" = none) : FnOk P w K mg base CX0 (k + 2) f fd ["_law_source_here", "_law_many"] spOrder := by
  refine F.ok scOrder (fun vs H Q E h => ?_) (fun cdv A outer s H vs Q E hr h => ?_)
  · obtain ⟨p, m, n, rfl, _⟩ := h
    rfl
  · obtain ⟨p, m, n, rfl, hp, hn, hm, q⟩ := h
    refine ⟨_, pss_cons (ps_set (i := 2) scOrder.nd rfl (.inr rfl) (pe_listN rfl (by rfl) mt (by rfl) mr (pv 1)))
      (pss_one (ps_ret (pe_lc (own := [("_law_k", 3)]) (g := gName 3) (tt := tYes) (te := tBM K "list" rPopAt (tVar 2) (tCons (tCall spDrawS [] E0 (tCons (tVar 0) (tCons (tCB (rLen K) (tCons (tVar 2) tNil)) tNil))) tNil)) rfl scOrder.nd (pi_range1 rfl mr (pa_cons (pv 1) pa_nil)) (blkOk_by (own := [("_law_k", 3)]) (N := ["_law_source_here", "_law_many", "_law_left", "_law_k"]) (sc := defScope sOrder) (by decide +kernel))
        (fun _ _ _ _ _ => pg_name (i := 3) scOrder.nd rfl (.inl rfl)) (fun _ _ _ _ _ => pts_nil)
        (fun _ _ _ _ _ => pe_bm PySem.F.plainAttrs_list PySem.F.slot_list_pop PySem.F.type_list_pop mt_popAt (pv 2) (pa_cons (pe_df DD hr (pa_cons (pv 0) (pa_cons (pe_callB call_lenS (by rfl) ml PySem.boot_len (pa_cons (pv 2) pa_nil)) pa_nil))) pa_nil))))), ?_⟩
    refine ⟨_, rfl, m, rfl, by omega, fun L H1 s1 nL e1 => ?_⟩
    have hp1 := hp.same s1
    refine ⟨_, rfl, m, rfl, by omega, by omega, fun D nD => lc_range (lo := 0) (n := (m : Int).toNat) (fun i H' => ∃ ks left : List Nat, Src H' p (n + i) ∧ H' L = some (.lst (left.map num)) ∧ H' D = some (.lst (ks.map num)) ∧ (ks ++ left).Perm (List.range m) ∧ ks.length = i ∧ But p H H') ?_ ?_ ?_⟩
    · refine ⟨[], List.range m, hp1.same (same_upd nD), same_upd nD _ _ e1, upd_same, List.Perm.refl _, rfl, Same.but (s1.trans (same_upd nD)) p⟩
    · rintro i H2 hi ⟨ks, left, hs, hL, hD, hpm, hk, hb⟩
      have hl : left.length = m - i := by
        have e := hpm.length_eq
        rw [List.length_append, List.length_range] at e
        omega
      have hi' : i < m := by omega
      refine ⟨rfl, tYes_if ?_⟩
      refine ⟨_, rfl, .inl ⟨rfl, _, SqL.of hL⟩, _, rfl, _, rfl, L, _, rfl, .inl (SqL.of hL), p, _, n + i, rfl, hs, by omega, by rw [List.length_map]; omega, by rw [List.length_map]; omega, fun d H3 hd hb3 hs3 => ?_⟩
      have hd' : d < left.length := by
        rw [List.length_map] at hd
        omega
      have nLp : L ≠ p := fun z => by
        obtain ⟨o, e, _⟩ := hp
        rw [z, e] at nL
        cases nL
      have nDL : D ≠ L := fun z => by
        rw [z, e1] at nD
        cases nD
      have nDp : D ≠ p := fun z => by
        obtain ⟨o, e, _⟩ := hp1
        rw [z, e] at nD
        cases nD
      refine ⟨L, _, d, d, num left[d], rfl, rfl, hb3 _ _ hL nLp, by omega, by omega, seqIndex_of (by omega) (by rw [List.length_map]; omega), by rw [List.getElem?_map, List.getElem?_eq_getElem hd']; rfl, ?_⟩
      refine ⟨ks.map num, by rw [upd_ne nDL]; exact hb3 _ _ hD nDp, by rw [List.length_map]; exact small1000 (by omega), ks ++ [left[d]], left.eraseIdx d, ?_, ?_, ?_, ?_, ?_, ?_⟩
      · obtain ⟨o, e, h⟩ := hs3
        exact ⟨o, by rw [upd_ne nDp.symm, upd_ne nLp.symm]; exact e, by rw [Nat.add_assoc] at h; exact h⟩
      · rw [upd_ne nDL.symm, upd_same, erase_map]
      · rw [upd_same, List.map_append]
        rfl
      · rw [List.append_assoc]
        exact (((erase_perm left d hd').append_left ks)).trans hpm
      · rw [List.length_append, hk]
        rfl
      · intro b o e ne
        have nb1 : b ≠ L := ne_of_none e nL
        have nb2 : b ≠ D := ne_of_none (s1 _ _ e) nD
        rw [upd_ne nb2, upd_ne nb1]
        exact hb3 _ _ (hb _ _ e ne) ne
    · rintro H2 ⟨ks, left, hs, hL, hD, hpm, hk, hb⟩
      have hl : left = [] := by
        have e := hpm.length_eq
        rw [List.length_append, List.length_range] at e
        exact List.eq_nil_of_length_eq_zero (by omega)
      subst hl
      rw [List.append_nil] at hpm
      exact q D H2 ks hb (by have e : (m : Int).toNat = m := by omega
                             rw [e] at hs
                             exact hs) (s1.free nD) hD hpm
end
end Tb

set_option Elab.async false
set_option linter.all false
set_option maxRecDepth 100000
set_option maxHeartbeats 1000000
namespace Tb
open PySem PySem.Spec PyProof.Rows L2 TL
section
variable {P : Program} {w : World} {K : PySem.W.Frag} {mg : Str → Option Value} {base : Heap}
theorem scSigns : FnScope ["_law_source_here", "_law_signs_here", "_law_many", "_law_k"] ["_law_source_here", "_law_signs_here", "_law_many"] (defScope sSigns) := ⟨rfl, rfl, rfl, by decide +kernel, rfl, by decide +kernel, by decide +kernel⟩
/-- so many of the signs, in some order -/
def spSigns : Sp := fun vs H Q _ => ∃ (p : Addr) (n m : Nat) (zs : List Nat), vs = [.ref p, .str (S zs), num m] ∧ Src H p n ∧ n + zs.length < 1000000 ∧ zs.length ≤ 1000 ∧
  ∀ H' (all : List Nat), But p H H' → Src H' p (n + zs.length) → all.Perm zs → Q (.str (S (all.take m))) H'
theorem ok_signs {f : Addr} {fd : FuncData} {k : Nat} (F : Fun K "_law_signs" "_law_signs" sSigns f fd) (DO : Df P w K mg base (k + 1) "_law_order" ["_law_source_here", "_law_many"] spOrder) (ml : mg "len" = none) : FnOk P w K mg base CX0 (k + 2) f fd ["_law_source_here", "_law_signs_here", "_law_many"] spSigns := by
  refine F.ok scSigns (fun vs H Q E h => ?_) (fun cdv A outer s H vs Q E hr h => ?_)
  · obtain ⟨p, n, m, zs, rfl, _⟩ := h
    rfl
  · obtain ⟨p, n, m, zs, rfl, hp, hn, hz, q⟩ := h
    refine ⟨_, pss_one (ps_ret (pe_join pe_str (pe_slice sl_listS (pe_lc (own := [("_law_k", 3)]) (g := gName 3) (tt := tYes) (te := tOp rIxS (tVar 1) (tVar 3)) rfl scSigns.nd
        (pi_list (pe_df DO hr (pa_cons (pv 0) (pa_cons (pe_callB call_len_str (by rfl) ml PySem.boot_len (pa_cons (pv 1) pa_nil)) pa_nil)))) (blkOk_by (own := [("_law_k", 3)]) (N := ["_law_source_here", "_law_signs_here", "_law_many", "_law_k"]) (sc := defScope sSigns) (by decide +kernel))
        (fun _ _ _ _ _ => pg_name (i := 3) scSigns.nd rfl (.inl rfl)) (fun _ _ _ _ _ => pts_nil) (fun _ _ _ _ _ => pe_ix ix_str (pv 1) (pv 3) (fun _ _ => rfl))) po_none (po_some (pv 2))))), ?_⟩
    have lz : (S zs).length ≤ sizeLine := by
      rw [len_S]
      exact Nat.le_of_lt (small1000 hz)
    have hzl : ((S zs).length : Int) = (zs.length : Int) := by rw [len_S]
    refine ⟨⟨_, rfl⟩, _, rfl, _, rfl, _, rfl, lz, p, zs.length, n, by rw [hzl]; rfl, hp, hn, hz, fun a H1 ks hb1 hs1 na e1 hperm => ⟨a, rfl, ⟨_, SqL.of e1⟩, fun D nD => ?_⟩⟩
    refine lc_mapL (fun v => match v with | .int i => .str (S [zs.getD i.toNat 0]) | _ => .non) (SqL.of e1) nD ?_ ?_ ?_
    · rw [List.length_map, hperm.length_eq, List.length_range]
      exact small1000 hz
    · intro x hx H' R _ r
      obtain ⟨i, hi, rfl⟩ := List.mem_map.mp hx
      have hi' : i < zs.length := List.mem_range.mp (hperm.mem_iff.mp hi)
      refine ⟨_, rfl, _, rfl, S zs, (i : Int), zs[i], rfl, rfl, lz, atI_nat (List.getElem?_eq_getElem hi'), ?_⟩
      have e : zs.getD ((i : Int)).toNat 0 = zs[i] := by
        rw [Int.toNat_natCast, List.getD_eq_getElem?_getD, List.getElem?_eq_getElem hi']
        rfl
      have r' : R (.str (S [zs.getD ((i : Int)).toNat 0])) H' := r
      rw [e] at r'
      exact r'
    · intro H2 s2 e2
      refine ⟨_, rfl, m, rfl, D, _, rfl, SqL.of e2, fun T H3 s3 nT e3 => ?_⟩
      rw [cutV_take, List.map_map, ← List.map_take] at e3
      have e4 : (ks.take m).map ((fun v => match v with | V.int i => V.str (S [zs.getD i.toNat 0]) | _ => .non) ∘ num) = (((ks.map fun i => zs.getD i 0).take m).map fun c => S [c]).map V.str := by
        rw [← List.map_take, List.map_map, List.map_map]
        rfl
      rw [e4] at e3
      refine ⟨_, T, _, rfl, rfl, .inl (SqL.of e3), ?_, ?_⟩
      · rw [sum_ones, str_empty]
        have : (((ks.map fun i => zs.getD i 0).take m).map fun c => S [c]).length ≤ 1000 := by
          rw [List.length_map, List.length_take, List.length_map, hperm.length_eq, List.length_range]
          omega
        rw [List.length_map] at this
        rw [len_S]
        show _ + _ * 0 ≤ _
        omega
      · rw [str_empty, join_signs]
        have hall : (ks.map fun i => zs.getD i 0).Perm zs := by
          have h1 := hperm.map fun i => zs.getD i 0
          have h2 : (List.range zs.length).map (fun i => zs.getD i 0) = zs := by
            refine List.ext_getElem (by simp) fun i h1 h2 => ?_
            rw [List.getElem_map, List.getElem_range, List.getD_eq_getElem?_getD, List.getElem?_eq_getElem h2]
            rfl
          rw [h2] at h1
          exact h1
        exact q H3 _ (hb1.trans (Same.but (s2.trans s3) p)) ((hs1.same s2).same s3) hall
end
end Tb

set_option Elab.async false
set_option linter.all false
set_option maxRecDepth 100000
set_option maxHeartbeats 1000000
namespace Tb
open PySem PySem.Spec PyProof.Rows L2 TL
theorem ne_src {H : Hp} {p q : Addr} {n : Nat} (h : Src H p n) (hq : H q = none) : q ≠ p := fun z => by
  obtain ⟨o, e, _⟩ := h
  rw [z, e] at hq
  cases hq
theorem Src.at {H H' : Hp} {p : Addr} {n : Nat} (h : Src H p n) (e : H' p = H p) : Src H' p n := by
  obtain ⟨o, k, h⟩ := h
  exact ⟨o, e.trans k, h⟩
section
variable {P : Program} {w : World} {K : PySem.W.Frag} {mg : Str → Option Value} {base : Heap}
theorem scPiece : FnScope ["_law_source_here", "_law_out", "_law_size", "_law_k"] ["_law_source_here", "_law_out"] (defScope sPiece) := ⟨rfl, rfl, rfl, by decide +kernel, rfl, by decide +kernel, by decide +kernel⟩
/-- a short text of these signs -/
def spPiece : Sp := fun vs H Q _ => ∃ (p : Addr) (n : Nat) (zs : List Nat), vs = [.ref p, .str (S zs)] ∧ Src H p n ∧ n + 4 < 1000000 ∧ 0 < zs.length ∧ zs.length ≤ 1000 ∧
  ∀ H' (cs : List Nat), But p H H' → Src H' p (n + 4) → cs.length ≤ 3 → (∀ c ∈ cs, c ∈ zs) → Q (.str (S cs)) H'
def sizes9 : List Nat := [0, 0, 0, 0, 1, 1, 1, 2, 3]
theorem ok_piece {f : Addr} {fd : FuncData} {k : Nat} (F : Fun K "_law_piece" "_law_piece" sPiece f fd) (DD : Df P w K mg base (k + 1) "_law_draw" ["_law_source_here", "_law_many"] spDrawS) (DP : Df P w K mg base (k + 2) "_law_pick" ["_law_source_here", "_law_things"] (spPick K)) (mr : mg "range" = none) : FnOk P w K mg base CX0 (k + 3) f fd ["_law_source_here", "_law_out"] spPiece := by
  refine F.ok scPiece (fun vs H Q E h => ?_) (fun cdv A outer s H vs Q E hr h => ?_)
  · obtain ⟨p, n, zs, rfl, _⟩ := h
    rfl
  · obtain ⟨p, n, zs, rfl, hp, hn, z0, hz, q⟩ := h
    refine ⟨_, pss_cons (ps_set (i := 2) scPiece.nd rfl (.inl rfl) (pe_ix ix_list (pe_lstS (pa_cons pe_int (pa_cons pe_int (pa_cons pe_int (pa_cons pe_int (pa_cons pe_int (pa_cons pe_int (pa_cons pe_int (pa_cons pe_int (pa_cons pe_int pa_nil)))))))))) (pe_df DD hr (pa_cons (pv 0) (pa_cons pe_int pa_nil))) (fun _ _ => rfl)))
      (pss_one (ps_ret (pe_join pe_str (pe_lc (own := [("_law_k", 3)]) (g := gName 3) (tt := tYes) (te := tCall (spPick K) [] E0 (tCons (tVar 0) (tCons (tVar 1) tNil))) rfl scPiece.nd
        (pi_range1 rfl mr (pa_cons (pv 2) pa_nil)) (blkOk_by (own := [("_law_k", 3)]) (N := ["_law_source_here", "_law_out", "_law_size", "_law_k"]) (sc := defScope sPiece) (by decide +kernel))
        (fun _ _ _ _ _ => pg_name (i := 3) scPiece.nd rfl (.inl rfl)) (fun _ _ _ _ _ => pts_nil) (fun _ _ _ _ _ => pe_df DP hr (pa_cons (pv 0) (pa_cons (pv 1) pa_nil))))))), ?_⟩
    refine ⟨by show 9 ≤ sizeLine; decide, fun L H1 s1 nL e1 => ⟨_, rfl, p, 9, n, rfl, hp.same s1, by omega, by decide, by decide, fun d H2 hd hb2 hs2 => ?_⟩⟩
    have nLp := ne_src hp nL
    have e2 : H2 L = some (.lst (sizes9.map num)) := hb2 _ _ e1 nLp
    have hd9 : d < 9 := by omega
    obtain ⟨m, em, hm⟩ : ∃ m : Nat, sizes9[d]? = some m ∧ m ≤ 3 := by
      refine ⟨sizes9[d]'hd9, List.getElem?_eq_getElem hd9, ?_⟩
      have : ∀ i (h : i < 9), sizes9[i]'h ≤ 3 := by decide
      exact this d hd9
    refine ⟨L, _, d, num m, rfl, rfl, SqL.of e2, atI_nat (by rw [List.getElem?_map, em]; rfl), ?_⟩
    refine ⟨⟨_, rfl⟩, _, rfl, m, rfl, by omega, by omega, fun D nD => ?_⟩
    have hb12 := But.trans (Same.but s1 p) hb2
    have nDp := ne_src hs2 nD
    refine lc_range (lo := 0) (n := (m : Int).toNat) (fun i H' => ∃ cs : List Nat, Src H' p (n + 1 + i) ∧ H' D = some (.lst (cs.map fun c => .str (S [c]))) ∧ cs.length = i ∧ (∀ c ∈ cs, c ∈ zs) ∧ But p H H') ?_ ?_ ?_
    · exact ⟨[], hs2.same (same_upd nD), upd_same, rfl, fun c hc => (nomatch hc), hb12.trans (Same.but (same_upd nD) p)⟩
    · rintro i H3 hi ⟨cs, hs3, eD, hl, hc, hb3⟩
      have hi' : i < m := by omega
      refine ⟨rfl, tYes_if ?_⟩
      refine ⟨_, rfl, _, rfl, p, n + 1 + i, hs3, by omega, .inr ⟨S zs, rfl, by rw [len_S]; exact z0, by rw [len_S]; exact Nat.le_of_lt (small1000 hz), by rw [len_S]; omega, fun c H4 hcm hb4 hs4 => ?_⟩⟩
      refine ⟨_, hb4 _ _ eD nDp, by rw [List.length_map]; exact small1000 (by omega), cs ++ [c], hs4.at (upd_ne nDp.symm), ?_, ?_, ?_, ?_⟩
      · rw [upd_same, List.map_append]
        rfl
      · rw [List.length_append, hl]
        rfl
      · intro x hx
        rcases List.mem_append.mp hx with h | h
        · exact hc x h
        · rw [List.mem_singleton.mp h]
          exact hcm
      · intro b o e ne
        have nb : b ≠ D := by
          intro z
          have e' := hb12 _ _ e ne
          rw [z, nD] at e'
          cases e'
        rw [upd_ne nb]
        exact hb4 _ _ (hb3 _ _ e ne) ne
    · rintro H3 ⟨cs, hs3, eD, hl, hc, hb3⟩
      have hl' : cs.length ≤ 3 := by omega
      refine ⟨_, D, cs.map fun c => S [c], rfl, rfl, .inl (SqL.of (by rw [eD, List.map_map]; rfl)), ?_, ?_⟩
      · rw [sum_ones, str_empty, len_S]
        show _ + _ * 0 ≤ _
        omega
      · rw [str_empty, join_signs]
        exact q H3 cs hb3 (hs3.le (by omega)) hl' hc
end
end Tb

set_option Elab.async false
set_option linter.all false
set_option maxRecDepth 100000
set_option maxHeartbeats 2000000
namespace Tb
open PySem PySem.Spec PyProof.Rows L2 TL
/-- the signs of a name -/
def NameL (cs : List Nat) : Prop := 1 ≤ cs.length ∧ cs.length ≤ 8 ∧ ∀ c ∈ cs, 97 ≤ c ∧ c ≤ 122
def az : List Nat := (List.range 26).map (97 + ·)
theorem az_str : Str.ofString "abcdefghijklmnopqrstuvwxyz" = S az := by decide +kernel
theorem az_mem {c : Nat} : c ∈ az ↔ 97 ≤ c ∧ c ≤ 122 := by
  unfold az
  rw [List.mem_map]
  constructor
  · rintro ⟨i, hi, rfl⟩
    have := List.mem_range.mp hi
    omega
  · rintro ⟨h1, h2⟩
    exact ⟨c - 97, List.mem_range.mpr (by omega), by omega⟩
theorem az_len : az.length = 26 := by decide
def words6 (r : List Nat) : List (List Nat) := [[112, 108, 97, 99, 101], [98, 111, 120, 101, 115], [108, 101, 116, 116, 101, 114, 115], [111, 110], [114, 101, 102, 117, 115, 101], 113 :: r]
theorem words6_str (r : List Nat) : (words6 r).map (fun y => V.str (S y)) = [.str (Str.ofString "place"), .str (Str.ofString "boxes"), .str (Str.ofString "letters"), .str (Str.ofString "on"), .str (Str.ofString "refuse"), .str (S (113 :: r))] := by
  have h1 : Str.ofString "place" = S [112, 108, 97, 99, 101] := by decide +kernel
  have h2 : Str.ofString "boxes" = S [98, 111, 120, 101, 115] := by decide +kernel
  have h3 : Str.ofString "letters" = S [108, 101, 116, 116, 101, 114, 115] := by decide +kernel
  have h4 : Str.ofString "on" = S [111, 110] := by decide +kernel
  have h5 : Str.ofString "refuse" = S [114, 101, 102, 117, 115, 101] := by decide +kernel
  rw [h1, h2, h3, h4, h5]
  rfl
theorem words6_name {r w : List Nat} (hr : r.length ≤ 7) (h : ∀ c ∈ r, 97 ≤ c ∧ c ≤ 122) (hw : w ∈ words6 r) : NameL w := by
  simp only [words6, List.mem_cons, List.not_mem_nil, or_false] at hw
  have lit : ∀ l : List Nat, 1 ≤ l.length → l.length ≤ 8 → (l.all fun c => decide (97 ≤ c ∧ c ≤ 122)) = true → NameL l := fun l a b c => ⟨a, b, fun x hx => of_decide_eq_true (List.all_eq_true.mp c x hx)⟩
  rcases hw with rfl | rfl | rfl | rfl | rfl | rfl
  · exact lit _ (by decide) (by decide) (by decide)
  · exact lit _ (by decide) (by decide) (by decide)
  · exact lit _ (by decide) (by decide) (by decide)
  · exact lit _ (by decide) (by decide) (by decide)
  · exact lit _ (by decide) (by decide) (by decide)
  · refine ⟨by rw [List.length_cons]; omega, by rw [List.length_cons]; omega, fun c hc => ?_⟩
    rcases List.mem_cons.mp hc with rfl | hc
    · omega
    · exact h c hc
def sizes13 : List Nat := [8, 4, 5, 6, 7, 1, 2, 3, 1, 2, 3, 1, 2]
section
variable {P : Program} {w : World} {K : PySem.W.Frag} {mg : Str → Option Value} {base : Heap}
theorem scName : FnScope ["_law_source_here", "_law_taken", "_law_size", "_law_name_here", "_law_k", "_law_one", "_law_sign"] ["_law_source_here", "_law_taken"] (defScope sName) := ⟨rfl, rfl, rfl, by decide +kernel, rfl, by decide +kernel, by decide +kernel⟩
abbrev nName : List Str := ["_law_source_here", "_law_taken", "_law_size", "_law_name_here", "_law_k", "_law_one", "_law_sign"]
/-- a name that is not taken -/
def spName (K : PySem.W.Frag) : Sp := fun vs H Q _ => ∃ (p t : Addr) (n : Nat) (taken : List (List Nat)), vs = [.ref p, .ref t] ∧ Src H p n ∧ n + 10 < 1000000 ∧ SqL K H t (taken.map fun y => .str (S y)) ∧ t ≠ p ∧ taken.length ≤ 25 ∧
  ∀ H' (cs : List Nat), But p H H' → Src H' p (n + 10) → NameL cs → cs ∉ taken → Q (.str (S cs)) H'
theorem ok_name {f : Addr} {fd : FuncData} {k : Nat} (F : Fun K "_law_name" "_law_name" sName f fd) (DD : Df P w K mg base (k + 1) "_law_draw" ["_law_source_here", "_law_many"] spDrawS) (mr : mg "range" = none) : FnOk P w K mg base CX0 (k + 2) f fd ["_law_source_here", "_law_taken"] (spName K) := by
  refine F.ok scName (fun vs H Q E h => ?_) (fun cdv A outer s H vs Q E hr h => ?_)
  · obtain ⟨p, t, n, taken, rfl, _⟩ := h
    rfl
  · obtain ⟨p, t, n, taken, rfl, hp, hn, ht, ntp, hl, q⟩ := h
    refine ⟨_, pss_cons (ps_set (i := 2) scName.nd rfl (.inl rfl) (pe_ix ix_list (pe_lstS (pa_cons pe_int (pa_cons pe_int (pa_cons pe_int (pa_cons pe_int (pa_cons pe_int (pa_cons pe_int (pa_cons pe_int (pa_cons pe_int (pa_cons pe_int (pa_cons pe_int (pa_cons pe_int (pa_cons pe_int (pa_cons pe_int pa_nil)))))))))))))) (pe_df DD hr (pa_cons (pv 0) (pa_cons pe_int pa_nil))) (fun _ _ => rfl)))
      (pss_cons (ps_set (i := 3) scName.nd rfl (.inl rfl) (pe_join pe_str (pe_lc (own := [("_law_k", 4)]) (g := gName 4) (tt := tYes) (te := tOp rIxS (tC (.str "abcdefghijklmnopqrstuvwxyz")) (tCall spDrawS [] E0 (tCons (tVar 0) (tCons (tC (.int 26)) tNil)))) rfl scName.nd
          (pi_range1 rfl mr (pa_cons (pv 2) pa_nil)) (blkOk_by (own := [("_law_k", 4)]) (N := nName) (sc := defScope sName) (by decide +kernel))
          (fun _ _ _ _ _ => pg_name (i := 4) scName.nd rfl (.inl rfl)) (fun _ _ _ _ _ => pts_nil) (fun _ _ _ _ _ => pe_ix ix_str pe_str (pe_df DD hr (pa_cons (pv 0) (pa_cons pe_int pa_nil))) (fun _ _ => rfl)))))
      (C8.pss_cut (ps_if (pt_chain op_lt op_lt pe_int (pv 2) pe_int) (pss_one (ps_set (i := 3) scName.nd rfl (.inl rfl) (pe_ix ix_list (pe_lstS (pa_cons pe_str (pa_cons pe_str (pa_cons pe_str (pa_cons pe_str (pa_cons pe_str (pa_cons (pe_op op_add_str pe_str (pe_slice sl_str (pv 3) (po_some pe_int) po_none)) pa_nil))))))) (pe_df DD hr (pa_cons (pv 0) (pa_cons pe_int pa_nil))) (fun _ _ => rfl)))) pss_nil)
      (pss_cons (ps_if (pt_cmpR op_notIn_seq (pv 3) (pv 1) (by rfl)) (pss_one (ps_ret (pv 3))) pss_nil)
      (pss_one (ps_ret (pe_ix ix_list (pe_lc (own := [("_law_one", 5)]) (g := gName 5) (tt := tTest (tOp (rIn K true) (tVar 5) (tVar 1))) (te := tVar 5) rfl scName.nd
          (pi_list (pe_lc (own := [("_law_sign", 6)]) (g := gName 6) (tt := tYes) (te := tOp (fun x y H Q => ∃ i j, x = .str i ∧ y = .str j ∧ i.length + j.length ≤ sizeLine ∧ Q (.str (i ++ j)) H) (tC (.str "z")) (tVar 6)) rfl scName.nd
            (pi_str pe_str) (blkOk_by (own := [("_law_sign", 6)]) (N := nName) (sc := defScope sName) (by decide +kernel)) (fun _ _ _ _ _ => pg_name (i := 6) scName.nd rfl (.inl rfl)) (fun _ _ _ _ _ => pts_nil) (fun _ _ _ _ _ => pe_op op_add_str pe_str (pv 6))))
          (blkOk_by (own := [("_law_one", 5)]) (N := nName) (sc := defScope sName) (by decide +kernel))
          (fun _ _ _ _ _ => pg_name (i := 5) scName.nd rfl (.inl rfl)) (fun _ _ _ _ _ => pts_one (pt_cmpR op_notIn_seq (pv 5) (pv 1) (by rfl))) (fun _ _ _ _ _ => pv 5)) pe_int (fun _ _ => rfl))))))), ?_⟩
    have hpS := hp
    refine ⟨by show 13 ≤ sizeLine; decide, fun L H1 s1 nL e1 => ⟨_, rfl, p, 13, n, rfl, hp.same s1, by omega, by decide, by decide, fun d H2 hd hb2 hs2 => ?_⟩⟩
    have nLp := ne_src hp nL
    have e2 : H2 L = some (.lst (sizes13.map num)) := hb2 _ _ e1 nLp
    have hd9 : d < 13 := by omega
    obtain ⟨m, em, hm0, hm⟩ : ∃ m : Nat, sizes13[d]? = some m ∧ 1 ≤ m ∧ m ≤ 8 := by
      refine ⟨sizes13[d]'hd9, List.getElem?_eq_getElem hd9, ?_⟩
      have : ∀ i (h : i < 13), 1 ≤ sizes13[i]'h ∧ sizes13[i]'h ≤ 8 := by decide
      exact this d hd9
    refine ⟨L, _, d, num m, rfl, rfl, SqL.of e2, atI_nat (by rw [List.getElem?_map, em]; rfl), ?_⟩
    have hb12 := But.trans (Same.but s1 p) hb2
    -- the signs
    refine ⟨⟨_, rfl⟩, _, rfl, m, rfl, by omega, by omega, fun D nD => ?_⟩
    have nDp := ne_src hs2 nD
    refine lc_range (lo := 0) (n := (m : Int).toNat) (fun i H' => ∃ cs : List Nat, Src H' p (n + 1 + i) ∧ H' D = some (.lst (cs.map fun c => .str (S [c]))) ∧ cs.length = i ∧ (∀ c ∈ cs, 97 ≤ c ∧ c ≤ 122) ∧ But p H H') ?_ ?_ ?_
    · exact ⟨[], hs2.same (same_upd nD), upd_same, rfl, fun c hc => (nomatch hc), hb12.trans (Same.but (same_upd nD) p)⟩
    · rintro i H3 hi ⟨cs, hs3, eD, hl3, hc, hb3⟩
      have hi' : i < m := by omega
      refine ⟨rfl, tYes_if ?_⟩
      refine ⟨_, rfl, p, 26, n + 1 + i, rfl, hs3, by omega, by decide, by decide, fun d2 H4 hd2 hb4 hs4 => ?_⟩
      have hd2' : d2 < az.length := by
        rw [az_len]
        omega
      have ha : (az[d2]) ∈ az := List.getElem_mem hd2'
      refine ⟨S az, d2, az[d2], by rw [← az_str], rfl, (by rw [len_S]; show 26 ≤ sizeLine; decide), atI_nat (List.getElem?_eq_getElem hd2'), ?_⟩
      refine ⟨_, hb4 _ _ eD nDp, by rw [List.length_map]; exact small1000 (by omega), cs ++ [az[d2]], hs4.at (upd_ne nDp.symm), ?_, ?_, ?_, ?_⟩
      · rw [upd_same, List.map_append]
        rfl
      · rw [List.length_append, hl3]
        rfl
      · intro x hx
        rcases List.mem_append.mp hx with h | h
        · exact hc x h
        · rw [List.mem_singleton.mp h]
          exact az_mem.mp ha
      · intro b o e ne
        have nb : b ≠ D := by
          intro z
          have e' := hb12 _ _ e ne
          rw [z, nD] at e'
          cases e'
        rw [upd_ne nb]
        exact hb4 _ _ (hb3 _ _ e ne) ne
    · rintro H3 ⟨cs, hs3, eD, hl3, hc, hb3⟩
      have hl' : cs.length = m := by omega
      refine ⟨_, D, cs.map fun c => S [c], rfl, rfl, .inl (SqL.of (by rw [eD, List.map_map]; rfl)), ?_, ?_⟩
      · rw [sum_ones, str_empty, len_S]
        show _ + _ * 0 ≤ _
        omega
      rw [str_empty, join_signs]
      have hs3' : Src H3 p (n + 9) := hs3.le (by omega)
      -- a word in its place
      refine ⟨fun σ H' => ∃ c2, σ = [some (.ref p), some (.ref t), some (num m), some (.str (S c2)), none, none, none] ∧ NameL c2 ∧ Src H' p (n + 10) ∧ But p H H', ?_, ?_⟩
      · have keep : ∃ c2, [some (V.ref p), some (.ref t), some (num m), some (.str (S cs)), none, none, none] = [some (V.ref p), some (.ref t), some (num m), some (.str (S c2)), none, none, none] ∧ NameL c2 ∧ Src H3 p (n + 10) ∧ But p H H3 :=
          ⟨cs, rfl, ⟨by omega, by omega, hc⟩, hs3'.le (by omega), hb3⟩
        refine ⟨_, rfl, 3, m, rfl, rfl, _, rfl, ?_⟩
        by_cases h3 : (3 : Int) < (m : Int)
        · rw [decide_eq_true h3]
          refine iteT ⟨m, 8, rfl, rfl, _, rfl, ?_⟩
          by_cases h8 : (m : Int) < 8
          · rw [decide_eq_true h8]
            refine iteT ?_
            have ec : cutS (S cs) (some 1) none = S (cs.drop 1) := cutS_drop cs 1
            have hdl : (cs.drop 1).length ≤ 7 := by rw [List.length_drop]; omega
            refine ⟨_, rfl, 1, rfl, S cs, rfl, by rw [len_S]; exact Nat.le_of_lt (small1000 (by omega)), ?_⟩
            rw [ec]
            have eq : Str.ofString "q" = S [113] := by decide +kernel
            refine ⟨_, _, rfl, rfl, by rw [eq, len_S, len_S]; exact Nat.le_of_lt (small1000 (by show 1 + _ ≤ 1000; omega)), by show 6 ≤ sizeLine; decide, fun L6 H4 s4 n4 e4 => ?_⟩
            rw [eq, S_app] at e4
            refine ⟨_, rfl, p, 6, n + 9, rfl, hs3'.same s4, by omega, by decide, by decide, fun d6 H5 hd6 hb5 hs5 => ?_⟩
            have e4' : H5 L6 = some (.lst ((words6 (cs.drop 1)).map fun y => .str (S y))) := by
              rw [words6_str]
              exact hb5 _ _ e4 (ne_src hs3' n4)
            have hd6' : d6 < (words6 (cs.drop 1)).length := by show d6 < 6; omega
            refine ⟨L6, _, d6, _, rfl, rfl, SqL.of e4', atI_nat (by rw [List.getElem?_map, List.getElem?_eq_getElem hd6']; rfl), (words6 (cs.drop 1))[d6], rfl, ?_, hs5, hb3.trans ((Same.but s4 p).trans hb5)⟩
            exact words6_name hdl (fun c hcm => hc c (List.mem_of_mem_drop hcm)) (List.getElem_mem hd6')
          · rw [decide_eq_false h8]
            exact iteF keep
        · rw [decide_eq_false h3]
          exact iteF ⟨_, rfl, iteF keep⟩
      · rintro σ H4 ⟨c2, rfl, hN, hs4, hb4⟩
        have ht4 := hb4.seq ntp ht
        refine ⟨_, rfl, _, rfl, t, _, rfl, .inl ht4, rfl, flat_S _, _, rfl, ?_⟩
        rw [inV_S]
        by_cases hin : c2 ∈ taken
        · rw [decide_eq_true hin]
          refine iteF ?_
          have ez : Str.ofString "z" = S [122] := by decide +kernel
          refine ⟨S az, by rw [← az_str], fun D1 nD1 => lc_mapS (cs := az) (fun c => .str (S [122, c])) nD1 (by show 26 < sizeLine; decide) ?_ ?_⟩
          · intro c hcm H' R s' r
            refine ⟨_, rfl, _, _, rfl, rfl, by rw [ez, len_S, len_S]; show 1 + 1 ≤ sizeLine; decide, ?_⟩
            rw [ez, S_app]
            exact r
          · intro H5 s5 e5
            refine ⟨D1, rfl, ⟨_, SqL.of e5⟩, fun D2 nD2 => lc_filtL (fun v => !inV v (taken.map fun y => .str (S y))) id (SqL.of e5) nD2 (by rw [List.length_map]; show 26 < sizeLine; decide) ?_ ?_ ?_⟩
            · intro x hx H' R s' r
              obtain ⟨c, _, rfl⟩ := List.mem_map.mp hx
              exact ⟨_, rfl, _, rfl, t, _, rfl, .inl (s'.seq (s5.seq ht4)), rfl, flat_S _, _, rfl, r⟩
            · intro x hx _ H' R s' r
              exact ⟨_, rfl, r⟩
            · intro H6 s6 e6
              have some_free : ∃ c ∈ az, [122, c] ∉ taken := by
                refine Classical.byContradiction fun hno => ?_
                have sub : (az.map fun c => [122, c]) ⊆ taken := by
                  intro y hy
                  obtain ⟨c, hcm, rfl⟩ := List.mem_map.mp hy
                  exact Classical.byContradiction fun hn => hno ⟨c, hcm, hn⟩
                have hle := List.Nodup.length_le_of_subset (by decide) sub
                rw [List.length_map, az_len] at hle
                omega
              obtain ⟨c0, hc0, hf0⟩ := some_free
              have hne : ((az.map fun c => V.str (S [122, c])).filter fun v => !inV v (taken.map fun y => .str (S y))) ≠ [] := by
                have hm0 : V.str (S [122, c0]) ∈ ((az.map fun c => V.str (S [122, c])).filter fun v => !inV v (taken.map fun y => .str (S y))) := by
                  refine List.mem_filter.mpr ⟨List.mem_map.mpr ⟨c0, hc0, rfl⟩, ?_⟩
                  rw [inV_S, decide_eq_false hf0]
                  rfl
                exact List.ne_nil_of_mem hm0
              obtain ⟨y, r, hyr⟩ := List.exists_cons_of_ne_nil hne
              have hy : y ∈ ((az.map fun c => V.str (S [122, c])).filter fun v => !inV v (taken.map fun y => .str (S y))) := by
                rw [hyr]
                exact List.mem_cons_self
              obtain ⟨hy1, hy2⟩ := List.mem_filter.mp hy
              obtain ⟨c, hcm, rfl⟩ := List.mem_map.mp hy1
              rw [inV_S] at hy2
              have hfree : [122, c] ∉ taken := fun z => by
                rw [decide_eq_true z] at hy2
                cases hy2
              rw [hyr] at e6
              refine ⟨D2, _, 0, _, rfl, rfl, SqL.of e6, atI_nat (j := 0) rfl, ?_⟩
              refine q H6 [122, c] (hb4.trans (Same.but (s5.trans s6) p)) ((hs4.same s5).same s6) ⟨by show 1 ≤ 2; decide, by show 2 ≤ 8; decide, fun x hx => ?_⟩ hfree
              have hcr := az_mem.mp hcm
              simp only [List.mem_cons, List.not_mem_nil, or_false] at hx
              omega
        · rw [decide_eq_false hin]
          refine iteT ⟨_, rfl, ?_⟩
          exact q H4 c2 hb4 hs4 hN hin
end
end Tb

set_option Elab.async false
set_option linter.all false
set_option maxRecDepth 100000
set_option maxHeartbeats 2000000
namespace Tb
open PySem PySem.Spec PyProof.Rows L2 TL
section
variable {P : Program} {w : World} {K : PySem.W.Frag} {mg : Str → Option Value} {base : Heap}
theorem scNames : FnScope ["_law_source_here", "_law_many", "_law_names_here", "_law_k"] ["_law_source_here", "_law_many"] (defScope sNames) := ⟨rfl, rfl, rfl, by decide +kernel, rfl, by decide +kernel, by decide +kernel⟩
/-- so many unlike names -/
def spNames : Sp := fun vs H Q _ => ∃ (p : Addr) (n m : Nat), vs = [.ref p, num m] ∧ Src H p n ∧ n + 10 * m < 1000000 ∧ m ≤ 25 ∧
  ∀ t H' (ns : List (List Nat)), But p H H' → Src H' p (n + 10 * m) → H t = none → H' t = some (.lst (ns.map fun y => .str (S y))) → ns.length = m → (∀ x ∈ ns, NameL x) → ns.Nodup → Q (.ref t) H'
theorem ok_names {f : Addr} {fd : FuncData} {k : Nat} (F : Fun K "_law_names" "_law_names" sNames f fd) (DN : Df P w K mg base (k + 1) "_law_name" ["_law_source_here", "_law_taken"] (spName K)) (mr : mg "range" = none) : FnOk P w K mg base CX0 (k + 2) f fd ["_law_source_here", "_law_many"] spNames := by
  refine F.ok scNames (fun vs H Q E h => ?_) (fun cdv A outer s H vs Q E hr h => ?_)
  · obtain ⟨p, n, m, rfl, _⟩ := h
    rfl
  · obtain ⟨p, n, m, rfl, hp, hn, hm, q⟩ := h
    refine ⟨_, pss_cons (ps_set (i := 2) scNames.nd rfl (.inl rfl) (pe_lstS pa_nil))
      (pss_cons (ps_for PassesOwn.never rfl (pi_range1 rfl mr (pa_cons (pv 1) pa_nil)) (pg_name (i := 3) scNames.nd rfl (.inl rfl))
        (pss_one (ps_expr (pe_bm PySem.F.plainAttrs_list PySem.F.slot_list_append PySem.F.type_list_append mt_append (pv 2) (pa_cons (pe_df DN hr (pa_cons (pv 0) (pa_cons (pv 2) pa_nil))) pa_nil)))))
      (pss_one (ps_ret (pv 2)))), ?_⟩
    refine ⟨Nat.zero_le _, fun t H1 s1 nt e1 => ?_⟩
    have ntp := ne_src hp nt
    refine ⟨_, rfl, m, rfl, by omega, by omega, for_range (lo := 0) (n := (m : Int).toNat) (fun i σ H' => ∃ (v : Option V) (ns : List (List Nat)), σ = [some (.ref p), some (num m), some (.ref t), v] ∧ Src H' p (n + 10 * i) ∧ But p H H' ∧ H' t = some (.lst (ns.map fun y => .str (S y))) ∧ ns.length = i ∧ (∀ x ∈ ns, NameL x) ∧ ns.Nodup) ?_ ?_ ?_⟩
    · exact ⟨none, [], rfl, hp.same s1, Same.but s1 p, e1, rfl, fun x hx => (nomatch hx), List.nodup_nil⟩
    · rintro i σ H2 hi ⟨v, ns, rfl, hs, hb, e, hl, hN, hd⟩
      have hi' : i < m := by omega
      refine ⟨_, rfl, .inl ⟨rfl, _, SqL.of e⟩, _, rfl, _, rfl, p, t, n + 10 * i, ns, rfl, hs, by omega, SqL.of e, ntp, by omega, fun H3 cs hb3 hs3 hc hf => ?_⟩
      refine ⟨t, _, _, rfl, rfl, hb3 _ _ e ntp, by rw [List.length_map]; exact small1000 (by omega), some (.int (0 + i)), ns ++ [cs], rfl, ?_, ?_, ?_, ?_, ?_, ?_⟩
      · have h4 := hs3.at (H' := upd H3 t (.lst (ns.map (fun y => V.str (S y)) ++ [.str (S cs)]))) (upd_ne ntp.symm)
        exact h4.le (by omega)
      · intro b o eb ne
        have nb : b ≠ t := ne_of_none eb nt
        rw [upd_ne nb]
        exact hb3 _ _ (hb _ _ eb ne) ne
      · rw [upd_same, List.map_append]
        rfl
      · rw [List.length_append, hl]
        rfl
      · intro x hx
        rcases List.mem_append.mp hx with h | h
        · exact hN x h
        · rw [List.mem_singleton.mp h]
          exact hc
      · rw [List.nodup_append]
        refine ⟨hd, List.nodup_cons.mpr ⟨fun h => (nomatch h), List.nodup_nil⟩, fun a ha b hb' => ?_⟩
        rw [List.mem_singleton.mp hb']
        intro z
        rw [z] at ha
        exact hf ha
    · rintro σ H2 ⟨v, ns, rfl, hs, hb, e, hl, hN, hd⟩
      have el : (m : Int).toNat = m := by omega
      rw [el] at hs hl
      exact ⟨_, rfl, q t H2 ns hb hs nt e hl hN hd⟩
end
end Tb

set_option Elab.async false
set_option linter.all false
set_option maxRecDepth 100000
set_option maxHeartbeats 2000000
namespace Tb
open PySem PySem.Spec PyProof.Rows L2 TL
/-! ### dicts of texts -/
abbrev Fil := List (List Nat × List Nat)
def fkv (hf : Fil) : List (Key × V) := hf.map fun q => (Sum.inr (S q.1), V.str (S q.2))
def getF (hf : Fil) (h : List Nat) : Option (List Nat) := (hf.find? fun q => decide (q.1 = h)).map (·.2)
def setF (hf : Fil) (h f : List Nat) : Fil := hf.map fun q => if q.1 = h then (q.1, f) else q
theorem key_S {a b : List Nat} : (Sum.inr (S a) : Key) = Sum.inr (S b) ↔ a = b := ⟨fun h => S_inj (Sum.inr.inj h), fun h => by rw [h]⟩
theorem getF_cons (q : List Nat × List Nat) (hf : Fil) (h : List Nat) : getF (q :: hf) h = if q.1 = h then some q.2 else getF hf h := by
  unfold getF
  rw [List.find?_cons]
  by_cases e : q.1 = h
  · rw [if_pos e, decide_eq_true e]
    rfl
  · rw [if_neg e, decide_eq_false e]
theorem val_fkv (h : List Nat) : ∀ hf : Fil, valV (fkv hf) (Sum.inr (S h)) = (getF hf h).map fun f => V.str (S f)
  | [] => rfl
  | q :: hf => by
    rw [getF_cons]
    show valV ((Sum.inr (S q.1), V.str (S q.2)) :: fkv hf) _ = _
    by_cases e : q.1 = h
    · rw [if_pos e, valV_pos (key_S.mpr e)]
      rfl
    · rw [if_neg e, valV_neg (fun z => e (key_S.mp z)), val_fkv h hf]
theorem getF_some {hf : Fil} {h : List Nat} (m : h ∈ hf.map (·.1)) : ∃ f, getF hf h = some f ∧ (h, f) ∈ hf := by
  induction hf with
  | nil => exact (nomatch m)
  | cons q r ih =>
    rw [getF_cons]
    by_cases e : q.1 = h
    · exact ⟨q.2, by rw [if_pos e], by rw [← e]; exact List.mem_cons_self⟩
    · rw [if_neg e]
      rcases List.mem_cons.mp m with z | z
      · exact absurd z.symm e
      · obtain ⟨f, h1, h2⟩ := ih z
        exact ⟨f, h1, List.mem_cons_of_mem _ h2⟩
theorem getF_none {hf : Fil} {h : List Nat} (m : h ∉ hf.map (·.1)) : getF hf h = none := by
  induction hf with
  | nil => rfl
  | cons q r ih =>
    rw [getF_cons, if_neg (fun e => m (by rw [← e]; exact List.mem_cons_self)), ih (fun z => m (List.mem_cons_of_mem _ z))]
theorem put_fkv {hf : Fil} {h : List Nat} (f : List Nat) (m : h ∈ hf.map (·.1)) : putK (fkv hf) (Sum.inr (S h)) (V.str (S f)) = fkv (setF hf h f) := by
  obtain ⟨f0, e, _⟩ := getF_some m
  unfold putK
  rw [if_pos (by rw [valV_any, val_fkv, e]; rfl)]
  unfold fkv setF
  rw [List.map_map, List.map_map]
  refine List.map_congr_left fun q _ => ?_
  show (if (Sum.inr (S q.1) : Key) = Sum.inr (S h) then _ else _) = _
  by_cases e : q.1 = h
  · rw [if_pos (key_S.mpr e)]
    show _ = ((Sum.inr (S (if q.1 = h then (q.1, f) else q).1) : Key), V.str (S (if q.1 = h then (q.1, f) else q).2))
    rw [if_pos e]
  · rw [if_neg (fun z => e (key_S.mp z))]
    show _ = ((Sum.inr (S (if q.1 = h then (q.1, f) else q).1) : Key), V.str (S (if q.1 = h then (q.1, f) else q).2))
    rw [if_neg e]
theorem setF_keys (hf : Fil) (h f : List Nat) : (setF hf h f).map (·.1) = hf.map (·.1) := by
  unfold setF
  rw [List.map_map]
  refine List.map_congr_left fun q _ => ?_
  show (if q.1 = h then (q.1, f) else q).1 = q.1
  by_cases e : q.1 = h
  · rw [if_pos e]
  · rw [if_neg e]
theorem setF_mem {hf : Fil} {h f : List Nat} {q : List Nat × List Nat} (m : q ∈ setF hf h f) : q.2 = f ∨ q ∈ hf := by
  obtain ⟨r, hr, e⟩ := List.mem_map.mp m
  by_cases z : r.1 = h
  · rw [if_pos z] at e
    exact .inl (by rw [← e])
  · rw [if_neg z] at e
    exact .inr (by rw [← e]; exact hr)
theorem setF_other {h f : List Nat} : ∀ {hf : Fil}, h ∉ hf.map (·.1) → setF hf h f = hf
  | [], _ => rfl
  | q :: r, m => by
    have e : q.1 ≠ h := fun z => m (by rw [← z]; exact List.mem_cons_self)
    show (if q.1 = h then (q.1, f) else q) :: setF r h f = q :: r
    rw [if_neg e, setF_other (fun z => m (List.mem_cons_of_mem _ z))]
theorem setF_count (p : Nat → Bool) {h f0 x : List Nat} : ∀ {hf : Fil}, (hf.map (·.1)).Nodup → getF hf h = some f0 →
    (((setF hf h (f0 ++ x)).map (·.2)).flatten).countP p = ((hf.map (·.2)).flatten).countP p + x.countP p
  | [], _, e => by cases e
  | q :: r, nd, e => by
    have nd' := List.nodup_cons.mp nd
    rw [getF_cons] at e
    show (((if q.1 = h then (q.1, f0 ++ x) else q) :: setF r h (f0 ++ x)).map (·.2)).flatten.countP p = _
    rw [List.map_cons, List.flatten_cons, List.countP_append, List.map_cons, List.flatten_cons, List.countP_append]
    by_cases z : q.1 = h
    · rw [if_pos z] at e
      have e' : q.2 = f0 := Option.some.inj e
      rw [if_pos z, setF_other (by rw [← z]; exact nd'.1)]
      show (f0 ++ x).countP p + _ = _
      rw [List.countP_append, e']
      omega
    · rw [if_neg z] at e
      rw [if_neg z, setF_count p nd'.2 e]
      omega
theorem merge_new : ∀ (more acc : List (Key × V)), ((acc ++ more).map (·.1)).Nodup → mergeK acc more = acc ++ more
  | [], acc, _ => (List.append_nil acc).symm
  | kv :: r, acc, nd => by
    show mergeK (putK acc kv.1 kv.2) r = _
    have hno : kv.1 ∉ acc.map (·.1) := fun z => by
      rw [List.map_append, List.nodup_append] at nd
      exact nd.2.2 _ z _ (by rw [List.map_cons]; exact List.mem_cons_self) rfl
    have en : putK acc kv.1 kv.2 = acc ++ [kv] := by
      unfold putK
      rw [if_neg ?_]
      intro z
      obtain ⟨u, hu, e⟩ := List.any_eq_true.mp z
      exact hno (List.mem_map.mpr ⟨u, hu, of_decide_eq_true e⟩)
    rw [en, merge_new r (acc ++ [kv]) (by rw [List.append_assoc]; exact nd), List.append_assoc]
    rfl
theorem fkv_nodup {hf : Fil} (nd : (hf.map (·.1)).Nodup) : ((fkv hf).map (·.1)).Nodup := by
  unfold fkv
  rw [List.map_map]
  have e : hf.map ((fun q : Key × V => q.1) ∘ fun q => (Sum.inr (S q.1), V.str (S q.2))) = (hf.map (·.1)).map fun h => (Sum.inr (S h) : Key) := by
    rw [List.map_map]
    rfl
  rw [e]
  refine List.Pairwise.map _ (fun a b hab z => hab (key_S.mp z)) nd
/-! ### a list of pairs -/
section
variable {K : PySem.W.Frag} {te : TE} {tt : TT} {vs : List Nat} {σ : L2.St} {H1 : Hp} {D : Addr} {Qd : Hp → Prop} {sl : Nat}
theorem lc_pairsL {a : Addr} {xs : List V} (keep : V → Bool) (kf vf : V → V) (hS : SqL K H1 a xs) (nD : H1 D = none) (hl : xs.length < sizeLine)
    (ht : ∀ x ∈ xs, ∀ H' (R : Bool → Hp → Prop), Same H1 H' → R (keep x) H' → tt ((wipe σ vs).set sl (some x)) H' R)
    (he : ∀ x ∈ xs, keep x = true → ∀ H' (R : VK), Same H1 H' → New H' (.tup [kf x, vf x]) R → te ((wipe σ vs).set sl (some x)) H' R)
    (hd : ∀ H' ts, Same H1 H' → H' D = some (.lst (ts.map V.ref)) → Paired (fun t x => H' t = some (.tup [kf x, vf x])) ts (xs.filter keep) → Qd H') (hw : ∀ x, wipe ((wipe σ vs).set sl (some x)) vs = wipe σ vs := by intro _; rfl) :
    ∃ W : Nat → Nat → Hp → Prop, (∃ m, W 0 m (upd H1 D (.lst []))) ∧ ∀ i m H, W i m H →
      ((Itl K a).stop i H ∧ Qd H) ∨ ((Itl K a).go i H ∧ ∃ Nx : Hp → Prop, (∀ H', Nx H' → ∃ m', m' < m ∧ W (i + 1) m' H') ∧ ∀ x H', (Itl K a).yld i H x H' → gName sl x (wipe σ vs) H' fun σ2 H2 => wipe σ2 vs = wipe σ vs ∧ tt σ2 H2 fun b H3 =>
        if b = true then te σ2 H3 fun y H4 => ∃ acc, H4 D = some (.lst acc) ∧ acc.length < sizeLine ∧ Nx (upd H4 D (.lst (acc ++ [y]))) else Nx H3) := by
  have mono : ∀ {H H' : Hp} {ts : List Addr} {ys : List V}, (∀ b o, H b = some o → b ≠ D → H' b = some o) → (∃ l, H D = some (.lst l)) → Paired (fun t x => H t = some (.tup [kf x, vf x])) ts ys → Paired (fun t x => H' t = some (.tup [kf x, vf x])) ts ys := by
    intro H H' ts ys hb hD hp
    induction hp with
    | nil => exact .nil
    | cons h _ ih =>
      refine .cons (hb _ _ h fun z => ?_) ih
      obtain ⟨l, e⟩ := hD
      rw [z, e] at h
      cases h
  refine lc_list (K := K) (a := a) (xs := xs) (fun i H => Same H1 H ∧ ∃ ts, H D = some (.lst (ts.map V.ref)) ∧ Paired (fun t x => H t = some (.tup [kf x, vf x])) ts ((xs.take i).filter keep)) ⟨same_upd nD, [], upd_same, .nil⟩ (fun i H _ h => h.1.seq hS) ?_ ?_
  · rintro i x H hx ⟨s, ts, e, hp⟩
    have hm := List.mem_of_getElem? hx
    have et : xs.take (i + 1) = xs.take i ++ [x] := by
      rw [List.take_add_one, hx]
      rfl
    refine ⟨hw x, tif (k := keep x) (fun R r => ht x hm H R s r) (fun hk => he x hm hk H _ s fun T H2 s2 nT eT => ?_) (fun hk => ⟨s, ts, e, ?_⟩)⟩
    · have hlt : ts.length < sizeLine := by
        rw [Paired.length hp]
        refine Nat.lt_of_le_of_lt (List.length_filter_le _ _) ?_
        rw [List.length_take]
        exact Nat.lt_of_le_of_lt (Nat.min_le_right _ _) hl
      have nTD : T ≠ D := fun z => by
        rw [z, e] at nT
        cases nT
      refine ⟨_, s2 _ _ e, by rw [List.length_map]; exact hlt, fun b o eb => ?_, ts ++ [T], ?_, ?_⟩
      · rw [upd_ne (ne_of_none eb nD)]
        exact s2 _ _ (s _ _ eb)
      · rw [upd_same, List.map_append]
        rfl
      · rw [et, List.filter_append]
        have h1 : Paired (fun t x => (upd H2 D (.lst (ts.map V.ref ++ [.ref T]))) t = some (.tup [kf x, vf x])) ts ((xs.take i).filter keep) :=
          mono (H := H) (fun b o eb ne => by rw [upd_ne ne]; exact s2 _ _ eb) ⟨_, e⟩ hp
        have h2 : [x].filter keep = [x] := by simp [List.filter_cons, hk]
        rw [h2]
        exact h1.snoc (by rw [upd_ne nTD]; exact eT)
    · rw [et, List.filter_append]
      have h2 : [x].filter keep = [] := by simp [List.filter_cons, hk]
      rw [h2, List.append_nil]
      exact hp
  · rintro H ⟨s, ts, e, hp⟩
    rw [List.take_length] at hp
    exact hd H ts s e hp
end
section
variable {X : Cx}
def rDictP (K : PySem.W.Frag) : List V → Hp → VK → Prop := fun xs H Q => ∃ (a : Addr) (ps : List Addr) (kvs : List (Key × V)), xs = [.ref a] ∧ SqL K H a (ps.map V.ref) ∧ Paired (fun p kv => SqT K H p [kV kv.1, kv.2]) ps kvs ∧ New H (.dK (mergeK [] kvs)) Q
theorem call_dictS (hc : X.calm = true) : CallR X (.type "dict") (rDictP X.K) := CallR.weak (call_dictP hc) fun xs H Q ⟨a, ps, kvs, e, h1, h2, q⟩ => ⟨a, ps, kvs, e, h1, h2, q.at⟩
/-- xs != ys: of unlike lengths, or the very same things -/
def rNeLen (K : PySem.W.Frag) : R2 := fun x y H Q => ∃ a b xs ys, x = .ref a ∧ y = .ref b ∧ SqL K H a xs ∧ SqL K H b ys ∧ ((xs.length ≠ ys.length ∧ Q (.bl true) H) ∨ (xs = [] ∧ ys = [] ∧ Q (.bl false) H))
theorem op_neLen (hu : X.A.units + 1 < cLine) : OpR X (compareOp .NotEq) (rNeLen X.K) := by
  intro pins s σ H x y v u Q I rx ry h
  obtain ⟨a, b, xs, ys, rfl, rfl, ha, hb, hq⟩ := h
  cases (show v = Value.ref a from rx)
  cases (show u = Value.ref b from ry)
  obtain ⟨us, r1, p1, _⟩ := I.list ha
  obtain ⟨ws, r2, p2, _⟩ := I.list hb
  rcases hq with ⟨hne, q⟩ | ⟨rfl, rfl, q⟩
  · have hsz : (us.toArray.size != ws.toArray.size) = true := by
      rw [List.size_toArray, List.size_toArray, ← r1.length, ← r2.length]
      simpa using hne
    exact SeqAt.RcNeAt.lists_lengths (A := X.A) (s := s) p1.isList p2.isList hsz (by omega) X.prog X.w _ _ ⟨.bl true, H, I, rfl, q⟩
  · cases r1
    cases r2
    exact SeqAt.RcNeAt.lists (A := X.A) (s := s) (e := fun _ => true) p1.isList p2.isList rfl (by omega) (fun j h1 h2 => absurd h1 (Nat.not_lt_zero j)) X.prog X.w _ _ ⟨.bl false, H, I, rfl, q⟩
end
end Tb

set_option Elab.async false
set_option linter.all false
set_option maxRecDepth 100000
set_option maxHeartbeats 2000000
namespace Tb
open PySem PySem.Spec PyProof.Rows L2 TL
def txs (l : List (List Nat)) : List V := l.map fun y => V.str (S y)
def sgs (l : List Nat) : List V := l.map fun c => V.str (S [c])
/-- each sign of the fillings is of out or a box; each box stands at most as often as in `done` -/
structure FillOk (out boxes done : List Nat) (hf : Fil) : Prop where
  nd : (hf.map (·.1)).Nodup
  signs : ∀ q ∈ hf, ∀ c ∈ q.2, c ∈ out ∨ c ∈ boxes
  cnt : ∀ b ∈ boxes, ((hf.map (·.2)).flatten).count b ≤ done.count b
theorem count_countP (l : List Nat) (b : Nat) : l.count b = l.countP (· == b) := rfl
theorem FillOk.put {out boxes done : List Nat} {hf : Fil} (F : FillOk out boxes done hf) {h f0 x y : List Nat} (g : getF hf h = some f0) (hm : (h, f0) ∈ hf) (hx : ∀ c ∈ x, c ∈ out) (hb : ∀ b ∈ boxes, b ∉ out) (hy : ∀ c ∈ y, c ∈ boxes) (d2 : List Nat) (hd : ∀ b ∈ boxes, done.count b + y.count b ≤ d2.count b) :
    FillOk out boxes d2 (setF hf h (f0 ++ (x ++ y))) where
  nd := by rw [setF_keys]; exact F.nd
  signs := fun q hq c hc => by
    rcases setF_mem hq with e | e
    · rw [e] at hc
      rcases List.mem_append.mp hc with z | z
      · exact F.signs _ hm c z
      · rcases List.mem_append.mp z with z | z
        · exact .inl (hx c z)
        · exact .inr (hy c z)
    · exact F.signs q e c hc
  cnt := fun b hbm => by
    rw [count_countP, setF_count (· == b) F.nd g, List.countP_append]
    have h1 := F.cnt b hbm
    have h2 := hd b hbm
    rw [count_countP] at h1
    have h3 : x.countP (· == b) = 0 := List.countP_eq_zero.mpr fun c hc z => hb b hbm (by rw [← beq_iff_eq.mp z]; exact hx c hc)
    have h4 : y.countP (· == b) = y.count b := rfl
    omega
def lenF (hf : Fil) : Nat := ((hf.map (·.2)).flatten).length
theorem lenF_put {hf : Fil} {h f0 x : List Nat} (nd : (hf.map (·.1)).Nodup) (g : getF hf h = some f0) : lenF (setF hf h (f0 ++ x)) = lenF hf + x.length := by
  have e := setF_count (fun _ => true) nd g (x := x)
  simpa [lenF, List.countP_true] using e
theorem len_le {hf : Fil} {q : List Nat × List Nat} (m : q ∈ hf) : q.2.length ≤ lenF hf := by
  unfold lenF
  induction hf with
  | nil => exact (nomatch m)
  | cons r rs ih =>
    rw [List.map_cons, List.flatten_cons, List.length_append]
    rcases List.mem_cons.mp m with e | e
    · rw [e]; omega
    · have := ih e
      omega
theorem fill_start {out boxes : List Nat} {hs : List (List Nat)} (nd : hs.Nodup) : FillOk out boxes [] (hs.map fun h => (h, [])) := by
  have e0 : (hs.map fun h => (h, ([] : List Nat))).map (·.2) = hs.map fun _ => [] := by
    rw [List.map_map]
    rfl
  have e1 : ((hs.map fun h => (h, ([] : List Nat))).map (·.2)).flatten = [] := by
    rw [e0]
    induction hs with
    | nil => rfl
    | cons h r ih =>
      rw [List.map_cons, List.flatten_cons, ih (List.nodup_cons.mp nd).2 (by rw [List.map_map]; rfl)]
      rfl
  refine ⟨?_, fun q hq c hc => ?_, fun b _ => ?_⟩
  · have : (hs.map fun h => (h, ([] : List Nat))).map (·.1) = hs := by
      rw [List.map_map]
      exact List.map_id _
    rw [this]
    exact nd
  · obtain ⟨h, _, rfl⟩ := List.mem_map.mp hq
    exact (nomatch hc)
  · rw [e1]
    exact Nat.le_refl _
theorem keys_start (hs : List (List Nat)) : (hs.map fun h => (h, ([] : List Nat))).map (·.1) = hs := by
  rw [List.map_map]
  exact List.map_id _
theorem lenF_start (hs : List (List Nat)) : lenF (hs.map fun h => (h, ([] : List Nat))) = 0 := by
  unfold lenF
  rw [List.map_map]
  induction hs with
  | nil => rfl
  | cons h r ih => exact ih
theorem paired_map {α β γ : Type} {F : α → β → Prop} {g : γ → β} : ∀ {l : List α} {m : List γ}, Paired F l (m.map g) → Paired (fun a c => F a (g c)) l m
  | _, [], h => by
    cases h
    exact .nil
  | _, c :: m, h => by
    cases h with
    | cons h t => exact .cons h (paired_map t)
theorem map_paired {α β γ : Type} {F : α → β → Prop} {g : γ → β} : ∀ {l : List α} {m : List γ}, Paired (fun a c => F a (g c)) l m → Paired F l (m.map g)
  | _, [], h => by
    cases h
    exact .nil
  | _, c :: m, h => by
    cases h with
    | cons h t => exact .cons h (map_paired t)
def pick1 (l : List Nat) : V → V := fun v => match v with | .int i => .str (S [l.getD i.toNat 0]) | _ => .non
theorem pick1_num (l : List Nat) (i : Nat) : pick1 l (num i) = .str (S [l.getD i 0]) := rfl
theorem getD_perm {ks zs : List Nat} (h : ks.Perm (List.range zs.length)) : (ks.map fun i => zs.getD i 0).Perm zs := by
  have h1 := h.map fun i => zs.getD i 0
  have h2 : (List.range zs.length).map (fun i => zs.getD i 0) = zs := by
    refine List.ext_getElem (by simp) fun i h1 h2 => ?_
    rw [List.getElem_map, List.getElem_range, List.getD_eq_getElem?_getD, List.getElem?_eq_getElem h2]
    rfl
  rw [h2] at h1
  exact h1
section
variable {P : Program} {w : World} {K : PySem.W.Frag} {mg : Str → Option Value} {base : Heap}
abbrev nFill : List Str := ["_law_source_here", "_law_boxes", "_law_holders", "_law_out", "_law_holder", "_law_found", "_law_box", "_law_way", "_law_k"]
theorem scFill : FnScope nFill ["_law_source_here", "_law_boxes", "_law_holders", "_law_out"] (defScope sFill) := ⟨rfl, rfl, rfl, by decide +kernel, rfl, by decide +kernel, by decide +kernel⟩
/-- fillings of the holders, each box once at most -/
def spFill (K : PySem.W.Frag) : Sp := fun vs H Q _ => ∃ (p tb th : Addr) (n : Nat) (boxes out : List Nat) (hs : List (List Nat)), vs = [.ref p, .ref tb, .ref th, .str (S out)] ∧ Src H p n ∧ n + 100 < 1000000 ∧ SqL K H tb (sgs boxes) ∧ SqL K H th (txs hs) ∧ tb ≠ p ∧ th ≠ p ∧
  boxes.length ≤ 7 ∧ hs.length ≤ 7 ∧ boxes.Nodup ∧ hs.Nodup ∧ 0 < out.length ∧ out.length ≤ 1000 ∧ (∀ b ∈ boxes, b ∉ out) ∧
  ∀ d H' (hf : Fil), But p H H' → Src H' p (n + 100) → H d = none → H' d = some (.dK (fkv hf)) → hf.map (·.1) = hs → FillOk out boxes boxes hf → (lenF hf ≤ 100 ∧ lenF hf ≤ 4 * boxes.length + 3 * hf.length) → Q (.ref d) H'
theorem ok_fill {f : Addr} {fd : FuncData} {k : Nat} (F : Fun K "_law_fill" "_law_fill" sFill f fd) (DD : Df P w K mg base (k + 1) "_law_draw" ["_law_source_here", "_law_many"] spDrawS) (DP : Df P w K mg base (k + 2) "_law_pick" ["_law_source_here", "_law_things"] (spPick K))
    (DO : Df P w K mg base (k + 2) "_law_order" ["_law_source_here", "_law_many"] spOrder) (DC : Df P w K mg base (k + 3) "_law_piece" ["_law_source_here", "_law_out"] spPiece) (ml : mg "len" = none) (md : mg "dict" = none) : FnOk P w K mg base CX0 (k + 4) f fd ["_law_source_here", "_law_boxes", "_law_holders", "_law_out"] (spFill K) := by
  refine F.ok scFill (fun vs H Q E h => ?_) (fun cdv A outer s H vs Q E hr h => ?_)
  · obtain ⟨p, tb, th, n, boxes, out, hs, rfl, _⟩ := h
    rfl
  · obtain ⟨p, tb, th, n, boxes, out, hs, rfl, hp, hn, hB, hH, nbp, nhp, lB, lH, ndB, ndH, o0, o1, dis, q⟩ := h
    have hu := hu_of hr
    refine ⟨_, pss_cons (ps_set (i := 5) scFill.nd rfl (.inl rfl) (pe_callTy (call_dictS rfl) (by rfl) md (by decide +kernel) (pa_cons (pe_lc (own := [("_law_holder", 4)]) (g := gName 4) (tt := tYes) (te := tTupS (tCons (tVar 4) (tCons (tC (.str "")) tNil))) rfl scFill.nd
          (pi_list (pv 2)) (blkOk_by (own := [("_law_holder", 4)]) (N := nFill) (sc := defScope sFill) (by decide +kernel)) (fun _ _ _ _ _ => pg_name (i := 4) scFill.nd rfl (.inl rfl)) (fun _ _ _ _ _ => pts_nil) (fun _ _ _ _ _ => pe_tupS (pa_cons (pv 4) (pa_cons pe_str pa_nil)))) pa_nil)))
      (pss_cons (ps_for PassesOwn.never rfl (pi_list (pe_lc (own := [("_law_k", 8)]) (g := gName 8) (tt := tYes) (te := tOp (rIxL K) (tVar 1) (tVar 8)) rfl scFill.nd
          (pi_list (pe_df DO hr (pa_cons (pv 0) (pa_cons (pe_callB call_lenS (by rfl) ml PySem.boot_len (pa_cons (pv 1) pa_nil)) pa_nil)))) (blkOk_by (own := [("_law_k", 8)]) (N := nFill) (sc := defScope sFill) (by decide +kernel)) (fun _ _ _ _ _ => pg_name (i := 8) scFill.nd rfl (.inl rfl)) (fun _ _ _ _ _ => pts_nil) (fun _ _ _ _ _ => pe_ix ix_list (pv 1) (pv 8) (fun _ _ => rfl)))) (pg_name (i := 6) scFill.nd rfl (.inl rfl))
        (pss_cons (ps_set (i := 7) scFill.nd rfl (.inl rfl) (pe_df DD hr (pa_cons (pv 0) (pa_cons pe_int pa_nil))))
        (pss_one (ps_if (PW.pt (pw_and (pt_cmpR op_gt (pv 7) pe_int (nomark _)) (pw_and1 (pt_cmpR (op_neLen hu) (pv 2) (pe_lstS pa_nil) (nomark _)))))
          (C8.pss_cut (ps_set (i := 4) scFill.nd rfl (.inl rfl) (pe_ifExp (PW.pt (pw_and (pt_cmpR op_gt (pv 7) pe_int (nomark _)) (pw_and1 (pt_cmp (pc_din hu (pv 6) (pv 5)))))) (pv 6) (pe_df DP hr (pa_cons (pv 0) (pa_cons (pv 2) pa_nil)))))
          (pss_one (ps_dput hu (pv 5) (pv 4) (pe_op op_add_str (pe_op op_add_str (pe_dget hu (pv 5) (pv 4) (fun _ _ => rfl)) (pe_df DC hr (pa_cons (pv 0) (pa_cons (pv 3) pa_nil)))) (pv 6)) rfl))) pss_nil))))
      (pss_cons (ps_for PassesOwn.never rfl (pi_list (pv 2)) (pg_name (i := 4) scFill.nd rfl (.inl rfl))
        (pss_one (ps_dput hu (pv 5) (pv 4) (pe_op op_add_str (pe_dget hu (pv 5) (pv 4) (fun _ _ => rfl)) (pe_df DC hr (pa_cons (pv 0) (pa_cons (pv 3) pa_nil)))) rfl)))
      (pss_one (ps_ret (pv 5))))), ?_⟩
    have ee : Str.ofString "" = S [] := str_empty
    -- found = dict([(holder, '') ..])
    refine ⟨_, rfl, th, rfl, ⟨_, hH⟩, fun D0 nD0 => lc_pairsL (fun _ => true) id (fun _ => .str (S [])) hH nD0 (by show (hs.map _).length < _; rw [List.length_map]; exact small1000 (by omega)) (fun x hx H' R s' r => r) (fun x hx _ H' R s' hN => ?_) (fun H1 ts s1 e1 hpair => ?_)⟩
    · refine ⟨_, rfl, by show 2 ≤ sizeLine; decide, ?_⟩
      rw [ee]
      exact hN
    have hpair2 : Paired (fun p kv => SqT K H1 p [kV kv.1, kv.2]) ts (fkv (hs.map fun h => (h, []))) := by
      rw [List.filter_eq_self.mpr (fun _ _ => rfl)] at hpair
      have h1 := paired_map (m := hs) (g := fun y => V.str (S y)) hpair
      unfold fkv
      rw [List.map_map]
      exact map_paired (Paired.mono (fun a c h => SqT.of h) h1)
    refine ⟨D0, ts, fkv (hs.map fun h => (h, [])), rfl, SqL.of e1, hpair2, fun d H2 s2 nd0 e2 => ?_⟩
    have ndK : ((hs.map fun h => (h, ([] : List Nat))).map (·.1)).Nodup := by rw [keys_start]; exact ndH
    rw [merge_new _ [] (by rw [List.nil_append]; exact fkv_nodup ndK), List.nil_append] at e2
    have s12 := s1.trans s2
    have hp2 := hp.same s12
    have ndp : d ≠ p := ne_src (hp.same s1) nd0
    have ndH0 : H d = none := s1.free nd0
    -- the boxes in some order
    have hB2 := s12.seq hB
    have lb : (sgs boxes).length = boxes.length := List.length_map _
    refine ⟨_, rfl, _, rfl, tb, _, rfl, .inl hB2, p, (sgs boxes).length, n, rfl, hp2, by omega, by omega, fun a H3 ks hb3 hs3 na e3 hperm => ⟨a, rfl, ⟨_, SqL.of e3⟩, fun D nD => lc_mapL (pick1 boxes) (SqL.of e3) nD ?_ ?_ ?_⟩⟩
    · rw [List.length_map, hperm.length_eq, List.length_range]
      exact small1000 (by omega)
    · intro x hx H' R s' r
      obtain ⟨i, hi, rfl⟩ := List.mem_map.mp hx
      have hi' : i < boxes.length := by
        rw [← lb]
        exact List.mem_range.mp (hperm.mem_iff.mp hi)
      rw [pick1_num] at r
      have eg : boxes.getD i 0 = boxes[i] := by
        rw [List.getD_eq_getElem?_getD, List.getElem?_eq_getElem hi']
        rfl
      rw [eg] at r
      exact ⟨_, rfl, _, rfl, tb, _, (i : Int), _, rfl, rfl, s'.seq (hb3.seq nbp hB2), atI_nat (by unfold sgs; rw [List.getElem?_map, List.getElem?_eq_getElem hi']; rfl), r⟩
    intro H4 s4 e4
    rw [lb] at hperm
    have hall := getD_perm hperm
    have e4' : H4 D = some (.lst (sgs (ks.map fun i => boxes.getD i 0))) := by
      rw [e4, List.map_map]
      unfold sgs
      rw [List.map_map]
      rfl
    generalize (ks.map fun i => boxes.getD i 0) = all at hall e4'
    have la : all.length = boxes.length := hall.length_eq
    have hb4 : But p H H4 := (Same.but s12 p).trans (hb3.trans (Same.but s4 p))
    have hs4 : Src H4 p (n + 7) := (hs3.same s4).le (by omega)
    have ed4 : H4 d = some (.dK (fkv (hs.map fun h => (h, [])))) := s4 _ _ (hb3 _ _ e2 ndp)
    have nDp : D ≠ p := ne_src hs3 nD
    have nDH : H D = none := by
      cases z : H D with
      | none => rfl
      | some o =>
        have z' := hb3 _ _ (s12 _ _ z) nDp
        rw [nD] at z'
        cases z'
    have ndD : d ≠ D := fun z => by
      rw [z] at ndp e2
      have z' := hb3 _ _ e2 ndp
      rw [nD] at z'
      cases z'
    refine ⟨D, rfl, ⟨_, SqL.of e4'⟩, for_list (K := K) (a := D) (xs := sgs all) (fun i σ H' => ∃ v4 v6 v7 hf, σ = [some (.ref p), some (.ref tb), some (.ref th), some (.str (S out)), v4, some (.ref d), v6, v7, none] ∧ Src H' p (n + 7 + 6 * i) ∧ But p H H' ∧ H' D = some (.lst (sgs all)) ∧ H' d = some (.dK (fkv hf)) ∧ hf.map (·.1) = hs ∧ FillOk out boxes (all.take i) hf ∧ lenF hf ≤ 4 * i)
      ⟨none, none, none, hs.map fun h => (h, []), rfl, hs4, hb4, e4', ed4, keys_start hs, fill_start ndH, by rw [lenF_start]; exact Nat.zero_le _⟩ (fun i σ H' _ ⟨_, _, _, _, _, _, _, e, _⟩ => SqL.of e) ?_ ?_⟩
    · rintro i y σ H5 hi ⟨v4, v6, v7, hf, rfl, hs5, hb5, eD5, ed5, hk5, F5, l5⟩
      obtain ⟨c, hc, rfl⟩ : ∃ c, all[i]? = some c ∧ y = V.str (S [c]) := by
        unfold sgs at hi
        rw [List.getElem?_map] at hi
        cases z : all[i]? with
        | none =>
          rw [z] at hi
          cases hi
        | some c =>
          rw [z] at hi
          exact ⟨c, rfl, (Option.some.inj hi).symm⟩
      have hcb : c ∈ boxes := hall.mem_iff.mp (List.mem_of_getElem? hc)
      have hi7 : i < 7 := by
        have := (List.getElem?_eq_some_iff.mp hc).1
        omega
      have et : all.take (i + 1) = all.take i ++ [c] := by
        rw [List.take_add_one, hc]
        rfl
      have more : FillOk out boxes (all.take (i + 1)) hf := ⟨F5.nd, F5.signs, fun b hb => by
        have h1 := F5.cnt b hb
        rw [et, List.count_append]
        omega⟩
      refine ⟨_, rfl, p, 6, n + 7 + 6 * i, rfl, hs5, by omega, by decide, by decide, fun wv H6 hw hb6 hs6 => ?_⟩
      have hb6' := hb5.trans hb6
      have eD6 := hb6 _ _ eD5 nDp
      have ed6 := hb6 _ _ ed5 ndp
      refine ⟨_, rfl, _, _, rfl, rfl, _, rfl, ite2 (fun _ => ?_) (fun _ => ?_)⟩
      · refine ⟨_, rfl, Nat.zero_le _, fun z H7 s7 n7 e7 => ?_⟩
        have hH7 : SqL K H7 th (txs hs) := s7.seq (hb6'.seq nhp hH)
        have keep7 : ∃ v4 v6 v7 hf, [some (V.ref p), some (.ref tb), some (.ref th), some (.str (S out)), v4, some (.ref d), some (.str (S [c])), some (num wv), none] = [some (V.ref p), some (.ref tb), some (.ref th), some (.str (S out)), v4, some (.ref d), v6, v7, none] ∧ Src H7 p (n + 7 + 6 * (i + 1)) ∧ But p H H7 ∧ H7 D = some (.lst (sgs all)) ∧ H7 d = some (.dK (fkv hf)) ∧ hf.map (·.1) = hs ∧ FillOk out boxes (all.take (i + 1)) hf ∧ lenF hf ≤ 4 * (i + 1) := by
          exact ⟨v4, _, _, hf, rfl, (hs6.same s7).le (by omega), hb6'.trans (Same.but s7 p), s7 _ _ eD6, s7 _ _ ed6, hk5, more, by omega⟩
        refine ⟨th, z, _, [], rfl, rfl, hH7, SqL.of e7, ?_⟩
        by_cases hne : hs = []
        · refine .inr ⟨by rw [hne]; rfl, rfl, _, rfl, iteF ?_⟩
          exact ⟨v4, _, _, hf, rfl, (hs6.same s7).le (by omega), hb6'.trans (Same.but s7 p), s7 _ _ eD6, s7 _ _ ed6, hk5, more, by omega⟩
        · have hl0 : 0 < (txs hs).length := by
            show 0 < (hs.map _).length
            rw [List.length_map]
            exact List.length_pos_iff.mpr hne
          refine .inl ⟨by show (txs hs).length ≠ 0; omega, _, rfl, iteT ?_⟩
          -- the holder
          refine ⟨fun σ H' => ∃ h, h ∈ hs ∧ σ = [some (.ref p), some (.ref tb), some (.ref th), some (.str (S out)), some (.str (S h)), some (.ref d), some (.str (S [c])), some (num wv), none] ∧ Src H' p (n + 7 + 6 * i + 2) ∧ But p H H' ∧ H' D = some (.lst (sgs all)) ∧ H' d = some (.dK (fkv hf)), ?_, ?_⟩
          · have hs7 := hs6.same s7
            have other : ∀ Q' : VK, (∀ h H', h ∈ hs → Src H' p (n + 7 + 6 * i + 2) → But p H7 H' → Q' (.str (S h)) H') → tCall (spPick K) [] E0 (tCons (tVar 0) (tCons (tVar 2) tNil)) [some (.ref p), some (.ref tb), some (.ref th), some (.str (S out)), v4, some (.ref d), some (.str (S [c])), some (num wv), none] H7 Q' := fun Q' hQ => by
              refine ⟨_, rfl, _, rfl, p, n + 7 + 6 * i + 1, hs7, by omega, .inl ⟨th, _, rfl, hH7, nhp, hl0, by show (hs.map _).length < _; rw [List.length_map]; omega, fun x H8 hx hb8 hs8 => ?_⟩⟩
              obtain ⟨h, hh, rfl⟩ := List.mem_map.mp hx
              exact hQ h H8 hh hs8 hb8
            have fin8 : ∀ h H8, h ∈ hs → Src H8 p (n + 7 + 6 * i + 2) → But p H7 H8 → ∃ h', h' ∈ hs ∧ [some (V.ref p), some (.ref tb), some (.ref th), some (.str (S out)), some (.str (S h)), some (.ref d), some (.str (S [c])), some (num wv), none] = [some (V.ref p), some (.ref tb), some (.ref th), some (.str (S out)), some (.str (S h')), some (.ref d), some (.str (S [c])), some (num wv), none] ∧ Src H8 p (n + 7 + 6 * i + 2) ∧ But p H H8 ∧ H8 D = some (.lst (sgs all)) ∧ H8 d = some (.dK (fkv hf)) :=
              fun h H8 hh hs8 hb8 => ⟨h, hh, rfl, hs8, (hb6'.trans (Same.but s7 p)).trans hb8, hb8 _ _ (s7 _ _ eD6) nDp, hb8 _ _ (s7 _ _ ed6) ndp⟩
            refine ⟨_, rfl, _, _, rfl, rfl, _, rfl, ite2 (fun _ => ?_) (fun _ => ?_)⟩
            · refine ⟨_, rfl, _, rfl, d, _, rfl, DGet.k (k := Sum.inr (S [c])) (s7 _ _ ed6), _, rfl, ?_⟩
              by_cases hin : [c] ∈ hs
              · obtain ⟨f0, g0, _⟩ := getF_some (hf := hf) (h := [c]) (by rw [hk5]; exact hin)
                rw [val_fkv, g0]
                exact iteT ⟨_, rfl, fin8 [c] H7 hin (hs7.le (by omega)) (But.refl p H7)⟩
              · rw [val_fkv, getF_none (by rw [hk5]; exact hin)]
                exact iteF (other _ fun h H8 hh hs8 hb8 => fin8 h H8 hh hs8 hb8)
            · exact iteF (other _ fun h H8 hh hs8 hb8 => fin8 h H8 hh hs8 hb8)
          · rintro σ H8 ⟨h, hh, rfl, hs8, hb8, eD8, ed8⟩
            obtain ⟨f0, g0, m0⟩ := getF_some (hf := hf) (h := h) (by rw [hk5]; exact hh)
            have lf0 := len_le m0
            have lf1 : f0.length ≤ 28 := Nat.le_trans lf0 (by omega)
            have hv : valV (fkv hf) (Sum.inr (S h)) = some (.str (S f0)) := by rw [val_fkv, g0]; rfl
            have lk : (fkv hf).length ≤ 7 := by
              unfold fkv
              rw [List.length_map]
              have := congrArg List.length hk5
              rw [List.length_map] at this
              omega
            refine ⟨_, rfl, _, rfl, d, _, rfl, hv ▸ DGet.k (k := Sum.inr (S h)) ed8, _, rfl, _, rfl, p, n + 7 + 6 * i + 2, out, rfl, hs8, by omega, o0, o1, fun H9 cs hb9 hs9 l9 hc9 => ?_⟩
            refine ⟨_, _, rfl, rfl, by rw [len_S, len_S]; exact Nat.le_of_lt (small1000 (by omega)), _, rfl, _, _, rfl, rfl, by rw [S_app, len_S, len_S, List.length_append]; exact Nat.le_of_lt (small1000 (by show _ + 1 ≤ 1000; omega)), ?_⟩
            rw [S_app, S_app, List.append_assoc]
            have ed9 := hb9 _ _ ed8 ndp
            refine ⟨_, rfl, _, rfl, d, _, rfl, DPut.k (k := Sum.inr (S h)) ed9 (small1000 (by omega)), ?_⟩
            refine ⟨_, _, _, setF hf h (f0 ++ (cs ++ [c])), rfl, ?_, ?_, ?_, ?_, ?_, ?_, ?_⟩
            · exact (hs9.at (upd_ne ndp.symm)).le (by omega)
            · intro b o eb ne
              rw [upd_ne (ne_of_none eb ndH0)]
              exact hb9 _ _ (hb8 _ _ eb ne) ne
            · rw [upd_ne ndD.symm]
              exact hb9 _ _ eD8 nDp
            · rw [upd_same, put_fkv _ (by rw [hk5]; exact hh)]
            · rw [setF_keys, hk5]
            · refine F5.put g0 m0 hc9 dis (fun x hx => by rw [List.mem_singleton.mp hx]; exact hcb) _ fun b hb => ?_
              rw [et, List.count_append]
              exact Nat.le_refl _
            · rw [lenF_put F5.nd g0, List.length_append]
              show _ + (_ + 1) ≤ _
              omega
      · refine iteF ?_
        exact ⟨v4, _, _, hf, rfl, hs6.le (by omega), hb6', eD6, ed6, hk5, more, by omega⟩
    · rintro σ H5 ⟨v4, v6, v7, hf, rfl, hs5, hb5, eD5, ed5, hk5, F5, l5⟩
      have la' : (sgs all).length = all.length := List.length_map _
      rw [la'] at hs5 l5 F5
      rw [List.take_length] at F5
      have F5' : FillOk out boxes boxes hf := ⟨F5.nd, F5.signs, fun b hb => by rw [← hall.count_eq]; exact F5.cnt b hb⟩
      have lH' : hf.length = hs.length := by
        have := congrArg List.length hk5
        rw [List.length_map] at this
        exact this
      -- a last piece for each holder
      refine ⟨_, rfl, th, rfl, ⟨_, hb5.seq nhp hH⟩, for_list (K := K) (a := th) (xs := txs hs) (fun i σ H' => ∃ v4 hf, σ = [some (.ref p), some (.ref tb), some (.ref th), some (.str (S out)), v4, some (.ref d), v6, v7, none] ∧ Src H' p (n + 49 + 4 * i) ∧ But p H H' ∧ H' d = some (.dK (fkv hf)) ∧ hf.map (·.1) = hs ∧ FillOk out boxes boxes hf ∧ lenF hf ≤ 4 * boxes.length + 3 * i)
        ⟨v4, hf, rfl, hs5.le (by omega), hb5, ed5, hk5, F5', by omega⟩ (fun i σ H' _ ⟨_, _, _, _, b, _⟩ => b.seq nhp hH) ?_ ?_⟩
      · rintro i y σ H6 hi ⟨v4, hf, rfl, hs6, hb6, ed6, hk6, F6, l6⟩
        obtain ⟨h, hh, rfl⟩ := List.mem_map.mp (List.mem_of_getElem? hi)
        have hi7 : i < 7 := by
          have := (List.getElem?_eq_some_iff.mp hi).1
          unfold txs at this
          rw [List.length_map] at this
          omega
        obtain ⟨f0, g0, m0⟩ := getF_some (hf := hf) (h := h) (by rw [hk6]; exact hh)
        have lf1 : f0.length ≤ lenF hf := len_le m0
        have hv : valV (fkv hf) (Sum.inr (S h)) = some (.str (S f0)) := by rw [val_fkv, g0]; rfl
        have lk : (fkv hf).length ≤ 7 := by
          unfold fkv
          rw [List.length_map]
          have := congrArg List.length hk6
          rw [List.length_map] at this
          omega
        refine ⟨_, rfl, _, rfl, d, _, rfl, hv ▸ DGet.k (k := Sum.inr (S h)) ed6, _, rfl, _, rfl, p, n + 49 + 4 * i, out, rfl, hs6, by omega, o0, o1, fun H9 cs hb9 hs9 l9 hc9 => ?_⟩
        refine ⟨_, _, rfl, rfl, by rw [len_S, len_S]; exact Nat.le_of_lt (small1000 (by omega)), ?_⟩
        rw [S_app]
        have ed9 := hb9 _ _ ed6 ndp
        refine ⟨_, rfl, _, rfl, d, _, rfl, DPut.k (k := Sum.inr (S h)) ed9 (small1000 (by omega)), ?_⟩
        have ea : f0 ++ cs = f0 ++ (cs ++ []) := by rw [List.append_nil]
        refine ⟨_, setF hf h (f0 ++ cs), rfl, ?_, ?_, ?_, ?_, ?_, ?_⟩
        · exact (hs9.at (upd_ne ndp.symm)).le (by omega)
        · intro b o eb ne
          rw [upd_ne (ne_of_none eb ndH0)]
          exact hb9 _ _ (hb6 _ _ eb ne) ne
        · rw [upd_same, put_fkv _ (by rw [hk6]; exact hh)]
        · rw [setF_keys, hk6]
        · rw [ea]
          exact F6.put g0 m0 hc9 dis (fun x hx => absurd hx (List.not_mem_nil)) _ fun b hb => Nat.le_refl _
        · rw [lenF_put F6.nd g0]
          omega
      · rintro σ H6 ⟨v4, hf, rfl, hs6, hb6, ed6, hk6, F6, l6⟩
        have lt' : (txs hs).length = hs.length := List.length_map _
        rw [lt'] at hs6 l6
        have lh6 : hf.length = hs.length := by
          have := congrArg List.length hk6
          rw [List.length_map] at this
          exact this
        exact ⟨_, rfl, q d H6 hf hb6 (hs6.le (by omega)) ndH0 ed6 hk6 F6 ⟨by omega, by omega⟩⟩
end
end Tb

set_option Elab.async false
set_option linter.all false
set_option maxRecDepth 100000
set_option maxHeartbeats 4000000
/-! set(..) of a list of texts, or of a text's signs, of any number; len of it. -/
namespace Ts
open PySem PySem.Spec PySem.Calls PyProof.Rows
def stepS (σ : List Str) (v : Str) : List Str := if σ.any (· == v) then σ else σ ++ [v]
/-- the first i of them, each once -/
def metS (val : Nat → Str) (i : Nat) : List Str := ((List.range i).map val).foldl stepS []
theorem metS_succ (val : Nat → Str) (i : Nat) : metS val (i + 1) = stepS (metS val i) (val i) := by
  unfold metS
  rw [List.range_succ, List.map_append, List.foldl_append]
  rfl
theorem stepS_len (σ : List Str) (v : Str) : (stepS σ v).length = if σ.any (· == v) then σ.length else σ.length + 1 := by
  unfold stepS
  split <;> simp
theorem metS_le (val : Nat → Str) : ∀ i, (metS val i).length ≤ i
  | 0 => Nat.le_refl _
  | i + 1 => by
    rw [metS_succ, stepS_len]
    have ih := metS_le val i
    split <;> omega
theorem stepS_any (σ : List Str) (v k : Str) : (stepS σ v).any (· == k) = (σ.any (· == k) || decide (k = v)) := by
  unfold stepS
  by_cases h : σ.any (· == v) = true
  · rw [if_pos h]
    by_cases e : k = v
    · subst e
      rw [h]
      simp
    · simp [e]
  · rw [if_neg h, List.any_append]
    by_cases e : k = v
    · subst e
      simp
    · have hb : (v == k) = false := by simpa [beq_iff_eq] using (fun h' : v = k => e h'.symm)
      simp [hb, e]
section
variable {prog : Program} {w : World} {A : Around} {R : Result → Shared → Prop} {I : Addr} {fp wr : List Addr} {G : Array GenState → Array GenState → Prop} {n : Nat} {P : Nat → Value → Prop} {St : Nat → Shared → Prop}
theorem loopS (W : WalksS prog w A.in1 I fp wr G n P St) (b0 : Addr) (hfp : b0 ∉ fp) (val : Nat → Str) (hval : ∀ i v, P i v → ∃ t, v = .str (val i) t) (hb : n + 1 < scanBound) :
    ∀ (k i : Nat) (s : Shared), n - i = k → i ≤ n → St i s → s.heap.SetOf (PySem.strKind prog w) b0 (fun k' => (metS val i).any (· == k')) (metS val i).length →
      (∀ s', Moved (b0 :: wr) G s s' → s'.heap.SetOf (PySem.strKind prog w) b0 (fun k' => (metS val n).any (· == k')) (metS val n).length → R (.ok (.ret .none)) s') →
      codeAny (model prog w) A (.builtin "set.update.loop" ⟨[.ref b0, .ref I], []⟩) R s := by
  have hwr : b0 ∉ wr := fun h => hfp (W.sub _ h)
  have sub : ∀ b ∈ wr, b ∈ b0 :: wr := fun b h => List.mem_cons_of_mem _ h
  intro k
  induction k with
  | zero =>
    intro i s hk hi hst hS hR
    have hin : i = n := by omega
    subst hin
    refine codeAny_builtin PyProof.Rows.F.entry_set_update_loop ?_
    rw [Around.under_plainId PyProof.Rows.F.plain_set_update_loop _]
    show wpAny _ A.in1 (pyNext (.ref I) >>= _) _ _ s
    refine wpAny_bind (W.done s _ _ hst fun s' hm => ?_)
    show wpAny _ A.in1 (ret Value.none) _ _ s'
    refine wpAny_pure (hR s' (hm.mono sub) ?_)
    obtain ⟨o, es, ep, t, ho, rest⟩ := hS
    exact ⟨o, es, ep, t, hm.heap b0 _ hwr ho, rest⟩
  | succ k ih =>
    intro i s hk hi hst hS hR
    have hlt : i < n := by omega
    refine codeAny_builtin PyProof.Rows.F.entry_set_update_loop ?_
    rw [Around.under_plainId PyProof.Rows.F.plain_set_update_loop _]
    show wpAny _ A.in1 (pyNext (.ref I) >>= _) _ _ s
    refine wpAny_bind (W.item i s _ _ hlt hst fun v s' hP hst' hm => ?_)
    obtain ⟨t, rfl⟩ := hval i v hP
    have hS1 : s'.heap.SetOf (PySem.strKind prog w) b0 (fun k' => (metS val i).any (· == k')) (metS val i).length := by
      obtain ⟨o, es, ep, tb, ho, rest⟩ := hS
      exact ⟨o, es, ep, tb, hm.heap b0 _ hwr ho, rest⟩
    show wpAny _ A.in1 (holding [Value.str (val i) t] (setAdd b0 (.str (val i) t)) >>= _) _ _ s'
    refine wpAny_bind (wpAny_holding ?_)
    unfold setAdd
    refine wpAny_holding ?_
    refine wpAny_bind ((PySem.strKind prog w).pyHash (k := val i) (strKind_is _ _ _ _) ?_)
    have room : (metS val i).length + 1 < scanBound := by
      have := metS_le val i
      omega
    refine wpAny_setAddHashed_of (knd := PySem.strKind prog w) (s := { s' with toks := s'.toks + 1 }) (strKind_is _ _ _ _) rfl hS1 room fun h' hsb hS2 => ?_
    have hSi : h'.SetOf (PySem.strKind prog w) b0 (fun k' => (metS val (i + 1)).any (· == k')) (metS val (i + 1)).length :=
      SetOf_congr hS2 (fun k' => by rw [metS_succ, stepS_any]) (by rw [metS_succ, stepS_len])
    refine wpAny_pure ⟨plainId_quiet PyProof.Rows.F.plain_set_update_loop _, ih (i + 1) _ (by omega) hlt (W.frame _ s' _ _ hst' (Nat.le_succ _) fun b hbf o e => ?_) hSi fun s2 hm2 hS2' => ?_⟩
    · rw [hsb.2 b (fun h : b = b0 => hfp (by rw [← h]; exact hbf))]
      exact e
    · refine hR s2 (Moved.trans W.gtrans ((hm.mono sub).then_heap (Nat.le_succ _) fun b o hbw e => ?_) hm2) hS2'
      rw [hsb.2 b (fun h : b = b0 => hbw (by rw [h]; exact List.mem_cons_self))]
      exact e
end
section
variable {prog : Program} {w : World} {A : Around} {E : Value → Shared → Prop} {s : Shared}
abbrev newSet (led : Bool) : Obj := { cls := .type "set", dict := none, data := .set #[] 0 (.fresh 0 0 led) }
set_option maxHeartbeats 6400000 in
theorem set_of_list {l : Addr} {items : Array Value} {val : Nat → Str} {Q : Value → Shared → Prop} (hh : A.handled = none) (hl : s.heap.IsList l items) (hi : ∀ (i : Nat) (v : Value), items[i]? = some v → ∃ t, v = .str (val i) t) (hb : items.size + 1 < scanBound)
    (h : ∀ (h' : Heap) (tk : Nat), h'.SetOf (PySem.strKind prog w) s.heap.objs.size (fun k' => (metS val items.size).any (· == k')) (metS val items.size).length →
      (∀ b o, b < s.heap.objs.size → s.heap.get? b = some o → h'.get? b = some o) → Q (.ref s.heap.objs.size) { s with heap := h', toks := tk }) :
    wpAny (model prog w) A (call (.type "set") [.ref l]) Q E s := by
  obtain ⟨c, tl, hmro⟩ := PySem.F.called_set.mro
  have hmade := PySem.F.called_set.made
  have hsub := PySem.F.called_set.sub
  refine wpAny_call (codeAny_of_tree ?_)
  show wpAny _ _ (callAny (.type "set") _) _ _ _
  refine wpAny_pure ⟨Code.quiet_builtin _ (by decide +kernel), codeAny_builtin PySem.F.entry_type_call ?_⟩
  rw [Around.under_plain (weight_type_call_type "set" [.ref l] []) rfl]
  have h1 := PySem.F.called_set.notType
  have h2 := PySem.F.called_set.canCreate
  have hct := PySem.F.typeCall_set_1 (.ref l)
  repeat (any_goals (first
    | assumption
    | wp_step))
  refine codeAny_mono (code_set_new_1 (.ref l) (E := E) (Q₁ := fun obj s₁ => ∃ led : Bool, obj = .ref s.heap.objs.size ∧ s₁ = { s with heap := s.heap.push (newSet led) }) fun led => ⟨led, rfl, rfl⟩) fun r s₁ hr => ?_
  cases r with
  | error e => exact hr
  | ok fl =>
    cases fl with
    | ret obj =>
      obtain ⟨led, rfl, rfl⟩ := hr
      have hS : (s.heap.push (newSet led)).get? s.heap.objs.size = some (newSet led) := Heap.get?_push_size _ rfl
      have hT : Shared.TypeIs { s with heap := s.heap.push (newSet led) } (.ref s.heap.objs.size) "set" := ⟨_, hS, rfl⟩
      have hli := PySem.F.called_set.init.lookup
      have hbi := PySem.F.called_set.init.bind (.ref s.heap.objs.size)
      repeat (any_goals (first
        | assumption
        | wp_step))
      refine codeAny_mono (codeAny_call_builtin (R := wants (fun r s₂ => r = .none ∧ ∃ h' tk, s₂ = { s with heap := h', toks := tk } ∧ h'.SetOf (PySem.strKind prog w) s.heap.objs.size (fun k' => (metS val items.size).any (· == k')) (metS val items.size).length ∧
          (∀ b o, b < s.heap.objs.size → s.heap.get? b = some o → h'.get? b = some o)) E) PySem.F.called_set.init.plain PySem.F.entry_set_init (check_set_init_1 hT ?_)) fun r₂ s₂ hr₂ => ?_
      · obtain ⟨ol, hol, hcl, nl, hdl⟩ := hl
        obtain ⟨ocls, odict, odata, oslots⟩ := ol
        simp only at hcl hdl
        subst hcl
        subst hdl
        have hol' : (s.heap.push (newSet led)).get? l = some { cls := .type "list", dict := odict, data := .seq items nl, slots := oslots } := Heap.get?_push_of_some _ hol
        have hsls := PySem.F.sub_list_set
        have hslf := PySem.F.sub_list_frozenset
        have hne : (Value.type "list" == Value.type "dict") = false := by decide
        have hl1 : (s.heap.push (newSet led)).IsList l items := ⟨_, hol', rfl, nl, rfl⟩
        unfold Builtin.«set.__init__» noKeywords Builtin.Frozenset.updateFrom
        generalize hPI : pyIter = PI
        wp_walk
        subst hPI
        refine wpAny_pyIter_list hl1 ?_
        refine wpAny_bind (wpAny_runValue ?_)
        have hlS : l < s.heap.objs.size := Heap.lt_size hol
        have hh3 : A.in1.in1.in1.handled = none := by simp [hh]
        have sz : (s.heap.push (newSet led)).objs.size = s.heap.objs.size + 1 := Heap.size_push _ _
        have hneI : l ≠ (s.heap.push (newSet led)).objs.size := by
          rw [sz]
          exact Nat.ne_of_lt (Nat.lt_succ_of_lt hlS)
        have hSf : s.heap.objs.size ∉ [(s.heap.push (newSet led)).objs.size, l] := by
          rw [sz]
          simp only [List.mem_cons, List.not_mem_nil, or_false, not_or]
          exact ⟨Nat.ne_of_lt (Nat.lt_succ_self _), Nat.ne_of_gt hlS⟩
        refine loopS ((Walks.list hh3 _ l hneI items).toS) s.heap.objs.size hSf val hi hb (items.size - 0) 0 _ (by omega) (Nat.zero_le _) ⟨⟨_, Heap.get?_push_size _ rfl, rfl, rfl⟩, (hl1.push _)⟩ ?hS0 ?hR
        case hS0 =>
          have hget : ((s.heap.push (newSet led)).push { cls := .type "list_iterator", data := .fields #[.ref l, .int 0 0] }).get? s.heap.objs.size = some (newSet led) := Heap.get?_push_of_some _ hS
          exact SetOf_congr ((setObjOf_fresh (knd := PySem.strKind prog w) led).setOf hget (by unfold scanBound; omega)) (fun _ => rfl) rfl
        case hR =>
          intro s' hm hS'
          obtain ⟨h', g', d', tk', os'⟩ := s'
          have eg : g' = s.gens := hm.gens
          have ed : d' = s.drawn := hm.drawn
          have eo : os' = s.os := hm.os
          subst eg
          subst ed
          subst eo
          show wpAny _ _ _ _ _ _
          refine wpAny_pure ?_
          show wpAny _ _ (ret Value.none) _ _ _
          refine wpAny_pure ⟨rfl, h', tk', rfl, hS', fun b o hbs e => ?_⟩
          refine hm.heap b o ?_ (Heap.get?_push_of_some _ (Heap.get?_push_of_some _ e))
          rw [sz]
          simp only [List.mem_cons, List.not_mem_nil, or_false, not_or]
          exact ⟨Nat.ne_of_lt hbs, Nat.ne_of_lt (Nat.lt_succ_of_lt hbs)⟩
      · cases r₂ with
        | error e => exact hr₂
        | ok fl₂ =>
          cases fl₂ with
          | ret r =>
            obtain ⟨rfl, h', tk, rfl, hS', hk'⟩ := hr₂
            repeat (any_goals (first
              | assumption
              | wp_step))
            exact h _ _ hS' hk'
          | _ => exact hr₂.elim
    | _ => exact hr.elim
end
end Ts

set_option Elab.async false
set_option linter.all false
set_option maxRecDepth 100000
set_option maxHeartbeats 4000000
namespace Ts
open PySem PySem.Spec PySem.Calls PyProof.Rows
section
variable {prog : Program} {w : World} {A : Around} {E : Value → Shared → Prop} {s : Shared}
set_option maxHeartbeats 6400000 in
theorem set_of_tuple {l : Addr} {items : Array Value} {val : Nat → Str} {Q : Value → Shared → Prop} (hh : A.handled = none) (hl : s.heap.IsTuple l items) (hi : ∀ (i : Nat) (v : Value), items[i]? = some v → ∃ t, v = .str (val i) t) (hb : items.size + 1 < scanBound)
    (h : ∀ (h' : Heap) (tk : Nat), h'.SetOf (PySem.strKind prog w) s.heap.objs.size (fun k' => (metS val items.size).any (· == k')) (metS val items.size).length →
      (∀ b o, b < s.heap.objs.size → s.heap.get? b = some o → h'.get? b = some o) → Q (.ref s.heap.objs.size) { s with heap := h', toks := tk }) :
    wpAny (model prog w) A (call (.type "set") [.ref l]) Q E s := by
  obtain ⟨c, tl, hmro⟩ := PySem.F.called_set.mro
  have hmade := PySem.F.called_set.made
  have hsub := PySem.F.called_set.sub
  refine wpAny_call (codeAny_of_tree ?_)
  show wpAny _ _ (callAny (.type "set") _) _ _ _
  refine wpAny_pure ⟨Code.quiet_builtin _ (by decide +kernel), codeAny_builtin PySem.F.entry_type_call ?_⟩
  rw [Around.under_plain (weight_type_call_type "set" [.ref l] []) rfl]
  have h1 := PySem.F.called_set.notType
  have h2 := PySem.F.called_set.canCreate
  have hct := PySem.F.typeCall_set_1 (.ref l)
  repeat (any_goals (first
    | assumption
    | wp_step))
  refine codeAny_mono (code_set_new_1 (.ref l) (E := E) (Q₁ := fun obj s₁ => ∃ led : Bool, obj = .ref s.heap.objs.size ∧ s₁ = { s with heap := s.heap.push (newSet led) }) fun led => ⟨led, rfl, rfl⟩) fun r s₁ hr => ?_
  cases r with
  | error e => exact hr
  | ok fl =>
    cases fl with
    | ret obj =>
      obtain ⟨led, rfl, rfl⟩ := hr
      have hS : (s.heap.push (newSet led)).get? s.heap.objs.size = some (newSet led) := Heap.get?_push_size _ rfl
      have hT : Shared.TypeIs { s with heap := s.heap.push (newSet led) } (.ref s.heap.objs.size) "set" := ⟨_, hS, rfl⟩
      have hli := PySem.F.called_set.init.lookup
      have hbi := PySem.F.called_set.init.bind (.ref s.heap.objs.size)
      repeat (any_goals (first
        | assumption
        | wp_step))
      refine codeAny_mono (codeAny_call_builtin (R := wants (fun r s₂ => r = .none ∧ ∃ h' tk, s₂ = { s with heap := h', toks := tk } ∧ h'.SetOf (PySem.strKind prog w) s.heap.objs.size (fun k' => (metS val items.size).any (· == k')) (metS val items.size).length ∧
          (∀ b o, b < s.heap.objs.size → s.heap.get? b = some o → h'.get? b = some o)) E) PySem.F.called_set.init.plain PySem.F.entry_set_init (check_set_init_1 hT ?_)) fun r₂ s₂ hr₂ => ?_
      · obtain ⟨ol, hol, hcl, nl, hdl⟩ := hl
        obtain ⟨ocls, odict, odata, oslots⟩ := ol
        simp only at hcl hdl
        subst hcl
        subst hdl
        have hol' : (s.heap.push (newSet led)).get? l = some { cls := .type "tuple", dict := odict, data := .seq items nl, slots := oslots } := Heap.get?_push_of_some _ hol
        have hsls := PySem.F.sub_tuple_set
        have hslf := PySem.F.sub_tuple_frozenset
        have hne : (Value.type "tuple" == Value.type "dict") = false := by decide
        have hl1 : (s.heap.push (newSet led)).IsTuple l items := ⟨_, hol', rfl, nl, rfl⟩
        unfold Builtin.«set.__init__» noKeywords Builtin.Frozenset.updateFrom
        generalize hPI : pyIter = PI
        wp_walk
        subst hPI
        refine wpAny_pyIter_tuple hl1 ?_
        refine wpAny_bind (wpAny_runValue ?_)
        have hlS : l < s.heap.objs.size := Heap.lt_size hol
        have hh3 : A.in1.in1.in1.handled = none := by simp [hh]
        have sz : (s.heap.push (newSet led)).objs.size = s.heap.objs.size + 1 := Heap.size_push _ _
        have hneI : l ≠ (s.heap.push (newSet led)).objs.size := by
          rw [sz]
          exact Nat.ne_of_lt (Nat.lt_succ_of_lt hlS)
        have hSf : s.heap.objs.size ∉ [(s.heap.push (newSet led)).objs.size, l] := by
          rw [sz]
          simp only [List.mem_cons, List.not_mem_nil, or_false, not_or]
          exact ⟨Nat.ne_of_lt (Nat.lt_succ_self _), Nat.ne_of_gt hlS⟩
        refine loopS ((Walks.tuple hh3 _ l hneI items).toS) s.heap.objs.size hSf val hi hb (items.size - 0) 0 _ (by omega) (Nat.zero_le _) ⟨⟨_, Heap.get?_push_size _ rfl, rfl, rfl⟩, (hl1.push _)⟩ ?hS0 ?hR
        case hS0 =>
          have hget : ((s.heap.push (newSet led)).push { cls := .type "tuple_iterator", data := .fields #[.ref l, .int 0 0] }).get? s.heap.objs.size = some (newSet led) := Heap.get?_push_of_some _ hS
          exact SetOf_congr ((setObjOf_fresh (knd := PySem.strKind prog w) led).setOf hget (by unfold scanBound; omega)) (fun _ => rfl) rfl
        case hR =>
          intro s' hm hS'
          obtain ⟨h', g', d', tk', os'⟩ := s'
          have eg : g' = s.gens := hm.gens
          have ed : d' = s.drawn := hm.drawn
          have eo : os' = s.os := hm.os
          subst eg
          subst ed
          subst eo
          show wpAny _ _ _ _ _ _
          refine wpAny_pure ?_
          show wpAny _ _ (ret Value.none) _ _ _
          refine wpAny_pure ⟨rfl, h', tk', rfl, hS', fun b o hbs e => ?_⟩
          refine hm.heap b o ?_ (Heap.get?_push_of_some _ (Heap.get?_push_of_some _ e))
          rw [sz]
          simp only [List.mem_cons, List.not_mem_nil, or_false, not_or]
          exact ⟨Nat.ne_of_lt hbs, Nat.ne_of_lt (Nat.lt_succ_of_lt hbs)⟩
      · cases r₂ with
        | error e => exact hr₂
        | ok fl₂ =>
          cases fl₂ with
          | ret r =>
            obtain ⟨rfl, h', tk, rfl, hS', hk'⟩ := hr₂
            repeat (any_goals (first
              | assumption
              | wp_step))
            exact h _ _ hS' hk'
          | _ => exact hr₂.elim
    | _ => exact hr.elim
end
end Ts

set_option Elab.async false
set_option linter.all false
set_option maxRecDepth 100000
set_option maxHeartbeats 4000000
namespace Ts
open PySem PySem.Spec PySem.Calls PyProof.Rows
section
variable {prog : Program} {w : World} {A : Around} {E : Value → Shared → Prop} {s : Shared}
set_option maxHeartbeats 6400000 in
theorem set_of_str {x : Str} {u : Tok} {val : Nat → Str} {Q : Value → Shared → Prop} (hh : A.handled = none) (hi : ∀ (i : Nat) (v : Value), SignAt x i v → ∃ t, v = .str (val i) t) (hb : x.cps.size + 1 < scanBound)
    (h : ∀ (h' : Heap) (tk : Nat), h'.SetOf (PySem.strKind prog w) s.heap.objs.size (fun k' => (metS val x.cps.size).any (· == k')) (metS val x.cps.size).length →
      (∀ b o, b < s.heap.objs.size → s.heap.get? b = some o → h'.get? b = some o) → Q (.ref s.heap.objs.size) { s with heap := h', toks := tk }) :
    wpAny (model prog w) A (call (.type "set") [.str x u]) Q E s := by
  obtain ⟨c, tl, hmro⟩ := PySem.F.called_set.mro
  have hmade := PySem.F.called_set.made
  have hsub := PySem.F.called_set.sub
  refine wpAny_call (codeAny_of_tree ?_)
  show wpAny _ _ (callAny (.type "set") _) _ _ _
  refine wpAny_pure ⟨Code.quiet_builtin _ (by decide +kernel), codeAny_builtin PySem.F.entry_type_call ?_⟩
  rw [Around.under_plain (weight_type_call_type "set" [.str x u] []) rfl]
  have h1 := PySem.F.called_set.notType
  have h2 := PySem.F.called_set.canCreate
  have hct := PySem.F.typeCall_set_1 (.str x u)
  repeat (any_goals (first
    | assumption
    | wp_step))
  refine codeAny_mono (code_set_new_1 (.str x u) (E := E) (Q₁ := fun obj s₁ => ∃ led : Bool, obj = .ref s.heap.objs.size ∧ s₁ = { s with heap := s.heap.push (newSet led) }) fun led => ⟨led, rfl, rfl⟩) fun r s₁ hr => ?_
  cases r with
  | error e => exact hr
  | ok fl =>
    cases fl with
    | ret obj =>
      obtain ⟨led, rfl, rfl⟩ := hr
      have hS : (s.heap.push (newSet led)).get? s.heap.objs.size = some (newSet led) := Heap.get?_push_size _ rfl
      have hT : Shared.TypeIs { s with heap := s.heap.push (newSet led) } (.ref s.heap.objs.size) "set" := ⟨_, hS, rfl⟩
      have hli := PySem.F.called_set.init.lookup
      have hbi := PySem.F.called_set.init.bind (.ref s.heap.objs.size)
      repeat (any_goals (first
        | assumption
        | wp_step))
      refine codeAny_mono (codeAny_call_builtin (R := wants (fun r s₂ => r = .none ∧ ∃ h' tk, s₂ = { s with heap := h', toks := tk } ∧ h'.SetOf (PySem.strKind prog w) s.heap.objs.size (fun k' => (metS val x.cps.size).any (· == k')) (metS val x.cps.size).length ∧
          (∀ b o, b < s.heap.objs.size → s.heap.get? b = some o → h'.get? b = some o)) E) PySem.F.called_set.init.plain PySem.F.entry_set_init (check_set_init_1 hT ?_)) fun r₂ s₂ hr₂ => ?_
      · have hsls := PySem.F.sub_str_set
        have hslf := PySem.F.sub_str_frozenset
        have hne : (Value.type "str" == Value.type "dict") = false := by decide
        unfold Builtin.«set.__init__» noKeywords Builtin.Frozenset.updateFrom
        generalize hPI : pyIter = PI
        wp_walk
        subst hPI
        refine wpAny_pyIter_str fun oI StI hW hst => ?_
        refine wpAny_bind (wpAny_runValue ?_)
        have hh3 : A.in1.in1.in1.handled = none := by simp [hh]
        have sz : (s.heap.push (newSet led)).objs.size = s.heap.objs.size + 1 := Heap.size_push _ _
        have hSf : s.heap.objs.size ∉ [(s.heap.push (newSet led)).objs.size] := by
          rw [sz]
          simp only [List.mem_cons, List.not_mem_nil, or_false]
          exact Nat.ne_of_lt (Nat.lt_succ_self _)
        refine loopS ((hW _ hh3).toS) s.heap.objs.size hSf val hi hb (x.cps.size - 0) 0 _ (by omega) (Nat.zero_le _) hst ?hS0 ?hR
        case hS0 =>
          have hget : ((s.heap.push (newSet led)).push oI).get? s.heap.objs.size = some (newSet led) := Heap.get?_push_of_some _ hS
          exact SetOf_congr ((setObjOf_fresh (knd := PySem.strKind prog w) led).setOf hget (by unfold scanBound; omega)) (fun _ => rfl) rfl
        case hR =>
          intro s' hm hS'
          obtain ⟨h', g', d', tk', os'⟩ := s'
          have eg : g' = s.gens := hm.gens
          have ed : d' = s.drawn := hm.drawn
          have eo : os' = s.os := hm.os
          subst eg
          subst ed
          subst eo
          show wpAny _ _ _ _ _ _
          refine wpAny_pure ?_
          show wpAny _ _ (ret Value.none) _ _ _
          refine wpAny_pure ⟨rfl, h', tk', rfl, hS', fun b o hbs e => ?_⟩
          refine hm.heap b o ?_ (Heap.get?_push_of_some _ (Heap.get?_push_of_some _ e))
          rw [sz]
          simp only [List.mem_cons, List.not_mem_nil, or_false, not_or]
          exact ⟨Nat.ne_of_lt hbs, Nat.ne_of_lt (Nat.lt_succ_of_lt hbs)⟩
      · cases r₂ with
        | error e => exact hr₂
        | ok fl₂ =>
          cases fl₂ with
          | ret r =>
            obtain ⟨rfl, h', tk, rfl, hS', hk'⟩ := hr₂
            repeat (any_goals (first
              | assumption
              | wp_step))
            exact h _ _ hS' hk'
          | _ => exact hr₂.elim
    | _ => exact hr.elim
end
end Ts

set_option Elab.async false
set_option linter.all false
set_option maxRecDepth 100000
set_option maxHeartbeats 4000000
namespace Tb
open PySem PySem.Spec PyProof.Rows L2 TL
def dedS (xs : List Str) : List Str := xs.foldl Ts.stepS []
theorem metS_list (xs : List Str) : Ts.metS (fun i => xs.getD i Str.empty) xs.length = dedS xs := by
  unfold Ts.metS dedS
  have e : (List.range xs.length).map (fun i => xs.getD i Str.empty) = xs := by
    refine List.ext_getElem (by simp) fun i h1 h2 => ?_
    rw [List.getElem_map, List.getElem_range, List.getD_eq_getElem?_getD, List.getElem?_eq_getElem h2]
    rfl
  rw [e]
/-- len(set(a)), a a list or a tuple of texts, or a text -/
def tLenSetS (K : PySem.W.Frag) (ta : TE) : TE := fun σ H Q => ta σ H fun x H1 =>
  (∃ l, ∃ xs : List Str, x = .ref l ∧ (SqL K H1 l (xs.map V.str) ∨ SqT K H1 l (xs.map V.str)) ∧ xs.length ≤ 1000 ∧ Q (num (dedS xs).length) H1) ∨
  (∃ cs : List Nat, x = .str (S cs) ∧ cs.length ≤ 1000 ∧ Q (num (dedS (cs.map fun c => S [c])).length) H1)
section
variable {X : Cx}
theorem pe_lenSetS {a : Expr} {ta : TE} {p p2 q pos : Pos} (hc : X.calm = true) (hg : Gl X "len") (hm : X.mg "len" = none) (hg2 : Gl X "set") (hm2 : X.mg "set" = none) (ha : PE X a ta)
    (na : starEach [a] X.env = (false, eval a X.env) :: starEach [] X.env := by rfl) : PE X (.Call (.Name "len" p) [.Call (.Name "set" p2) [a] [] q] [] pos) (tLenSetS X.K ta) := by
  refine ⟨fun pins s σ H Q I h => ?_⟩
  refine Call_ (ld_blt I hg hm boot_len ?_)
  refine PyProof.Rows.callWith_builtin1 (PyProof.Rows.args_cons ?_ rfl) rfl rfl
  refine Call_ (ld_blt I hg2 hm2 boot_set ?_)
  refine PyProof.Rows.callWith_type1 (PyProof.Rows.args_cons (thn (ha.run pins s σ H _ I h) fun v s1 ⟨x, H1, I1, r1, q1⟩ => PyProof.Rows.args_nil ?_) na) na rfl
  have scan : (1002 : Nat) < scanBound := by unfold scanBound; decide
  have fin : ∀ (xs : List Str), xs.length ≤ 1000 → Q (num (dedS xs).length) H1 → ∀ (h' : Heap) (tk : Nat), h'.SetOf (PySem.strKind X.prog X.w) s1.heap.objs.size (fun k' => (Ts.metS (fun i => xs.getD i Str.empty) xs.length).any (· == k')) (Ts.metS (fun i => xs.getD i Str.empty) xs.length).length →
      (∀ b o, b < s1.heap.objs.size → s1.heap.get? b = some o → h'.get? b = some o) →
      wpAny (model X.prog X.w) X.A (spliced (backTo pos (starEach [] X.env))) (fun vs s₂ => wpAny (model X.prog X.w) X.A (call (.builtin "len") (Value.ref s1.heap.objs.size :: vs)) (EP X pins σ Q) X.xe s₂) X.xe { s1 with heap := h', toks := tk } := fun xs hl q h' tk hS hk => by
    refine PyProof.Rows.args_nil ?_
    rw [metS_list] at hS
    have hle : (dedS xs).length ≤ xs.length := by
      rw [← metS_list]
      exact Ts.metS_le _ _
    obtain ⟨o, es, ep, t, ho, hex, hd, _, _, _, hf, hn⟩ := hS
    have I2 : Inv X pins σ H1 { s1 with heap := h', toks := tk } := I1.kept fun b o e => hk b o (Heap.lt_size e) e
    exact call_len_set ho hex hd hf (by rw [hn]; omega) ⟨.int (dedS xs).length, H1, I2.tok _, ⟨_, by rw [hn]⟩, q⟩
  have strAt : ∀ (xs : List Str) (its : List Value), Vals (xs.map V.str) its → ∀ (i : Nat) (v : Value), its.toArray[i]? = some v → ∃ t, v = .str (xs.getD i Str.empty) t := by
    intro xs its r i v hv
    rw [List.getElem?_toArray] at hv
    have hlt : i < xs.length := by
      have h1 := (List.getElem?_eq_some_iff.mp hv).1
      rw [← r.length, List.length_map] at h1
      exact h1
    obtain ⟨u, hu, ru⟩ := r.get (i := i) (x := V.str xs[i]) (by rw [List.getElem?_map, List.getElem?_eq_getElem hlt]; rfl)
    rw [hv] at hu
    cases hu
    obtain ⟨t, e⟩ := ru
    exact ⟨t, by rw [e, List.getD_eq_getElem?_getD, List.getElem?_eq_getElem hlt]; rfl⟩
  rcases q1 with ⟨l, xs, rfl, hq, hl, q1⟩ | ⟨cs, rfl, hl, q1⟩
  · cases r1
    rcases hq with hq | hq
    · obtain ⟨its, r, pl, hz⟩ := I1.list hq
      have sz : its.toArray.size = xs.length := by rw [List.size_toArray, ← r.length, List.length_map]
      exact Ts.set_of_list (val := fun i => xs.getD i Str.empty) (I1.ok.hd hc) pl.isList (strAt xs its r) (by omega) fun h' tk hS hk => fin xs hl q1 h' tk (by rw [sz] at hS; exact hS) hk
    · obtain ⟨its, r, pl, hz⟩ := I1.tuple hq
      have sz : its.toArray.size = xs.length := by rw [List.size_toArray, ← r.length, List.length_map]
      exact Ts.set_of_tuple (val := fun i => xs.getD i Str.empty) (I1.ok.hd hc) pl (strAt xs its r) (by omega) fun h' tk hS hk => fin xs hl q1 h' tk (by rw [sz] at hS; exact hS) hk
  · obtain ⟨t, rfl⟩ := r1
    have sz : (S cs).cps.size = (cs.map fun c => S [c]).length := by
      rw [List.length_map]
      rfl
    refine Ts.set_of_str (val := fun i => (cs.map fun c => S [c]).getD i Str.empty) (I1.ok.hd hc) (fun i v ⟨c, u, hcv, e⟩ => ⟨u, ?_⟩) (by rw [sz, List.length_map]; omega) fun h' tk hS hk => fin (cs.map fun c => S [c]) (by rw [List.length_map]; exact hl) q1 h' tk (by rw [sz] at hS; exact hS) hk
    have hc' : cs[i]? = some c := by
      rw [show (S cs).cps = cs.toArray from rfl, List.getElem?_toArray] at hcv
      exact hcv
    rw [e, List.getD_eq_getElem?_getD, List.getElem?_map, hc']
    rfl
end
/-! ### are they different -/
theorem dedS_nodup : ∀ (xs acc : List Str), (acc ++ xs).Nodup → xs.foldl Ts.stepS acc = acc ++ xs
  | [], acc, _ => (List.append_nil acc).symm
  | x :: r, acc, nd => by
    have hno : x ∉ acc := fun z => by
      rw [List.nodup_append] at nd
      exact nd.2.2 x z x List.mem_cons_self rfl
    have e : Ts.stepS acc x = acc ++ [x] := by
      unfold Ts.stepS
      rw [if_neg]
      intro z
      obtain ⟨y, hy, e⟩ := List.any_eq_true.mp z
      rw [beq_iff_eq.mp e] at hy
      exact hno hy
    rw [List.foldl_cons, e, dedS_nodup r (acc ++ [x]) (by rw [List.append_assoc]; exact nd), List.append_assoc]
    rfl
theorem dedS_len {xs : List Str} (nd : xs.Nodup) : (dedS xs).length = xs.length := by
  unfold dedS
  rw [dedS_nodup xs [] nd]
  rfl
theorem dedS_grow : ∀ (xs acc : List Str), (xs.foldl Ts.stepS acc).length ≤ acc.length + xs.length
  | [], acc => Nat.le_refl _
  | x :: r, acc => by
    rw [List.foldl_cons, List.length_cons]
    have h1 := dedS_grow r (Ts.stepS acc x)
    have h2 := Ts.stepS_len acc x
    split at h2 <;> omega
theorem stepS_mem {acc : List Str} {x y : Str} (h : y ∈ acc) : y ∈ Ts.stepS acc x := by
  unfold Ts.stepS
  split
  · exact h
  · exact List.mem_append_left _ h
theorem dedS_less : ∀ (xs acc : List Str), ((∃ x ∈ xs, x ∈ acc) ∨ ¬ xs.Nodup) → (xs.foldl Ts.stepS acc).length < acc.length + xs.length
  | [], acc, h => by
    rcases h with ⟨x, hx, _⟩ | h
    · exact (nomatch hx)
    · exact absurd List.nodup_nil h
  | x :: r, acc, h => by
    rw [List.foldl_cons, List.length_cons]
    have h2 := Ts.stepS_len acc x
    by_cases hx : acc.any (· == x) = true
    · rw [if_pos hx] at h2
      have h1 := dedS_grow r (Ts.stepS acc x)
      omega
    · rw [if_neg hx] at h2
      have hxn : x ∉ acc := fun z => hx (List.any_eq_true.mpr ⟨x, z, beq_self_eq_true x⟩)
      have h1 : (∃ y ∈ r, y ∈ Ts.stepS acc x) ∨ ¬ r.Nodup := by
        rcases h with ⟨y, hy, hya⟩ | h
        · rcases List.mem_cons.mp hy with e | e
          · rw [e] at hya
            exact absurd hya hxn
          · exact .inl ⟨y, e, stepS_mem hya⟩
        · by_cases hr : r.Nodup
          · refine .inl ⟨x, Classical.byContradiction fun z => h (List.nodup_cons.mpr ⟨z, hr⟩), ?_⟩
            unfold Ts.stepS
            rw [if_neg hx]
            exact List.mem_append_right _ List.mem_cons_self
          · exact .inr hr
      have h3 := dedS_less r _ h1
      omega
theorem dedS_iff (xs : List Str) : (dedS xs).length = xs.length ↔ xs.Nodup := by
  constructor
  · intro h
    refine Classical.byContradiction fun z => ?_
    have h1 := dedS_less xs [] (.inr z)
    unfold dedS at h
    simp at h1
    omega
  · exact dedS_len
end Tb

set_option Elab.async false
set_option linter.all false
set_option maxRecDepth 100000
set_option maxHeartbeats 2000000
namespace Tb
open PySem PySem.Spec PyProof.Rows L2 TL
/-! ### list(text) -/
def rListStr : List V → Hp → VK → Prop := fun xs H Q => ∃ cs : List Nat, xs = [.str (S cs)] ∧ cs.length ≤ 1000 ∧ New H (.lst (sgs cs)) Q
theorem vals_signs : ∀ (cs : List Nat) (us : List Value), us.length = cs.length → (∀ (j : Nat) v, us[j]? = some v → ∃ c t, cs[j]? = some c ∧ v = .str (S [c]) t) → Vals (sgs cs) us
  | [], [], _, _ => .nil
  | c :: cs, u :: us, hl, h => by
    obtain ⟨c', t, e, hu⟩ := h 0 u rfl
    cases e
    exact .cons ⟨t, hu⟩ (vals_signs cs us (Nat.succ.inj hl) fun j v hv => h (j + 1) v hv)
theorem call_listStr {X : Cx} (hc : X.calm = true) : CallR X (.type "list") rListStr := by
  intro pins s σ H xs us Q I r h
  obtain ⟨cs, rfl, hl, q⟩ := h
  obtain ⟨u, rfl, t, rfl⟩ := vals1 r
  have sz : (S cs).cps.size = cs.length := rfl
  have line : (1000 : Nat) ≤ sizeLine := by decide
  refine PySem.call_list_str (I.ok.hd hc) (S cs) t (hn := by rw [sz]; omega) fun h' tk acc c' k hS hacc => ?_
  have hv : Vals (sgs cs) acc.toList := vals_signs cs acc.toList (by rw [Array.length_toList, hacc.1, sz]) fun j v hv => by
    obtain ⟨c, u, e1, e2⟩ := hacc.2 j v (by simpa using hv)
    refine ⟨c, u, ?_, e2⟩
    rw [show (S cs).cps = cs.toArray from rfl, List.getElem?_toArray] at e1
    exact e1
  have hz : (sgs cs).length ≤ sizeLine := by
    unfold sgs
    rw [List.length_map]
    omega
  exact ⟨.ref s.heap.objs.size, _, I.laid (t' := tk) k (Nat.le_refl _) (show ObjOk X.prog X.w _ h' _ (.lst (sgs cs)) from ⟨hz, acc.toList, c', hv, by simpa using hS⟩), rfl, q.at _ (I.hok.fresh (Nat.le_refl _))⟩
/-! ### the parts of a program -/
structure Mv where
  pl : List Nat
  lt : Nat
  to : List Nat
  fl : Fil
structure Pt where
  letters : List Nat
  boxes : List Nat
  places : List (List Nat)
  moves : List Mv
  ends : Fil
def Mv.key (m : Mv) : List Key := [Sum.inr (S m.pl), Sum.inr (S [m.lt])]
/-- what stands under a key of the moves -/
def MvAt (H : Hp) (kv : List Key × V) (m : Mv) : Prop := kv.1 = m.key ∧ ∃ t d, kv.2 = .ref t ∧ H t = some (.tup [.str (S m.to), .ref d]) ∧ H d = some (.dK (fkv m.fl))
structure PtAt (H : Hp) (L : Addr) (pt : Pt) : Prop where
  ex : ∃ tp tm te kvs, H L = some (.lst [.str (S pt.letters), .str (S pt.boxes), .ref tp, .ref tm, .ref te]) ∧ H tp = some (.lst (txs pt.places)) ∧ H tm = some (.dT kvs) ∧ Paired (MvAt H) kvs pt.moves ∧ H te = some (.dK (fkv pt.ends))
theorem MvAt.same {H H' : Hp} (s : Same H H') {kv : List Key × V} {m : Mv} (h : MvAt H kv m) : MvAt H' kv m := by
  obtain ⟨e, t, d, h1, h2, h3⟩ := h
  exact ⟨e, t, d, h1, s _ _ h2, s _ _ h3⟩
theorem MvAt.but {H H' : Hp} {p : Addr} {n : Nat} (hp : Src H p n) (s : But p H H') {kv : List Key × V} {m : Mv} (h : MvAt H kv m) : MvAt H' kv m := by
  obtain ⟨e, t, d, h1, h2, h3⟩ := h
  obtain ⟨o, ho, g, sd, c, rfl, _⟩ := hp
  exact ⟨e, t, d, h1, s _ _ h2 (ne_of h2 ho (by intro z; cases z)), s _ _ h3 (ne_of h3 ho (by intro z; cases z))⟩
theorem PtAt.same {H H' : Hp} (s : Same H H') {L : Addr} {pt : Pt} (h : PtAt H L pt) : PtAt H' L pt := by
  obtain ⟨tp, tm, te, kvs, h1, h2, h3, h4, h5⟩ := h.ex
  exact ⟨tp, tm, te, kvs, s _ _ h1, s _ _ h2, s _ _ h3, Paired.mono (fun _ _ z => z.same s) h4, s _ _ h5⟩
/-- drawn fillings: each sign is a lower letter or a box, no box stands twice -/
structure FilOk (boxes : List Nat) (fs : List (List Nat)) : Prop where
  sg : ∀ f ∈ fs, ∀ c ∈ f, (97 ≤ c ∧ c ≤ 122) ∨ c ∈ boxes
  one : ∀ b ∈ boxes, fs.flatten.count b ≤ 1
  len : fs.flatten.length ≤ 100
  ti : fs.flatten.length ≤ 4 * boxes.length + 3 * fs.length
structure GoodP (pt : Pt) : Prop where
  l1 : 1 ≤ pt.letters.length
  l5 : pt.letters.length ≤ 5
  ll : ∀ c ∈ pt.letters, 97 ≤ c ∧ c ≤ 122
  ln : pt.letters.Nodup
  b6 : pt.boxes.length ≤ 6
  bb : ∀ c ∈ pt.boxes, 65 ≤ c ∧ c ≤ 90
  bn : pt.boxes.Nodup
  p1 : 1 ≤ pt.places.length
  p8 : pt.places.length ≤ 50
  pn : pt.places.Nodup
  pp : ∀ x ∈ pt.places, NameL x
  ky : (pt.moves.map fun m => (m.pl, m.lt)).Nodup
  mv : ∀ m ∈ pt.moves, m.pl ∈ pt.places ∧ m.lt ∈ pt.letters ∧ m.to ∈ pt.places ∧ m.fl.map (·.1) = pt.boxes.map (fun b => [b]) ∧ FilOk pt.boxes (m.fl.map (·.2))
  ek : (pt.ends.map (·.1)).Nodup
  en : ∀ q ∈ pt.ends, q.1 ∈ pt.places ∧ FilOk pt.boxes [q.2]
theorem putK_end {κ : Type} [DecidableEq κ] {kvs : List (κ × V)} {k : κ} (v : V) (h : k ∉ kvs.map (·.1)) : putK kvs k v = kvs ++ [(k, v)] := by
  unfold putK
  rw [if_neg]
  intro z
  obtain ⟨u, hu, e⟩ := List.any_eq_true.mp z
  exact h (List.mem_map.mpr ⟨u, hu, of_decide_eq_true e⟩)
theorem keys_of {H : Hp} : ∀ {kvs : List (List Key × V)} {ms : List Mv}, Paired (MvAt H) kvs ms → kvs.map (·.1) = ms.map Mv.key
  | _, _, .nil => rfl
  | _, _, .cons h t => by
    rw [List.map_cons, List.map_cons, h.1, keys_of t]
theorem key_inj {m : Mv} {pl : List Nat} {c : Nat} (h : m.key = [Sum.inr (S pl), Sum.inr (S [c])]) : m.pl = pl ∧ m.lt = c := by
  injection h with h1 h2
  injection h2 with h3 _
  have e := key_S.mp h3
  injection e with e1 _
  exact ⟨key_S.mp h1, e1⟩
def xyz : List Nat := [88, 89, 90, 65, 66, 80, 81]
theorem xyz_str : Str.ofString "XYZABPQ" = S xyz := by decide +kernel
def outs : List (List Nat) := [[97, 98], [97, 122], [97, 98, 99], [120]]
theorem outs_str : txs outs = [.str (Str.ofString "ab"), .str (Str.ofString "az"), .str (Str.ofString "abc"), .str (Str.ofString "x")] := by
  have h1 : Str.ofString "ab" = S [97, 98] := by decide +kernel
  have h2 : Str.ofString "az" = S [97, 122] := by decide +kernel
  have h3 : Str.ofString "abc" = S [97, 98, 99] := by decide +kernel
  have h4 : Str.ofString "x" = S [120] := by decide +kernel
  rw [h1, h2, h3, h4]
  rfl
theorem outs_ok {o : List Nat} (h : o ∈ outs) : 0 < o.length ∧ o.length ≤ 3 ∧ ∀ c ∈ o, 97 ≤ c ∧ c ≤ 122 := by
  have h' : ∀ o ∈ outs, 0 < o.length ∧ o.length ≤ 3 ∧ (o.all fun c => decide (97 ≤ c ∧ c ≤ 122)) = true := by decide
  obtain ⟨a, b, c⟩ := h' o h
  exact ⟨a, b, fun x hx => of_decide_eq_true (List.all_eq_true.mp c x hx)⟩
theorem end_str : Str.ofString "end" = S [101, 110, 100] := by decide +kernel
def MvOk (boxes letters : List Nat) (places : List (List Nat)) (m : Mv) : Prop := m.pl ∈ places ∧ m.lt ∈ letters ∧ m.to ∈ places ∧ m.fl.map (·.1) = boxes.map (fun b => [b]) ∧ FilOk boxes (m.fl.map (·.2))
structure MsOk (boxes letters : List Nat) (places done : List (List Nat)) (cur : List Nat) (sofar : List Nat) (ms : List Mv) : Prop where
  nd : (ms.map fun m => (m.pl, m.lt)).Nodup
  ok : ∀ m ∈ ms, MvOk boxes letters places m
  wh : ∀ m ∈ ms, m.pl ∈ done ∨ (m.pl = cur ∧ m.lt ∈ sofar)
structure EsOk (boxes : List Nat) (places done : List (List Nat)) (es : Fil) : Prop where
  nd : (es.map (·.1)).Nodup
  ok : ∀ q ∈ es, q.1 ∈ places ∧ FilOk boxes [q.2]
  wh : ∀ q ∈ es, q.1 ∈ done
/-- a move, its fillings apart from te -/
def MvX (te : Addr) (H : Hp) (kv : List Key × V) (m : Mv) : Prop := kv.1 = m.key ∧ ∃ t d, kv.2 = .ref t ∧ H t = some (.tup [.str (S m.to), .ref d]) ∧ H d = some (.dK (fkv m.fl)) ∧ d ≠ te
theorem MvX.at {te : Addr} {H : Hp} {kv : List Key × V} {m : Mv} (h : MvX te H kv m) : MvAt H kv m := by
  obtain ⟨e, t, d, a, b, c, _⟩ := h
  exact ⟨e, t, d, a, b, c⟩
/-- what the drawing of a program holds meanwhile -/
structure PgAt (H : Hp) (tb tpl tm te : Addr) (boxes : List Nat) (places : List (List Nat)) (ms : List Mv) (es : Fil) : Prop where
  b : H tb = some (.lst (sgs boxes))
  pl : H tpl = some (.lst (txs places))
  m : ∃ kvs, H tm = some (.dT kvs) ∧ Paired (MvX te H) kvs ms
  e : H te = some (.dK (fkv es))
theorem PgAt.same {H H' : Hp} {tb tpl tm te : Addr} {boxes : List Nat} {places : List (List Nat)} {ms : List Mv} {es : Fil} (G : PgAt H tb tpl tm te boxes places ms es) (s : Same H H') : PgAt H' tb tpl tm te boxes places ms es := by
  obtain ⟨kvs, h1, h2⟩ := G.m
  refine ⟨s _ _ G.b, s _ _ G.pl, ⟨kvs, s _ _ h1, Paired.mono (fun _ _ z => ?_) h2⟩, s _ _ G.e⟩
  obtain ⟨e, t, d, a, b, c, n⟩ := z
  exact ⟨e, t, d, a, s _ _ b, s _ _ c, n⟩
theorem PgAt.but {H H' : Hp} {p tb tpl tm te : Addr} {n : Nat} {boxes : List Nat} {places : List (List Nat)} {ms : List Mv} {es : Fil} (G : PgAt H tb tpl tm te boxes places ms es) (hp : Src H p n) (n1 : tb ≠ p) (n2 : tpl ≠ p) (s : But p H H') : PgAt H' tb tpl tm te boxes places ms es := by
  obtain ⟨kvs, h1, h2⟩ := G.m
  obtain ⟨o, ho, g, sd, c, rfl, _⟩ := id hp
  refine ⟨s _ _ G.b n1, s _ _ G.pl n2, ⟨kvs, s _ _ h1 (ne_of h1 ho (by intro z; cases z)), Paired.mono (fun _ _ z => ?_) h2⟩, s _ _ G.e (ne_of G.e ho (by intro z; cases z))⟩
  obtain ⟨e, t, d, a, b, c, n⟩ := z
  exact ⟨e, t, d, a, s _ _ b (ne_of b ho (by intro z; cases z)), s _ _ c (ne_of c ho (by intro z; cases z)), n⟩
/-- a move more -/
theorem PgAt.put {H : Hp} {tb tpl tm te t d : Addr} {boxes : List Nat} {places : List (List Nat)} {ms : List Mv} {es : Fil} {kvs : List (List Key × V)} (G : PgAt H tb tpl tm te boxes places ms es) (h1 : H tm = some (.dT kvs)) (h2 : Paired (MvX te H) kvs ms) (m : Mv) (hk : m.key ∉ kvs.map (·.1))
    (ht : H t = some (.tup [.str (S m.to), .ref d])) (hd : H d = some (.dK (fkv m.fl))) (nd : d ≠ te) : PgAt (upd H tm (.dT (putK kvs m.key (.ref t)))) tb tpl tm te boxes places (ms ++ [m]) es := by
  refine ⟨by rw [upd_ne (ne_of G.b h1 (by intro z; cases z))]; exact G.b, by rw [upd_ne (ne_of G.pl h1 (by intro z; cases z))]; exact G.pl, ⟨_, upd_same, ?_⟩, by rw [upd_ne (ne_of G.e h1 (by intro z; cases z))]; exact G.e⟩
  rw [putK_end _ hk]
  refine (Paired.mono (fun kv m' z => ?_) h2).snoc ?_
  · obtain ⟨e, t', d', a, b, c, n⟩ := z
    exact ⟨e, t', d', a, by rw [upd_ne (ne_of b h1 (by intro z; cases z))]; exact b, by rw [upd_ne (ne_of c h1 (by intro z; cases z))]; exact c, n⟩
  · exact ⟨rfl, t, d, rfl, by rw [upd_ne (ne_of ht h1 (by intro z; cases z))]; exact ht, by rw [upd_ne (ne_of hd h1 (by intro z; cases z))]; exact hd, nd⟩
/-- an end more -/
theorem PgAt.pute {H : Hp} {tb tpl tm te : Addr} {boxes : List Nat} {places : List (List Nat)} {ms : List Mv} {es es2 : Fil} (G : PgAt H tb tpl tm te boxes places ms es) : PgAt (upd H te (.dK (fkv es2))) tb tpl tm te boxes places ms es2 := by
  obtain ⟨kvs, h1, h2⟩ := G.m
  refine ⟨by rw [upd_ne (ne_of G.b G.e (by intro z; cases z))]; exact G.b, by rw [upd_ne (ne_of G.pl G.e (by intro z; cases z))]; exact G.pl, ⟨kvs, by rw [upd_ne (ne_of h1 G.e (by intro z; cases z))]; exact h1, Paired.mono (fun _ _ z => ?_) h2⟩, upd_same⟩
  obtain ⟨e, t, d, a, b, c, n⟩ := z
  exact ⟨e, t, d, a, by rw [upd_ne (ne_of b G.e (by intro z; cases z))]; exact b, by rw [upd_ne n]; exact c, n⟩
theorem keysX {te : Addr} {H : Hp} : ∀ {kvs : List (List Key × V)} {ms : List Mv}, Paired (MvX te H) kvs ms → kvs.map (·.1) = ms.map Mv.key
  | _, _, .nil => rfl
  | _, _, .cons h t => by
    rw [List.map_cons, List.map_cons, h.1, keysX t]
theorem fil_of {out boxes : List Nat} {hf : Fil} (F : FillOk out boxes boxes hf) (ho : ∀ c ∈ out, 97 ≤ c ∧ c ≤ 122) (bn : boxes.Nodup) (hl : lenF hf ≤ 100 ∧ lenF hf ≤ 4 * boxes.length + 3 * hf.length) : FilOk boxes (hf.map (·.2)) where
  sg := fun f hf' c hc => by
    obtain ⟨q, hq, rfl⟩ := List.mem_map.mp hf'
    rcases F.signs q hq c hc with h | h
    · exact .inl (ho c h)
    · exact .inr h
  one := fun b hb => Nat.le_trans (F.cnt b hb) (List.nodup_iff_count.mp bn b)
  len := hl.1
  ti := by
    rw [List.length_map]
    exact hl.2
theorem fkv_put {es : Fil} {h : List Nat} (f : List Nat) (hk : h ∉ es.map (·.1)) : putK (fkv es) (Sum.inr (S h)) (.str (S f)) = fkv (es ++ [(h, f)]) := by
  rw [putK_end]
  · unfold fkv
    rw [List.map_append]
    rfl
  · intro z
    obtain ⟨kv, hkv, e⟩ := List.mem_map.mp z
    obtain ⟨q, hq, rfl⟩ := List.mem_map.mp hkv
    exact hk (List.mem_map.mpr ⟨q, hq, key_S.mp e⟩)
section
variable {P : Program} {w : World} {K : PySem.W.Frag} {mg : Str → Option Value} {base : Heap}
abbrev nProgram : List Str := ["_law_source_here", "_law_letters", "_law_most_boxes", "_law_most_places", "_law_boxes", "_law_places", "_law_out", "_law_moves", "_law_ends", "_law_place", "_law_letter"]
theorem scProgram : FnScope nProgram ["_law_source_here", "_law_letters", "_law_most_boxes", "_law_most_places"] (defScope sProgram) := ⟨rfl, rfl, rfl, by decide +kernel, rfl, by decide +kernel, by decide +kernel⟩
def spProgram : Sp := fun vs H Q _ => ∃ (p : Addr) (n mb mp : Nat) (letters : List Nat), vs = [.ref p, .str (S letters), num mb, num mp] ∧ Src H p n ∧ n + 6000 < 1000000 ∧ 1 ≤ letters.length ∧ letters.length ≤ 5 ∧ letters.Nodup ∧ (∀ c ∈ letters, 97 ≤ c ∧ c ≤ 122) ∧ mb ≤ 6 ∧ 1 ≤ mp ∧ mp ≤ 8 ∧
  ∀ L H' (pt : Pt), But p H H' → Src H' p (n + 6000) → H L = none → PtAt H' L pt → GoodP pt → pt.letters = letters → pt.boxes.length ≤ mb → pt.places.length ≤ mp → Q (.ref L) H'
theorem ok_program {f : Addr} {fd : FuncData} {k : Nat} (F : Fun K "_law_program" "_law_program" sProgram f fd) (DD : Df P w K mg base (k + 1) "_law_draw" ["_law_source_here", "_law_many"] spDrawS) (DP : Df P w K mg base (k + 2) "_law_pick" ["_law_source_here", "_law_things"] (spPick K))
    (DS : Df P w K mg base (k + 3) "_law_signs" ["_law_source_here", "_law_signs_here", "_law_many"] spSigns) (DN : Df P w K mg base (k + 3) "_law_names" ["_law_source_here", "_law_many"] spNames) (DF : Df P w K mg base (k + 4) "_law_fill" ["_law_source_here", "_law_boxes", "_law_holders", "_law_out"] (spFill K))
    (mt : mg "list" = none) : FnOk P w K mg base CX0 (k + 5) f fd ["_law_source_here", "_law_letters", "_law_most_boxes", "_law_most_places"] spProgram := by
  refine F.ok scProgram (fun vs H Q E h => ?_) (fun cdv A outer s H vs Q E hr h => ?_)
  · obtain ⟨p, n, mb, mp, letters, rfl, _⟩ := h
    rfl
  · obtain ⟨p, n, mb, mp, letters, rfl, hp, hn, l1, l5, ln, ll, hmb, hmp1, hmp, q⟩ := h
    have hu := hu_of hr
    refine ⟨_, pss_cons (ps_set (i := 4) scProgram.nd rfl (.inl rfl) (pe_callTy (call_listStr rfl) (by rfl) mt (by decide +kernel) (pa_cons (pe_df DS hr (pa_cons (pv 0) (pa_cons pe_str (pa_cons (pe_df DD hr (pa_cons (pv 0) (pa_cons (pe_op op_add (pv 2) pe_int) pa_nil))) pa_nil)))) pa_nil)))
      (pss_cons (ps_set (i := 5) scProgram.nd rfl (.inl rfl) (pe_df DN hr (pa_cons (pv 0) (pa_cons (pe_op op_add pe_int (pe_df DD hr (pa_cons (pv 0) (pa_cons (pv 3) pa_nil)))) pa_nil))))
      (pss_cons (ps_par3 (i := 6) (j := 7) (l := 8) (by rfl) scProgram.nd rfl rfl rfl (by decide) (by decide) (by decide) rfl rfl rfl (pa_cons (pe_df DP hr (pa_cons (pv 0) (pa_cons (pe_lstS (pa_cons pe_str (pa_cons pe_str (pa_cons pe_str (pa_cons pe_str pa_nil))))) pa_nil))) (pa_cons pe_newT (pa_cons pe_newK pa_nil))) (by rfl))
      (pss_cons (ps_for PassesOwn.never rfl (pi_list (pv 5)) (pg_name (i := 9) scProgram.nd rfl (.inl rfl))
        (pss_cons (ps_for PassesOwn.never rfl (pi_str (pv 1)) (pg_name (i := 10) scProgram.nd rfl (.inl rfl))
          (pss_one (ps_if (pt_cmpR op_gt (pe_df DD hr (pa_cons (pv 0) (pa_cons pe_int pa_nil))) pe_int (nomark _))
            (pss_one (ps_dput hu (pv 7) (pe_tupS (pa_cons (pv 9) (pa_cons (pv 10) pa_nil))) (pe_tupS (pa_cons (pe_df DP hr (pa_cons (pv 0) (pa_cons (pv 5) pa_nil))) (pa_cons (pe_df DF hr (pa_cons (pv 0) (pa_cons (pv 4) (pa_cons (pv 4) (pa_cons (pv 6) pa_nil))))) pa_nil))) rfl)) pss_nil)))
        (pss_one (ps_if (pt_cmpR op_gt (pe_df DD hr (pa_cons (pv 0) (pa_cons pe_int pa_nil))) pe_int (nomark _))
          (pss_one (ps_dput hu (pv 8) (pv 9) (pe_dget hu (pe_df DF hr (pa_cons (pv 0) (pa_cons (pv 4) (pa_cons (pe_lstS (pa_cons pe_str pa_nil)) (pa_cons (pv 6) pa_nil))))) pe_str (fun _ _ => rfl)) rfl)) pss_nil))))
      (pss_one (ps_ret (pe_lstS (pa_cons (pv 1) (pa_cons (pe_join pe_str (pv 4)) (pa_cons (pv 5) (pa_cons (pv 7) (pa_cons (pv 8) pa_nil))))))))))), ?_⟩
    -- the boxes
    refine ⟨_, rfl, _, rfl, _, rfl, _, _, rfl, rfl, p, ((mb : Int) + 1), n, rfl, hp, by omega, by omega, by omega, fun d1 H1 hd1 hb1 hs1 => ?_⟩
    refine ⟨p, n + 1, d1, xyz, by rw [← xyz_str]; rfl, hs1, by show n + 1 + 7 < _; omega, by decide, fun H2 all hb2 hs2 hperm => ?_⟩
    have hall : all.length = 7 := hperm.length_eq
    have hbx : ∀ b ∈ all.take d1, b ∈ xyz := fun b hb => hperm.mem_iff.mp (List.mem_of_mem_take hb)
    have hbn : (all.take d1).Nodup := (List.take_sublist d1 all).nodup (hperm.nodup_iff.mpr (by decide))
    have hbl : (all.take d1).length ≤ mb := by
      rw [List.length_take]
      omega
    generalize all.take d1 = boxes at hbx hbn hbl
    refine ⟨boxes, rfl, by omega, fun tb H3 s3 nb e3 => ?_⟩
    have hb13 : But p H H3 := hb1.trans (hb2.trans (Same.but s3 p))
    have hs3 : Src H3 p (n + 8) := (hs2.same s3)
    have ntb : tb ≠ p := ne_src hs2 nb
    -- the places
    refine ⟨_, rfl, _, rfl, _, rfl, p, (mp : Int), n + 8, rfl, hs3, by omega, by omega, by omega, fun d2 H4 hd2 hb4 hs4 => ?_⟩
    refine ⟨_, _, rfl, rfl, p, n + 9, 1 + d2, congrArg (fun i : Int => [V.ref p, V.int i]) (show (1 + (d2 : Int)) = ((1 + d2 : Nat) : Int) by omega), hs4, by omega, by omega, fun tpl H5 places hb5 hs5 np5 e5 lpl hpp hpn => ?_⟩
    have ntpl : tpl ≠ p := ne_src hs4 np5
    have hs5' : Src H5 p (n + 89) := hs5.le (by omega)
    -- the letters that are told, no moves, no ends
    refine ⟨_, rfl, by show 4 ≤ sizeLine; decide, fun L4 H6 s6 n6 e6 => ?_⟩
    rw [← outs_str] at e6
    refine ⟨p, n + 89, hs5'.same s6, by omega, .inl ⟨L4, _, rfl, SqL.of e6, ne_src hs5' n6, by decide, by decide, fun x H7 hx hb7 hs7 => ?_⟩⟩
    obtain ⟨out, hout, rfl⟩ := List.mem_map.mp hx
    obtain ⟨o0, o3, ho⟩ := outs_ok hout
    refine fun tm H8 s8 n8 e8 => fun te H9 s9 n9 e9 => ⟨_, _, _, rfl, ?_⟩
    have s89 := s8.trans s9
    have hs9 : Src H9 p (n + 90) := hs7.same s89
    have hb9 : But p H H9 := hb13.trans (hb4.trans (hb5.trans ((Same.but s6 p).trans (hb7.trans (Same.but s89 p)))))
    have ntm : tm ≠ p := ne_src hs7 n8
    have nte : te ≠ p := ne_src (hs7.same s8) n9
    have back : ∀ {q : Addr} {Hm : Hp}, q ≠ p → But p H Hm → Hm q = none → H q = none := fun {q Hm} nq hb hn => by
      cases z : H q with
      | none => rfl
      | some o =>
        have z' := hb _ _ z nq
        rw [hn] at z'
        cases z'
    have hb7' : But p H H7 := hb13.trans (hb4.trans (hb5.trans ((Same.but s6 p).trans hb7)))
    have nHtm : H tm = none := back ntm hb7' n8
    have nHte : H te = none := back nte (hb7'.trans (Same.but s8 p)) n9
    have G9 : PgAt H9 tb tpl tm te boxes places [] [] := by
      refine ⟨s89 _ _ (hb7 _ _ (s6 _ _ (hb5 _ _ (hb4 _ _ e3 ntb) ntb)) ntb), s89 _ _ (hb7 _ _ (s6 _ _ e5) ntpl), ⟨[], s9 _ _ e8, .nil⟩, e9⟩
    have hdis : ∀ b ∈ boxes, b ∉ out := fun b hb hbo => by
      have h1 := hbx b hb
      have h2 := ho b hbo
      have h3 : ∀ b ∈ xyz, b ≤ 90 := by decide
      have h4 := h3 b h1
      omega
    refine ⟨_, rfl, tpl, rfl, ⟨_, SqL.of G9.pl⟩, for_list (K := K) (a := tpl) (xs := txs places) (fun i σ H' => ∃ v9 v10 ms es, σ = [some (.ref p), some (.str (S letters)), some (num mb), some (num mp), some (.ref tb), some (.ref tpl), some (.str (S out)), some (.ref tm), some (.ref te), v9, v10] ∧ Src H' p (n + 90 + 611 * i) ∧ But p H H' ∧ PgAt H' tb tpl tm te boxes places ms es ∧ MsOk boxes letters places (places.take i) [] [] ms ∧ EsOk boxes places (places.take i) es)
      ⟨none, none, [], [], rfl, hs9, hb9, G9, ⟨List.nodup_nil, fun m hm => (nomatch hm), fun m hm => (nomatch hm)⟩, ⟨List.nodup_nil, fun m hm => (nomatch hm), fun m hm => (nomatch hm)⟩⟩ (fun i σ H' _ ⟨_, _, _, _, _, _, _, G, _⟩ => SqL.of G.pl) ?_ ?_⟩
    · rintro i y σ H10 hi ⟨v9, v10, ms, es, rfl, hs10, hb10, G10, M10, E10⟩
      obtain ⟨pl, hpl, rfl⟩ : ∃ pl, places[i]? = some pl ∧ y = V.str (S pl) := by
        unfold txs at hi
        rw [List.getElem?_map] at hi
        cases z : places[i]? with
        | none =>
          rw [z] at hi
          cases hi
        | some c =>
          rw [z] at hi
          exact ⟨c, rfl, (Option.some.inj hi).symm⟩
      have hplm : pl ∈ places := List.mem_of_getElem? hpl
      have hi8 : i < 8 := by
        have := (List.getElem?_eq_some_iff.mp hpl).1
        omega
      have et : places.take (i + 1) = places.take i ++ [pl] := by
        rw [List.take_add_one, hpl]
        rfl
      have hnew : pl ∉ places.take i := fun z => by
        have h1 : (places.take (i + 1)).Nodup := (List.take_sublist _ _).nodup hpn
        rw [et, List.nodup_append] at h1
        exact h1.2.2 pl z pl (List.mem_singleton.mpr rfl) rfl
      -- the letters
      refine ⟨_, rfl, S letters, rfl, for_it (walk_str (z := S letters)) (fun j σ H' => ∃ v10 ms, σ = [some (.ref p), some (.str (S letters)), some (num mb), some (num mp), some (.ref tb), some (.ref tpl), some (.str (S out)), some (.ref tm), some (.ref te), some (.str (S pl)), v10] ∧ Src H' p (n + 90 + 611 * i + 102 * j) ∧ But p H H' ∧ PgAt H' tb tpl tm te boxes places ms es ∧ MsOk boxes letters places (places.take i) pl (letters.take j) ms)
        ⟨v10, ms, rfl, hs10, hb10, G10, ⟨M10.nd, M10.ok, fun m hm => .inl ((M10.wh m hm).resolve_right fun z => (nomatch z.2))⟩⟩ (fun _ _ _ _ _ => trivial) ?_ ?_⟩
      · rintro j x σ H11 H11' hj ⟨w10, ms, rfl, hs11, hb11, G11, M11⟩ ⟨rfl, c, hc, rfl⟩
        have hc' : letters[j]? = some c := by
          rw [show (S letters).cps = letters.toArray from rfl, List.getElem?_toArray] at hc
          exact hc
        have hj' : j < letters.length := (List.getElem?_eq_some_iff.mp hc').1
        have hcl : c ∈ letters := List.mem_of_getElem? hc'
        have etj : letters.take (j + 1) = letters.take j ++ [c] := by
          rw [List.take_add_one, hc']
          rfl
        have hcnew : c ∉ letters.take j := fun z => by
          have h1 : (letters.take (j + 1)).Nodup := (List.take_sublist _ _).nodup ln
          rw [etj, List.nodup_append] at h1
          exact h1.2.2 c z c (List.mem_singleton.mpr rfl) rfl
        have M11' : MsOk boxes letters places (places.take i) pl (letters.take (j + 1)) ms := ⟨M11.nd, M11.ok, fun m hm => (M11.wh m hm).imp id fun z => ⟨z.1, by rw [etj]; exact List.mem_append_left _ z.2⟩⟩
        refine ⟨_, rfl, p, 8, n + 90 + 611 * i + 102 * j, rfl, hs11, by omega, by decide, by decide, fun d H12 hd hb12 hs12 => ?_⟩
        have G12 := G11.but hs11 ntb ntpl hb12
        refine ⟨_, _, rfl, rfl, _, rfl, ite2 (fun _ => ?_) (fun _ => ?_)⟩
        · -- moves[(place, letter)] = (pick, fill)
          have lpl0 : 0 < (txs places).length := by
            show 0 < (places.map _).length
            rw [List.length_map]
            omega
          refine ⟨_, rfl, _, rfl, p, n + 90 + 611 * i + 102 * j + 1, hs12, by omega, .inl ⟨tpl, _, rfl, SqL.of G12.pl, ntpl, lpl0, by show (places.map _).length < _; rw [List.length_map]; omega, fun x H13 hx hb13' hs13 => ?_⟩⟩
          obtain ⟨to, hto, rfl⟩ := List.mem_map.mp hx
          have G13 := G12.but hs12 ntb ntpl hb13'
          have esg : sgs boxes = txs (boxes.map fun b => [b]) := by
            unfold sgs txs
            rw [List.map_map]
            rfl
          refine ⟨_, rfl, _, rfl, _, rfl, _, rfl, p, tb, tb, n + 90 + 611 * i + 102 * j + 2, boxes, out, boxes.map fun b => [b], rfl, hs13, by omega, SqL.of G13.b, by rw [← esg]; exact SqL.of G13.b, ntb, ntb, by omega, by rw [List.length_map]; omega, hbn, ?_, o0, by omega, hdis, fun fd' H14 hf hb14 hs14 nfd efd hkf FF lF => ?_⟩
          · exact List.Pairwise.map _ (fun a b hab z => hab (by injection z)) hbn
          have G14 := G13.but hs13 ntb ntpl hb14
          refine ⟨by show 2 ≤ sizeLine; decide, fun T H15 s15 n15 e15 => ?_⟩
          have G15 := G14.same s15
          refine ⟨_, rfl, _, rfl, _, rfl, by show 2 ≤ sizeLine; decide, fun kT H16 s16 n16 e16 => ?_⟩
          have G16 := G15.same s16
          obtain ⟨kvs, h1, h2⟩ := G16.m
          let m : Mv := ⟨pl, c, to, hf⟩
          have hkeys := keysX h2
          have hkn : m.key ∉ kvs.map (·.1) := fun z => by
            rw [hkeys] at z
            obtain ⟨m', hm', e'⟩ := List.mem_map.mp z
            obtain ⟨k1, k2⟩ := key_inj (m := m') e'
            rcases M11.wh m' hm' with w1 | w1
            · rw [k1] at w1
              exact hnew w1
            · rw [k2] at w1
              exact hcnew w1.2
          have lms : kvs.length < sizeLine := by
            have h3 := congrArg List.length hkeys
            rw [List.length_map, List.length_map] at h3
            rw [h3]
            -- at most eight places, five letters
            have sub : (ms.map fun m => (m.pl, m.lt)) ⊆ places.flatMap fun a => letters.map fun b => (a, b) := by
              intro x hx
              obtain ⟨m', hm', rfl⟩ := List.mem_map.mp hx
              obtain ⟨a1, a2, _⟩ := M11.ok m' hm'
              exact List.mem_flatMap.mpr ⟨m'.pl, a1, List.mem_map.mpr ⟨m'.lt, a2, rfl⟩⟩
            have hle := List.Nodup.length_le_of_subset M11.nd sub
            rw [List.length_map] at hle
            have hfl : ∀ l : List (List Nat), (l.flatMap fun a => letters.map fun b => (a, b)).length = l.length * letters.length := by
              intro l
              induction l with
              | nil => simp
              | cons a r ih =>
                rw [List.flatMap_cons, List.length_append, List.length_map, ih, List.length_cons, Nat.succ_mul]
                omega
            rw [hfl] at hle
            have : places.length * letters.length ≤ 8 * 5 := Nat.mul_le_mul (by omega) l5
            exact small1000 (by omega)
          have nfte : fd' ≠ te := fun z => by
            rw [z, G13.e] at nfd
            cases nfd
          refine ⟨tm, _, rfl, DPut.t (k := m.key) h1 e16 lms, ?_⟩
          have hs16 : Src H16 p (n + 90 + 611 * i + 102 * j + 102) := (hs14.same s15).same s16
          refine ⟨_, ms ++ [m], rfl, ?_, ?_, G16.put h1 h2 m hkn (s16 _ _ e15) (s16 _ _ (s15 _ _ efd)) nfte, ?_⟩
          · exact (hs16.at (upd_ne (Ne.symm ntm))).le (by omega)
          · intro b o eb ne
            rw [upd_ne (ne_of_none eb nHtm)]
            exact s16 _ _ (s15 _ _ (hb14 _ _ (hb13' _ _ (hb12 _ _ (hb11 _ _ eb ne) ne) ne) ne))
          · refine ⟨?_, fun m' hm' => ?_, fun m' hm' => ?_⟩
            · rw [List.map_append, List.nodup_append]
              refine ⟨M11.nd, List.nodup_cons.mpr ⟨fun h => (nomatch h), List.nodup_nil⟩, fun a ha b hb z => ?_⟩
              obtain ⟨m', hm', rfl⟩ := List.mem_map.mp ha
              rw [List.mem_singleton.mp hb] at z
              injection z with z1 z2
              rcases M11.wh m' hm' with w1 | w1
              · rw [z1] at w1
                exact hnew w1
              · rw [z2] at w1
                exact hcnew w1.2
            · rcases List.mem_append.mp hm' with h | h
              · exact M11.ok m' h
              · rw [List.mem_singleton.mp h]
                exact ⟨hplm, hcl, hto, hkf, fil_of FF ho hbn lF⟩
            · rcases List.mem_append.mp hm' with h | h
              · exact M11'.wh m' h
              · rw [List.mem_singleton.mp h]
                exact .inr ⟨rfl, by rw [etj]; exact List.mem_append_right _ (List.mem_singleton.mpr rfl)⟩
        · exact ⟨_, ms, rfl, hs12.le (by omega), hb11.trans hb12, G12, M11'⟩
      · rintro σ H11 ⟨w10, ms, rfl, hs11, hb11, G11, M11⟩
        have lsz : (S letters).cps.size = letters.length := rfl
        rw [lsz, List.take_length] at M11
        rw [lsz] at hs11
        have M12 : MsOk boxes letters places (places.take (i + 1)) [] [] ms := ⟨M11.nd, M11.ok, fun m hm => by
          rcases M11.wh m hm with h | h
          · exact .inl (by rw [et]; exact List.mem_append_left _ h)
          · exact .inl (by rw [et, h.1]; exact List.mem_append_right _ (List.mem_singleton.mpr rfl))⟩
        have E12 : EsOk boxes places (places.take (i + 1)) es := ⟨E10.nd, E10.ok, fun q hq => by rw [et]; exact List.mem_append_left _ (E10.wh q hq)⟩
        have hs11' : Src H11 p (n + 90 + 611 * i + 510) := hs11.le (by omega)
        refine ⟨_, rfl, p, 4, n + 90 + 611 * i + 510, rfl, hs11', by omega, by decide, by decide, fun d H12 hd hb12 hs12 => ?_⟩
        have G12 := G11.but hs11' ntb ntpl hb12
        refine ⟨_, _, rfl, rfl, _, rfl, ite2 (fun _ => ?_) (fun _ => ?_)⟩
        · refine ⟨_, rfl, _, rfl, by show 1 ≤ sizeLine; decide, fun Le H13 s13 n13 e13 => ?_⟩
          have e13' : H13 Le = some (.lst (txs [[101, 110, 100]])) := by
            rw [e13, end_str]
            rfl
          have G13 := G12.same s13
          have hs13 := hs12.same s13
          refine ⟨_, rfl, p, tb, Le, n + 90 + 611 * i + 511, boxes, out, [[101, 110, 100]], rfl, hs13, by omega, SqL.of G13.b, SqL.of e13', ntb, ne_src hs12 n13, by omega, by decide, hbn, by decide, o0, by omega, hdis, fun fd' H14 hf hb14 hs14 nfd efd hkf FF lF => ?_⟩
          have G14 := G13.but hs13 ntb ntpl hb14
          obtain ⟨f1, rfl⟩ : ∃ f1, hf = [([101, 110, 100], f1)] := by
            match hf, hkf with
            | [(a, b)], h =>
              have h' : [a] = [[101, 110, 100]] := h
              injection h' with h1 _
              exact ⟨b, by rw [h1]⟩
          have hv : valV (fkv [([101, 110, 100], f1)]) (Sum.inr (Str.ofString "end")) = some (.str (S f1)) := by
            rw [end_str, val_fkv, getF_cons, if_pos rfl]
            rfl
          refine ⟨fd', _, rfl, hv ▸ DGet.k (k := Sum.inr (Str.ofString "end")) efd, ?_⟩
          have hkn : pl ∉ es.map (·.1) := fun z => by
            obtain ⟨q', hq', e'⟩ := List.mem_map.mp z
            have := E10.wh q' hq'
            rw [e'] at this
            exact hnew this
          have les : (fkv es).length < sizeLine := by
            unfold fkv
            rw [List.length_map]
            have sub : (es.map (·.1)) ⊆ places := fun x hx => by
              obtain ⟨q', hq', rfl⟩ := List.mem_map.mp hx
              exact (E10.ok q' hq').1
            have hle := List.Nodup.length_le_of_subset E10.nd sub
            rw [List.length_map] at hle
            exact small1000 (by omega)
          refine ⟨_, rfl, _, rfl, te, _, rfl, DPut.k (k := Sum.inr (S pl)) G14.e les, ?_⟩
          rw [fkv_put f1 hkn]
          refine ⟨_, _, ms, es ++ [(pl, f1)], rfl, ?_, ?_, G14.pute, M12, ?_⟩
          · exact (hs14.at (upd_ne (Ne.symm nte))).le (by omega)
          · intro b o eb ne
            rw [upd_ne (ne_of_none eb nHte)]
            exact hb14 _ _ (s13 _ _ (hb12 _ _ (hb11 _ _ eb ne) ne)) ne
          · refine ⟨?_, fun q' hq' => ?_, fun q' hq' => ?_⟩
            · rw [List.map_append, List.nodup_append]
              refine ⟨E10.nd, List.nodup_cons.mpr ⟨fun h => (nomatch h), List.nodup_nil⟩, fun a ha b hb z => ?_⟩
              rw [List.mem_singleton.mp hb] at z
              rw [z] at ha
              exact hkn ha
            · rcases List.mem_append.mp hq' with h | h
              · exact E10.ok q' h
              · rw [List.mem_singleton.mp h]
                exact ⟨hplm, fil_of FF ho hbn lF⟩
            · rcases List.mem_append.mp hq' with h | h
              · exact E12.wh q' h
              · rw [List.mem_singleton.mp h, et]
                exact List.mem_append_right _ (List.mem_singleton.mpr rfl)
        · exact ⟨_, _, ms, es, rfl, hs12.le (by omega), hb11.trans hb12, G12, M12, E12⟩
    · rintro σ H10 ⟨v9, v10, ms, es, rfl, hs10, hb10, G10, M10, E10⟩
      have lt' : (txs places).length = places.length := List.length_map _
      rw [lt'] at hs10
      obtain ⟨kvs, h1, h2⟩ := G10.m
      have esg : sgs boxes = (boxes.map fun c => S [c]).map V.str := by
        unfold sgs
        rw [List.map_map]
        rfl
      refine ⟨_, rfl, ⟨_, rfl⟩, _, rfl, _, tb, boxes.map fun c => S [c], rfl, rfl, .inl (by rw [← esg]; exact SqL.of G10.b), ?_, ?_⟩
      · rw [sum_ones, str_empty, len_S]
        show _ + _ * 0 ≤ _
        omega
      rw [str_empty, join_signs]
      refine ⟨_, rfl, _, rfl, _, rfl, by show 5 ≤ sizeLine; decide, fun L H11 s11 nL eL => ?_⟩
      have up : ∀ b ∈ xyz, 65 ≤ b ∧ b ≤ 90 := by decide
      have nLp := ne_src hs10 nL
      refine q L H11 ⟨letters, boxes, places, ms, es⟩ (hb10.trans (Same.but s11 p)) ((hs10.same s11).le (by omega)) (back nLp hb10 nL) ⟨tpl, tm, te, kvs, eL, s11 _ _ G10.pl, s11 _ _ h1, Paired.mono (fun _ _ z => z.at.same s11) h2, s11 _ _ G10.e⟩ ?_ rfl hbl (by show places.length ≤ mp; omega)
      exact { l1 := l1, l5 := l5, ll := ll, ln := ln, b6 := by show boxes.length ≤ 6; omega, bb := fun c hc => up c (hbx c hc), bn := hbn, p1 := by show 1 ≤ places.length; omega, p8 := by show places.length ≤ 50; omega, pn := hpn, pp := hpp, ky := M10.nd, mv := M10.ok, ek := E10.nd, en := E10.ok }
end
end Tb

set_option Elab.async false
set_option linter.all false
set_option maxRecDepth 100000
set_option maxHeartbeats 4000000
namespace Tb
open PySem PySem.Spec PyProof.Rows L2 TL
/-! ### sorted(text) -/
def rSortStr : List V → Hp → VK → Prop := fun xs H Q => ∃ cs : List Nat, xs = [.str (S cs)] ∧ cs.length < 64 ∧ ∀ (ys : List Str), ys.Perm (cs.map fun c => S [c]) → sortedS ys = true → New H (.lst (ys.map V.str)) Q
theorem call_sortStr {X : Cx} (hcalm : X.calm = true) : CallR X (.builtin "sorted") rSortStr := by
  intro pins s σ H xs us Q I r q
  obtain ⟨cs, rfl, h64, q⟩ := q
  obtain ⟨u, rfl, t, rfl⟩ := vals1 r
  have sz : (S cs).cps.size = cs.length := rfl
  refine Calls.call_function_entry PyProof.Rows.kind_sorted PyProof.Rows.plain_sorted PyProof.Rows.entry_sorted (PyProof.Rows.args_sorted1 _) ?_
  unfold Builtin.«sorted»
  refine wpAny_bind (m := checkCount "sorted" 1 1 _) (wpAny_pure ?_)
  refine wpAny_bind (PySem.wpAny_collect_str (A := X.A.in1) (I.ok.hd hcalm) (S cs) t (hn := by rw [sz]; exact Nat.le_of_lt (small1000 (by omega))) fun s' acc hk hg hd ho hacc => ?_)
  obtain ⟨h', g', d', tk, os'⟩ := s'
  have hg' : g' = s.gens := hg
  have hd' : d' = s.drawn := hd
  have ho' : os' = s.os := ho
  subst hg' hd' ho'
  have hal : acc.toList.length = (cs.map fun c => S [c]).length := by rw [Array.length_toList, hacc.1, sz, List.length_map]
  have hS : StrsAre acc.toList (cs.map fun c => S [c]) := strs_at hal fun j v e => by
    obtain ⟨c, u, e1, e2⟩ := hacc.2 j v (by rw [← Array.getElem?_toList]; exact e)
    rw [show (S cs).cps = cs.toArray from rfl, List.getElem?_toArray] at e1
    exact ⟨S [c], u, by rw [List.getElem?_map, e1]; rfl, e2⟩
  have h64' : acc.toList.length < 64 := by rw [hal, List.length_map]; exact h64
  have I1 : Inv X pins σ H { s with heap := h', toks := tk } := I.kept hk
  refine wpAny_bind (wpAny_newList ?_ (by rw [sizeLine_eq]; omega))
  have hoL : (h'.push (seqObj "list" acc.toList.toArray 0)).get? h'.objs.size = some (seqObj "list" acc.toList.toArray 0) := Heap.get?_push_size _ rfl
  show wpAny _ _ _ _ _ { s with heap := h'.push (seqObj "list" acc.toList.toArray 0), toks := tk }
  refine wpAny_bind (wpAny_holding (wpAny_call_entry PyProof.Rows.slot_list_sort ⟨_, hoL, rfl⟩ PyProof.Rows.entry_list_sort
    (list_sort_treeK strKind_oneLt (s := { s with heap := h'.push (seqObj "list" acc.toList.toArray 0), toks := tk }) hoL hS.keysOf (fun v₁ v₂ rest e => keyKind_strs (by rw [← e]; exact hS)) h64' fun st' hp hs => ⟨_, rfl, ?_⟩)
    (PyProof.Rows.args_list_sort _)))
  obtain ⟨ys, g1, g2, g3⟩ := sorted_out_str hS hp hs
  obtain ⟨e', he'⟩ := PyProof.Rows.sortedHeap_at (vs := acc.toList) (out := (arrOf st').map (·.2)) hoL
  have hlen : (ys.map V.str).length ≤ sizeLine := by
    rw [List.length_map, g2.length_eq, List.length_map]
    exact Nat.le_trans (Nat.le_of_lt h64) (by decide)
  refine wpAny_pure ⟨_, rfl, .ref h'.objs.size, upd H h'.objs.size (.lst (ys.map V.str)), I1.laid (t' := tk) (fun b u e => ?_) (Nat.le_refl _)
    (show ObjOk X.prog X.w _ _ _ (.lst (ys.map V.str)) from ⟨hlen, ((arrOf st').map (·.2)).toList, e', vals_of_strs g1, by rw [Array.toArray_toList]; exact he'⟩), rfl, (q ys g2 g3).at _ (I1.hok.fresh (Nat.le_refl _))⟩
  have hb : b < h'.objs.size := Heap.lt_size e
  rw [PyProof.Rows.sortedHeap_old (Nat.ne_of_lt hb) (by rw [size_push']; exact Nat.lt_succ_of_lt hb)]
  exact Heap.get?_push_of_some _ e
end Tb

set_option Elab.async false
set_option linter.all false
set_option maxRecDepth 100000
namespace Tb
open PySem PySem.Spec PyProof.Rows L2
/-- the places of the program's own defs -/
abbrev sIsText : Stmt := topS 7
abbrev sIsName : Stmt := topS 9
abbrev sIsFilling : Stmt := topS 11
abbrev sAreDiff : Stmt := topS 14
abbrev sAreNames : Stmt := topS 10
abbrev sInOrder : Stmt := topS 15
abbrev sClass : Stmt := topS 20
abbrev sAreLetters : Stmt := topS 8
abbrev sAreBoxes : Stmt := topS 21
abbrev sArePlaces : Stmt := topS 22
abbrev sIsPair : Stmt := topS 12
abbrev sIsOneOf : Stmt := topS 13
abbrev sAreMoves : Stmt := topS 23
abbrev sAreFillings : Stmt := topS 24
abbrev sAreEnds : Stmt := topS 25
abbrev sKept : Stmt := topS 26
def subS (st : Stmt) (i : Nat) : Stmt := (match st with | .ClassDef (body := b) .. => b | _ => []).getD i (.Pass ⟨0, 0, 0, 0⟩)
abbrev sInit : Stmt := subS sClass 0
abbrev sLettersP : Stmt := subS sClass 1
abbrev sBoxesP : Stmt := subS sClass 2
abbrev sPlacesP : Stmt := subS sClass 3
abbrev sMove : Stmt := subS sClass 4
abbrev sEnd : Stmt := subS sClass 5
abbrev sEq : Stmt := subS sClass 6
abbrev sText : Stmt := subS sClass 7
abbrev sParse : Stmt := subS sClass 8
/-- the runs, and what the laws write themselves -/
abbrev sPartsOf : Stmt := topS 9999
abbrev sLenOf : Stmt := topS 9999
abbrev sPut : Stmt := topS 9999
abbrev sWith : Stmt := topS 9999
abbrev sRopeOf : Stmt := topS 9999
abbrev sWritten : Stmt := topS 9999
abbrev sCheck : Stmt := topS 9999
abbrev sFilled : Stmt := topS 9999
abbrev sSteps : Stmt := topS 9999
abbrev sTold : Stmt := topS 9999
abbrev sBehind : Stmt := topS 9999
abbrev sLFilled : Stmt := topS 9999
abbrev sLText : Stmt := topS 9999
abbrev sLState : Stmt := topS 9999
abbrev sLTold : Stmt := topS 9999
abbrev sLaw : Stmt := topS 56
abbrev sMovesOf : Stmt := topS 9999
abbrev sEndsOf : Stmt := topS 9999
abbrev sSame : Stmt := topS 9999
abbrev sStInit : Stmt := subS sSteps 99
abbrev sStMove : Stmt := subS sSteps 99
abbrev sStMip : Stmt := subS sSteps 99
abbrev sStAlong : Stmt := subS sSteps 99
abbrev sStFirst : Stmt := subS sSteps 99
abbrev sStBehind : Stmt := subS sSteps 99
abbrev sStShown : Stmt := subS sSteps 99
abbrev sStEnded : Stmt := subS sSteps 99
abbrev sStTold : Stmt := subS sSteps 99
end Tb

set_option Elab.async false
set_option linter.all false
set_option maxRecDepth 100000
set_option maxHeartbeats 2000000
namespace Tb
open PySem PySem.Spec PyProof.Rows L2 TL
/-- what isinstance(x, c) tells -/
def Isi (K : PySem.W.Frag) (H : Hp) (x : V) (c : String) (b : Bool) : Prop := ∃ t, TyX K H x t ∧ PySem.W.kitOne K t (.type c) = some b
theorem isi_str {K : PySem.W.Frag} {H : Hp} (y : Str) : Isi K H (.str y) "str" true := ⟨_, .base (.str y), kit_ty (by decide +kernel)⟩
def tIsi (K : PySem.W.Frag) (c : String) (ta : TE) : TE := fun σ H Q => ta σ H fun x H1 => ∃ b, Isi K H1 x c b ∧ Q (.bl b) H1
theorem pe_isi {X : Cx} {c : String} {a : Expr} {ta : TE} {p p2 pos : Pos} (ha : PE X a ta) (mi : X.mg "isinstance" = none) (hg : Gl X "isinstance") (mc : X.mg (Str.ofString c) = none) (hgc : Gl X (Str.ofString c)) (hv : bootBuiltins (Str.ofString c) = some (.type c))
    (hn : (Str.ofString c) ≠ "__name__" := by decide) (hd : ((Str.ofString c) == ("__debug__" : Str)) = false := by decide) (na : starEach [a, .Name (Str.ofString c) p2] X.env = (false, eval a X.env) :: starEach [.Name (Str.ofString c) p2] X.env := by rfl)
    (na2 : starEach [.Name (Str.ofString c) p2] X.env = (false, eval (.Name (Str.ofString c) p2) X.env) :: starEach [] X.env := by rfl) (hpl : (backTo pos (starEach [.Name (Str.ofString c) p2] X.env)).any (·.1) = false := by rfl) :
    PE X (.Call (.Name "isinstance" p) [a, .Name (Str.ofString c) p2] [] pos) (tIsi X.K c ta) :=
  PE.weak (pe_callB call_isi hg mi (by decide +kernel) (pa_cons (PE.mono ha) (pa_cons (pe_bltn hgc mc hv (v := .ty c) rfl hn hd) pa_nil na2) na) (he := na) (hpl := hpl)) fun σ H Q z => ⟨_, z, fun x H1 ⟨b, ⟨t, ty, k⟩, q⟩ => ⟨x, .ty c, t, _, b, rfl, .ty c, ty, k, q⟩⟩
/-- .. with str, the two names as they stand -/
theorem pe_isStr {X : Cx} {a : Expr} {ta : TE} {p p2 pos : Pos} (ha : PE X a ta) (mi : X.mg "isinstance" = none) (hg : Gl X "isinstance") (mc : X.mg "str" = none) (hgc : Gl X "str")
    (na : starEach [a, .Name "str" p2] X.env = (false, eval a X.env) :: starEach [.Name "str" p2] X.env := by rfl) (hpl : (backTo pos (starEach [.Name "str" p2] X.env)).any (·.1) = false := by rfl) :
    PE X (.Call (.Name "isinstance" p) [a, .Name "str" p2] [] pos) (tIsi X.K "str" ta) := pe_isi ha mi hg mc hgc (by decide +kernel) (na := na) (hpl := hpl)
theorem pe_isDict {X : Cx} {a : Expr} {ta : TE} {p p2 pos : Pos} (ha : PE X a ta) (mi : X.mg "isinstance" = none) (hg : Gl X "isinstance") (mc : X.mg "dict" = none) (hgc : Gl X "dict")
    (na : starEach [a, .Name "dict" p2] X.env = (false, eval a X.env) :: starEach [.Name "dict" p2] X.env := by rfl) (hpl : (backTo pos (starEach [.Name "dict" p2] X.env)).any (·.1) = false := by rfl) :
    PE X (.Call (.Name "isinstance" p) [a, .Name "dict" p2] [] pos) (tIsi X.K "dict" ta) := pe_isi ha mi hg mc hgc (by decide +kernel) (na := na) (hpl := hpl)
/-! ### is_text -/
def isLow (c : Nat) : Bool := decide (97 ≤ c ∧ c ≤ 122)
theorem low_az (c : Nat) : decide (c ∈ az) = isLow c := by
  unfold isLow
  rw [decide_eq_decide]
  exact az_mem
section
variable {P : Program} {w : World} {K : PySem.W.Frag} {mg : Str → Option Value} {base : Heap}
abbrev nIsText : List Str := ["thing"]
theorem scIsText : FnScope nIsText ["thing"] (defScope sIsText) := ⟨rfl, rfl, rfl, by decide +kernel, rfl, by decide +kernel, by decide +kernel⟩
def spIsText (K : PySem.W.Frag) : Sp := fun vs H Q _ => (∃ cs : List Nat, vs = [.str (S cs)] ∧ cs.length ≤ 1000 ∧ ∀ H', Same H H' → Q (.bl (cs.all isLow)) H') ∨ (∃ x, vs = [x] ∧ Isi K H x "str" false ∧ Q (.bl false) H)
theorem asc_facts : ∀ c ∈ List.range 128, (Unicode.isAlpha c = true → (65 ≤ c ∧ c ≤ 90) ∨ (97 ≤ c ∧ c ≤ 122)) ∧ (97 ≤ c ∧ c ≤ 122 → Unicode.isAlpha c = true ∧ Unicode.isLower c = true ∧ Unicode.isUpper c = false ∧ Unicode.isTitle c = false) ∧ (65 ≤ c ∧ c ≤ 90 → Unicode.isUpper c = true) := by decide +kernel
theorem lower_is (cs : List Nat) (hne : cs ≠ []) : (Txt.isascii (S cs) && (Txt.isalpha (S cs) && Txt.islower (S cs))) = cs.all isLow := by
  have e1 : Txt.isascii (S cs) = cs.all fun c => decide (c < 128) := by
    show cs.toArray.all (fun c => decide (c < 128)) = _
    rw [List.all_toArray]
  have e2 : Txt.isalpha (S cs) = cs.all Unicode.isAlpha := by
    show (decide ((S cs).length > 0) && cs.toArray.all Unicode.isAlpha) = _
    rw [List.all_toArray, len_S, decide_eq_true (List.length_pos_iff.mpr hne), Bool.true_and]
  have e3 : Txt.islower (S cs) = (cs.any Unicode.isLower && !cs.any fun c => Unicode.isUpper c || Unicode.isTitle c) := by
    show (cs.toArray.any Unicode.isLower && !cs.toArray.any fun c => Unicode.isUpper c || Unicode.isTitle c) = _
    rw [List.any_toArray, List.any_toArray]
  rw [e1, e2, e3]
  by_cases h : cs.all isLow = true
  · rw [h]
    have hl : ∀ c ∈ cs, 97 ≤ c ∧ c ≤ 122 := fun c hc => of_decide_eq_true (List.all_eq_true.mp h c hc)
    have f : ∀ c ∈ cs, c < 128 ∧ Unicode.isAlpha c = true ∧ Unicode.isLower c = true ∧ Unicode.isUpper c = false ∧ Unicode.isTitle c = false := fun c hc => by
      have h1 := hl c hc
      have h2 := (asc_facts c (List.mem_range.mpr (by omega))).2.1 h1
      exact ⟨by omega, h2⟩
    obtain ⟨c0, r, rfl⟩ : ∃ c0 r, cs = c0 :: r := by
      cases cs with
      | nil => exact absurd rfl hne
      | cons a b => exact ⟨a, b, rfl⟩
    have h1 : ((c0 :: r).all fun c => decide (c < 128)) = true := List.all_eq_true.mpr fun c hc => decide_eq_true (f c hc).1
    have h2 : (c0 :: r).all Unicode.isAlpha = true := List.all_eq_true.mpr fun c hc => (f c hc).2.1
    have h3 : (c0 :: r).any Unicode.isLower = true := List.any_eq_true.mpr ⟨c0, List.mem_cons_self, (f c0 List.mem_cons_self).2.2.1⟩
    have h4 : ((c0 :: r).any fun c => Unicode.isUpper c || Unicode.isTitle c) = false := by
      rw [Bool.eq_false_iff]
      intro z
      obtain ⟨c, hc, e⟩ := List.any_eq_true.mp z
      obtain ⟨_, _, _, a, b⟩ := f c hc
      rw [a, b] at e
      cases e
    rw [h1, h2, h3, h4]
    rfl
  · rw [Bool.eq_false_iff.mpr h, Bool.eq_false_iff]
    intro z
    rw [Bool.and_eq_true, Bool.and_eq_true, Bool.and_eq_true, Bool.not_eq_true'] at z
    obtain ⟨z1, z2, _, z4⟩ := z
    refine h (List.all_eq_true.mpr fun c hc => ?_)
    have a1 : c < 128 := of_decide_eq_true (List.all_eq_true.mp z1 c hc)
    have a2 := List.all_eq_true.mp z2 c hc
    have fa := asc_facts c (List.mem_range.mpr a1)
    rcases fa.1 a2 with u | u
    · have hu := fa.2.2 u
      have : (cs.any fun c => Unicode.isUpper c || Unicode.isTitle c) = true := List.any_eq_true.mpr ⟨c, hc, by rw [hu]; rfl⟩
      rw [this] at z4
      cases z4
    · exact decide_eq_true u
theorem ok_isText {f : Addr} {fd : FuncData} {k : Nat} (F : Fun K "is_text" "is_text" sIsText f fd) (mi : mg "isinstance" = none) (ms : mg "str" = none) : FnOk P w K mg base CX0 (k + 1) f fd ["thing"] (spIsText K) := by
  refine F.ok scIsText (fun vs H Q E h => ?_) (fun cdv A outer s H vs Q E hr h => ?_)
  · rcases h with ⟨cs, rfl, _⟩ | ⟨x, rfl, _⟩ <;> rfl
  · refine ⟨_, pss_cons (ps_if (pt_not (pt_val (pe_isStr (pv 0) mi (by rfl) ms (by rfl)))) (pss_one (ps_ret pe_bl)) pss_nil)
      (pss_one (ps_ret (pe_or (pe_cmpR op_eq (pv 0) pe_str (nomark _)) (pe_one (pe_and (pe_m0 PySem.F.slot_str_isascii PySem.F.type_str_isascii mt_isascii (pv 0)) (pe_and (pe_m0 PySem.F.slot_str_isalpha PySem.F.type_str_isalpha mt_isalpha (pv 0)) (pe_one (pe_m0 PySem.F.slot_str_islower PySem.F.type_str_islower mt_islower (pv 0))))))))), ?_⟩
    rcases h with ⟨cs, rfl, hl, q⟩ | ⟨x, rfl, hx, q⟩
    · have q0 := q H (fun _ _ e => e)
      refine ⟨_, rfl, true, isi_str _, true, rfl, iteF ?_⟩
      by_cases hne : cs = []
      · refine ⟨_, rfl, rfl, true, ?_, iteT ?_⟩
        · rw [hne]
          decide +kernel
        · rw [hne] at q0
          exact q0
      · have hd : decide (V.str (S cs) = V.str (Str.ofString "")) = false := decide_eq_false fun z => hne (by
          have e : Str.ofString "" = S [] := by decide +kernel
          rw [e] at z
          injection z with z
          exact S_inj z)
        refine ⟨_, rfl, rfl, false, by rw [hd], iteF ?_⟩
        have e := lower_is cs hne
        refine ⟨_, rfl, ⟨_, rfl⟩, S cs, rfl, rfl, trivial, _, rfl, ?_⟩
        cases h1 : Txt.isascii (S cs) with
        | false =>
          rw [h1, Bool.false_and] at e
          rw [← e] at q0
          exact iteF q0
        | true =>
          rw [h1, Bool.true_and] at e
          refine iteT ⟨_, rfl, ⟨_, rfl⟩, S cs, rfl, rfl, trivial, _, rfl, ?_⟩
          cases h2 : Txt.isalpha (S cs) with
          | false =>
            rw [h2, Bool.false_and] at e
            rw [← e] at q0
            exact iteF q0
          | true =>
            rw [h2, Bool.true_and] at e
            rw [← e] at q0
            exact iteT ⟨_, rfl, ⟨_, rfl⟩, S cs, rfl, rfl, trivial, q0⟩
    · exact ⟨_, rfl, false, hx, false, rfl, iteT q⟩
end
end Tb

set_option Elab.async false
set_option linter.all false
set_option maxRecDepth 100000
set_option maxHeartbeats 2000000
namespace Tb
open PySem PySem.Spec PyProof.Rows L2 TL
/-! ### a text's signs, ascending -/
def sortN (cs : List Nat) : List Nat := cs.mergeSort (fun a b => decide (a ≤ b))
theorem sortN_perm (cs : List Nat) : (sortN cs).Perm cs := List.mergeSort_perm _ _
theorem sortN_le (cs : List Nat) : (sortN cs).Pairwise (· ≤ ·) := by
  have h := List.pairwise_mergeSort (le := fun a b : Nat => decide (a ≤ b)) (fun a b c h1 h2 => by simp at *; omega) (fun a b => by simp; omega) cs
  exact h.imp fun h => of_decide_eq_true h
theorem sortN_of {zs cs : List Nat} (hp : zs.Perm cs) (hs : zs.Pairwise (· ≤ ·)) : zs = sortN cs :=
  List.Perm.eq_of_pairwise (fun a b _ _ h1 h2 => Nat.le_antisymm h1 h2) hs (sortN_le cs) (hp.trans (sortN_perm cs).symm)
theorem ltC_one (a b : Nat) : ltCps (S [a]).cps.toList (S [b]).cps.toList = decide (a < b) := by
  show ltCps [a] [b] = _
  by_cases h : a < b
  · simp [ltCps, h]
  · simp [ltCps, h]
theorem rising_one : ∀ (zs : List Nat) (a : Nat), risingS (S [a]) (zs.map fun c => S [c]) = true → (a :: zs).Pairwise (· ≤ ·)
  | [], a, _ => List.pairwise_singleton _ _
  | z :: r, a, h => by
    have h' : (!ltCps (S [z]).cps.toList (S [a]).cps.toList && risingS (S [z]) (r.map fun c => S [c])) = true := h
    rw [ltC_one, Bool.and_eq_true] at h'
    have h1 : a ≤ z := by
      have := h'.1
      simp at this
      exact this
    have h2 := rising_one r z h'.2
    refine List.pairwise_cons.mpr ⟨fun x hx => ?_, h2⟩
    rcases List.mem_cons.mp hx with e | e
    · rw [e]; exact h1
    · exact Nat.le_trans h1 ((List.pairwise_cons.mp h2).1 x e)
theorem sorted_signs {ys : List Str} {cs : List Nat} (hp : ys.Perm (cs.map fun c => S [c])) (hs : sortedS ys = true) : ys = (sortN cs).map fun c => S [c] := by
  have e1 : ys = (ys.map fun s => (tl s).headD 0).map fun c => S [c] := by
    rw [List.map_map]
    conv => lhs; rw [← List.map_id ys]
    refine List.map_congr_left fun y hy => ?_
    obtain ⟨c, _, rfl⟩ := List.mem_map.mp (hp.mem_iff.mp hy)
    rfl
  have hp2 : (ys.map fun s => (tl s).headD 0).Perm cs := by
    have h := hp.map fun s => (tl s).headD 0
    rw [List.map_map] at h
    have e : cs.map ((fun s => (tl s).headD 0) ∘ fun c => S [c]) = cs := by
      conv => rhs; rw [← List.map_id cs]
      exact List.map_congr_left fun c _ => rfl
    rw [e] at h
    exact h
  generalize (ys.map fun s => (tl s).headD 0) = zs at e1 hp2
  have hz : zs.Pairwise (· ≤ ·) := by
    rw [e1] at hs
    cases zs with
    | nil => exact List.Pairwise.nil
    | cons z r => exact rising_one r z hs
  rw [e1, sortN_of hp2 hz]
/-! ### are_different, in_order, is_name -/
def isName (cs : List Nat) : Bool := cs.all isLow && (decide (1 ≤ cs.length) && decide (cs.length ≤ 8))
theorem isName_iff {cs : List Nat} : isName cs = true ↔ NameL cs := by
  unfold isName NameL
  rw [Bool.and_eq_true, Bool.and_eq_true, List.all_eq_true]
  constructor
  · rintro ⟨h1, h2, h3⟩
    exact ⟨of_decide_eq_true h2, of_decide_eq_true h3, fun c hc => of_decide_eq_true (h1 c hc)⟩
  · rintro ⟨h1, h2, h3⟩
    exact ⟨fun c hc => decide_eq_true (h3 c hc), decide_eq_true h1, decide_eq_true h2⟩
theorem nodup_S {l : List (List Nat)} : (l.map S).Nodup ↔ l.Nodup := by
  constructor
  · intro h
    rw [List.nodup_iff_pairwise_ne] at h ⊢
    exact (List.pairwise_map.mp h).imp fun h e => h (by rw [e])
  · intro h
    rw [List.nodup_iff_pairwise_ne] at h ⊢
    exact List.pairwise_map.mpr (h.imp fun h e => h (S_inj e))
theorem nodup_S1 {l : List Nat} : (l.map fun c => S [c]).Nodup ↔ l.Nodup := by
  constructor
  · intro h
    rw [List.nodup_iff_pairwise_ne] at h ⊢
    exact (List.pairwise_map.mp h).imp fun h e => h (by rw [e])
  · intro h
    rw [List.nodup_iff_pairwise_ne] at h ⊢
    exact List.pairwise_map.mpr (h.imp fun h e => h (by have := S_inj e; injection this))
theorem num_eq (a b : Nat) : decide (num a = num b) = decide (a = b) := by
  rw [decide_eq_decide]
  unfold num
  constructor
  · intro h
    injection h with h
    omega
  · intro h
    rw [h]
section
variable {P : Program} {w : World} {K : PySem.W.Frag} {mg : Str → Option Value} {base : Heap}
abbrev nIsName : List Str := ["thing"]
theorem scIsName : FnScope nIsName ["thing"] (defScope sIsName) := ⟨rfl, rfl, rfl, by decide +kernel, rfl, by decide +kernel, by decide +kernel⟩
def spIsName (K : PySem.W.Frag) : Sp := fun vs H Q _ => (∃ cs : List Nat, vs = [.str (S cs)] ∧ cs.length ≤ 1000 ∧ ∀ H', Same H H' → Q (.bl (isName cs)) H') ∨ (∃ x, vs = [x] ∧ Isi K H x "str" false ∧ Q (.bl false) H)
theorem ok_isName {f : Addr} {fd : FuncData} {k : Nat} (F : Fun K "is_name" "is_name" sIsName f fd) (DT : Df P w K mg base (k + 1) "is_text" ["thing"] (spIsText K)) (ml : mg "len" = none) (mN : ∃ t, mg "LONGEST_NAME" = some (.int 8 t)) : FnOk P w K mg base CX0 (k + 2) f fd ["thing"] (spIsName K) := by
  obtain ⟨tN, mN⟩ := mN
  refine F.ok scIsName (fun vs H Q E h => ?_) (fun cdv A outer s H vs Q E hr h => ?_)
  · rcases h with ⟨cs, rfl, _⟩ | ⟨x, rfl, _⟩ <;> rfl
  · refine ⟨_, pss_one (ps_ret (pe_and (pe_df DT hr (pa_cons (pv 0) pa_nil)) (pe_one (pe_chain op_le op_le pe_int (pe_callB call_len_str (by rfl) ml PySem.boot_len (pa_cons (pv 0) pa_nil)) (pe_glob (v := .int 8) (by rfl) mN ⟨_, rfl⟩))))), ?_⟩
    rcases h with ⟨cs, rfl, hl, q⟩ | ⟨x, rfl, hx, q⟩
    · refine ⟨_, rfl, .inl ⟨cs, rfl, hl, fun H' s' => ?_⟩⟩
      have hq := q H' s'
      refine ⟨_, rfl, ?_⟩
      unfold isName at hq
      by_cases h1 : cs.all isLow = true
      · rw [h1] at hq ⊢
        refine iteT ⟨_, rfl, S cs, rfl, by rw [len_S]; exact Nat.le_trans hl (by decide), _, _, rfl, rfl, _, rfl, ?_⟩
        rw [len_S]
        by_cases h2 : 1 ≤ cs.length
        · rw [decide_eq_true h2] at hq
          rw [decide_eq_true (show (1 : Int) ≤ (cs.length : Int) by omega)]
          refine iteT ⟨_, _, rfl, rfl, ?_⟩
          have e : decide ((cs.length : Int) ≤ 8) = decide (cs.length ≤ 8) := by
            rw [decide_eq_decide]
            omega
          show Q (.bl (decide ((cs.length : Int) ≤ 8))) H'
          rw [e]
          exact hq
        · rw [decide_eq_false h2] at hq
          rw [decide_eq_false (show ¬ (1 : Int) ≤ (cs.length : Int) by omega)]
          exact iteF hq
      · rw [Bool.eq_false_iff.mpr h1] at hq ⊢
        exact iteF hq
    · exact ⟨_, rfl, .inr ⟨x, rfl, hx, false, rfl, iteF q⟩⟩
abbrev nAreDiff : List Str := ["strings"]
theorem scAreDiff : FnScope nAreDiff ["strings"] (defScope sAreDiff) := ⟨rfl, rfl, rfl, by decide +kernel, rfl, by decide +kernel, by decide +kernel⟩
def spAreDiff (K : PySem.W.Frag) : Sp := fun vs H Q _ => (∃ cs : List Nat, vs = [.str (S cs)] ∧ cs.length ≤ 1000 ∧ Q (.bl (decide cs.Nodup)) H) ∨ (∃ l, ∃ xs : List (List Nat), vs = [.ref l] ∧ (SqL K H l (txs xs) ∨ SqT K H l (txs xs)) ∧ xs.length ≤ 1000 ∧ Q (.bl (decide xs.Nodup)) H)
theorem ok_areDiff {f : Addr} {fd : FuncData} {k : Nat} (F : Fun K "are_different" "are_different" sAreDiff f fd) (ml : mg "len" = none) (mt : mg "set" = none) : FnOk P w K mg base CX0 (k + 1) f fd ["strings"] (spAreDiff K) := by
  refine F.ok scAreDiff (fun vs H Q E h => ?_) (fun cdv A outer s H vs Q E hr h => ?_)
  · rcases h with ⟨cs, rfl, _⟩ | ⟨l, xs, rfl, _⟩ <;> rfl
  · rcases h with ⟨cs, rfl, hl, q⟩ | ⟨l, xs, rfl, hx, hl, q⟩
    · refine ⟨_, pss_one (ps_ret (pe_cmpR op_eq (pe_lenSetS rfl (by rfl) ml (by rfl) mt (pv 0)) (pe_callB call_len_str (by rfl) ml PySem.boot_len (pa_cons (pv 0) pa_nil)) (nomark _))), ?_⟩
      refine ⟨_, rfl, .inr ⟨cs, rfl, hl, _, rfl, S cs, rfl, by rw [len_S]; exact Nat.le_trans hl (by decide), rfl, ?_⟩⟩
      rw [len_S]
      have e : decide (num (dedS (cs.map fun c => S [c])).length = V.int (cs.length : Int)) = decide cs.Nodup := by
        rw [show V.int (cs.length : Int) = num cs.length from rfl, num_eq, decide_eq_decide]
        have h := dedS_iff (cs.map fun c => S [c])
        rw [List.length_map] at h
        exact h.trans nodup_S1
      rw [e]
      exact q
    · refine ⟨_, pss_one (ps_ret (pe_cmpR op_eq (pe_lenSetS rfl (by rfl) ml (by rfl) mt (pv 0)) (pe_callB call_lenS (by rfl) ml PySem.boot_len (pa_cons (pv 0) pa_nil)) (nomark _))), ?_⟩
      have ex : txs xs = (xs.map S).map V.str := by
        unfold txs
        rw [List.map_map]
        rfl
      refine ⟨_, rfl, .inl ⟨l, xs.map S, rfl, by rw [← ex]; exact hx, by rw [List.length_map]; exact hl, _, rfl, l, txs xs, rfl, hx, rfl, ?_⟩⟩
      have e : decide (num (dedS (xs.map S)).length = V.int ((txs xs).length : Int)) = decide xs.Nodup := by
        rw [show V.int ((txs xs).length : Int) = num (txs xs).length from rfl, num_eq, decide_eq_decide]
        have h := dedS_iff (xs.map S)
        rw [List.length_map] at h
        unfold txs
        rw [List.length_map]
        exact h.trans nodup_S
      rw [e]
      exact q
abbrev nInOrder : List Str := ["signs"]
theorem scInOrder : FnScope nInOrder ["signs"] (defScope sInOrder) := ⟨rfl, rfl, rfl, by decide +kernel, rfl, by decide +kernel, by decide +kernel⟩
def spInOrder : Sp := fun vs H Q _ => ∃ cs : List Nat, vs = [.str (S cs)] ∧ cs.length < 64 ∧ ∀ H', Same H H' → Q (.str (S (sortN cs))) H'
theorem ok_inOrder {f : Addr} {fd : FuncData} {k : Nat} (F : Fun K "in_order" "in_order" sInOrder f fd) (ms : mg "sorted" = none) : FnOk P w K mg base CX0 (k + 1) f fd ["signs"] spInOrder := by
  refine F.ok scInOrder (fun vs H Q E h => ?_) (fun cdv A outer s H vs Q E hr h => ?_)
  · obtain ⟨cs, rfl, _⟩ := h
    rfl
  · obtain ⟨cs, rfl, hl, q⟩ := h
    refine ⟨_, pss_one (ps_ret (pe_join pe_str (pe_callB (call_sortStr rfl) (by rfl) ms (by decide +kernel) (pa_cons (pv 0) pa_nil)))), ?_⟩
    refine ⟨⟨_, rfl⟩, _, rfl, cs, rfl, hl, fun ys hp hs p H' s' n' e' => ?_⟩
    have ey := sorted_signs hp hs
    subst ey
    have e1 : (sortN cs).map (fun c => S [c]) = (sortN cs).map fun c => S [c] := rfl
    refine ⟨_, p, (sortN cs).map fun c => S [c], rfl, rfl, .inl (SqL.of e'), ?_, ?_⟩
    · have h1 : (sortN cs).length < 64 := by rw [(sortN_perm cs).length_eq]; exact hl
      rw [sum_ones, str_empty, len_S]
      show _ + _ * 0 ≤ _
      omega
    rw [str_empty, join_signs]
    exact q H' s'
end
end Tb

set_option Elab.async false
set_option linter.all false
set_option maxRecDepth 100000
set_option maxHeartbeats 2000000
/-! judgements for a state in which a token is out: 1 <= toks -/
namespace Tb
open PySem PySem.Spec PyProof.Rows L2
section
variable {X : Cx}
/-- behind anything a token is still out -/
theorem thnT {α : Type} {t : Sem α} {Q Q' : α → Shared → Prop} {M : Model} {A : Around} {E : Value → Shared → Prop} {s : Shared} (h0 : 1 ≤ s.toks) (h : wpAny M A t Q E s) (hQ : ∀ a s', 1 ≤ s'.toks → Q a s' → Q' a s') : wpAny M A t Q' E s :=
  wpAny_mono (PySem.wpAny_toks h) (fun a s' q => hQ a s' (Nat.le_trans h0 q.1) q.2) fun _ _ z => z.2
def PTT (X : Cx) (e : Expr) (t : TT) : Prop :=
  ∀ (pins : List (Addr × Obj)) (s : Shared) (σ : L2.St) (H : Hp) (Q : Bool → Hp → Prop), 1 ≤ s.toks → Inv X pins σ H s → t σ H Q → wpAny (model X.prog X.w) X.A (isTrue e X.env (eval e X.env)) (TP X pins σ Q) X.xe s
def PWT (X : Cx) (e : Expr) (t : TT) : Prop :=
  ∀ (whole : Sem Value) (pins : List (Addr × Obj)) (s : Shared) (σ : L2.St) (H : Hp) (Q : Bool → Hp → Prop), 1 ≤ s.toks → Inv X pins σ H s → t σ H Q → wpAny (model X.prog X.w) X.A (isTrue e X.env whole) (TP X pins σ Q) X.xe s
variable {e a b c : Expr} {te ta tb : TE} {t tA tB' : TT} {rest : List Expr} {pos : Pos}
theorem PET.of (h : PE X e te) : PET X e te := fun pins s σ H Q _ I q => h.run pins s σ H Q I q
theorem PTT.of (h : PT X e t) : PTT X e t := fun pins s σ H Q _ I q => h.run pins s σ H Q I q
theorem PWT.of (h : PW X e t) : PWT X e t := fun wh pins s σ H Q _ I q => h.run wh pins s σ H Q I q
theorem PWT.pt (h : PWT X e t) : PTT X e t := h _
theorem PAT.of {es : List Expr} {ta : TA} (h : PA X es ta) : PAT X es ta := fun pos pins s σ H Q _ I q => h.run pos pins s σ H Q I q
theorem ptt_val (h : PET X e te) (he : ∀ whole, isTrue e X.env whole = (do let v ← whole; standAt e.pos; holding [v] (truthy v)) := by intro _; rfl) : PTT X e (tB te) := by
  intro pins s σ H Q h0 I hw
  refine isTrue_plain (thn (h pins s σ H _ h0 I hw) fun v s1 ⟨x, H1, I1, r1, q1⟩ => ?_) (he _)
  obtain ⟨d, rfl, q⟩ := q1
  cases r1
  exact wpAny_truthy_bool ⟨H1, I1, q⟩
theorem ptt_not (ha : PTT X a tA) : PTT X (.UnaryOp .Not a pos) (tNot tA) := by
  intro pins s σ H Q h0 I h
  exact isTrue_not (ha pins s σ H (fun c H1 => Q (!c) H1) h0 I h)
theorem pwt_and1 (ha : PTT X a tA) : PWT X (.BoolOp .And [a] pos) tA := by
  intro wh pins s σ H Q h0 I h
  refine isTrue_and (thn (ha pins s σ H Q h0 I h) fun c s1 e => ?_)
  cases c with
  | true => exact isTrue_and_nil e
  | false => exact e
theorem pwt_or1 (ha : PTT X a tA) : PWT X (.BoolOp .Or [a] pos) tA := by
  intro wh pins s σ H Q h0 I h
  refine isTrue_or (thn (ha pins s σ H Q h0 I h) fun c s1 e => ?_)
  cases c with
  | false => exact isTrue_or_nil e
  | true => exact e
theorem pwt_and (ha : PTT X a tA) (hb : PWT X (.BoolOp .And (b :: rest) pos) tB') : PWT X (.BoolOp .And (a :: b :: rest) pos) (tAnd tA tB') := by
  intro wh pins s σ H Q h0 I h
  refine isTrue_and (thnT h0 (ha pins s σ H _ h0 I h) fun c s1 h1 ⟨H1, I1, q1⟩ => ?_)
  cases c with
  | true => exact hb wh pins s1 σ H1 Q h1 I1 q1
  | false => exact ⟨H1, I1, q1⟩
theorem pwt_or (ha : PTT X a tA) (hb : PWT X (.BoolOp .Or (b :: rest) pos) tB') : PWT X (.BoolOp .Or (a :: b :: rest) pos) (tOr tA tB') := by
  intro wh pins s σ H Q h0 I h
  refine isTrue_or (thnT h0 (ha pins s σ H _ h0 I h) fun c s1 h1 ⟨H1, I1, q1⟩ => ?_)
  cases c with
  | true => exact ⟨H1, I1, q1⟩
  | false => exact hb wh pins s1 σ H1 Q h1 I1 q1
theorem pet_one {op} (h : PET X a ta) : PET X (.BoolOp op [a] pos) ta := fun pins s σ H Q h0 I hw => BoolOp_one (h pins s σ H Q h0 I hw)
theorem pet_and (ha : PET X a ta) (hb : PET X (.BoolOp .And (b :: rest) pos) tb) : PET X (.BoolOp .And (a :: b :: rest) pos) (tAndV ta tb) := by
  intro pins s σ H Q h0 I h
  refine BoolOp_and (thnT h0 (ha pins s σ H _ h0 I h) fun v s1 h1 ⟨x, H1, I1, r1, q1⟩ => ?_)
  obtain ⟨c, rfl, q1⟩ := q1
  cases r1
  refine wpAny_truthy_bool ?_
  cases c with
  | true => exact hb pins s1 σ H1 Q h1 I1 q1
  | false => exact ⟨.bl false, H1, I1, rfl, q1⟩
theorem pet_or (ha : PET X a ta) (hb : PET X (.BoolOp .Or (b :: rest) pos) tb) : PET X (.BoolOp .Or (a :: b :: rest) pos) (tOrV ta tb) := by
  intro pins s σ H Q h0 I h
  refine BoolOp_or (thnT h0 (ha pins s σ H _ h0 I h) fun v s1 h1 ⟨x, H1, I1, r1, q1⟩ => ?_)
  obtain ⟨c, rfl, q1⟩ := q1
  cases r1
  refine wpAny_truthy_bool ?_
  cases c with
  | false => exact hb pins s1 σ H1 Q h1 I1 q1
  | true => exact ⟨.bl true, H1, I1, rfl, q1⟩
theorem pet_ifExp (hc : PTT X c tA) (ha : PET X a ta) (hb : PET X b tb) : PET X (.IfExp c a b pos) (tIf tA ta tb) := by
  intro pins s σ H Q h0 I h
  refine wpAny_IfExp (thnT h0 (hc pins s σ H _ h0 I h) fun d s1 h1 ⟨H1, I1, q1⟩ => ?_)
  cases d with
  | true => exact ha pins s1 σ H1 Q h1 I1 q1
  | false => exact hb pins s1 σ H1 Q h1 I1 q1
theorem pet_lock (h : PET X e te) : PET X e (tLockE te) := by
  intro pins s σ H Q h0 I hw
  obtain ⟨d, u, hd, mu, hw⟩ := hw
  obtain ⟨od, I1⟩ := I.lock hd mu
  refine thn (h pins s σ _ _ h0 I1 (hw od)) fun v s1 ⟨x, H1, I2, r, e2, q⟩ => ?_
  exact ⟨x, _, I2.unlock e2 (I.nofrz hd mu), r, q⟩
/-! ### statements -/
variable {st : Stmt} {sts : List Stmt} {u w' : TS}
theorem psst_one' (h1 : PST X st u) : PSsT X [st] u := by
  intro pins s σ H D h0 I h
  refine wpAny_execs_cons (thn (h1 pins s σ H D h0 I h) fun f s1 q => ?_)
  cases f with
  | next => exact wpAny_execs_nil q
  | ret v => exact q
  | brk => exact q
  | cont => exact q
theorem pst_if' {c : Expr} {x y : List Stmt} {tc : TT} (hc : PTT X c tc) (ha : PSsT X x u) (hb : PSsT X y w') : PST X (.If c x y pos) (tIfS tc u w') := by
  intro pins s σ H D h0 I h
  refine wpAny_If (thnT h0 (hc pins s σ H _ h0 I h) fun d s1 h1 ⟨H1, I1, q1⟩ => ?_)
  cases d with
  | true => exact ha pins s1 σ H1 D h1 I1 q1
  | false => exact hb pins s1 σ H1 D h1 I1 q1
theorem pst_ret' (he : PET X e te) : PST X (.Return (some e) pos) (tRet te) := by
  intro pins s σ H D h0 I h
  exact wpAny_Return_some (thn (he pins s σ H _ h0 I h) fun v s1 ⟨x, H1, I1, r1, q1⟩ => ⟨x, σ, H1, I1, r1, q1⟩)
theorem pst_expr (he : PET X e te) (hs : swapsWith e none pos.line X.env = pure false := by rfl) : PST X (.Expr e pos) (tDrop te) := by
  intro pins s σ H D h0 I h
  exact wpAny_Expr_any (thn (he pins s σ H _ h0 I h) fun v s1 ⟨x, H1, I1, r1, q1⟩ => ⟨σ, H1, I1, q1⟩) I.quiet hs
theorem pst_asg {tg : Expr} {g : TG} (he : PET X e te) (hg : PG X tg g) (hs : swapsWithSole [tg] e pos.line X.env = pure false := by rfl) (hw : swappedStores [tg] e X.env = pure none := by rfl)
    (h1 : (assignEach [tg] X.env).map (·.2) = [assign tg X.env] := by rfl) : PST X (.Assign [tg] e pos) (tAsg te g) := by
  intro pins s σ H D h0 I h
  refine wpAny_Assign_stores (thn (he pins s σ H _ h0 I h) fun v s1 ⟨x, H1, I1, r1, q1⟩ => ?_) hs hw
  rw [h1]
  exact thn (hg.run pins s1 σ H1 x v _ I1 r1 q1) fun _ s2 q => q
theorem pst_set {i : Nat} {x : Str} {pos' : Pos} (hN : X.N.Nodup) (hi : X.N[i]? = some x) (hx : Loc X.env.scope x) (he : PET X e te) (hs : swapsWith e (some (.Name x pos')) pos.line X.env = pure false := by rfl) (hf : X.fn x = true ∨ X.env.scope.names.lookup x = some .local := by first | exact .inl rfl | exact .inr rfl | assumption) :
    PST X (.Assign [.Name x pos'] e pos) (tAsg te (gName i)) := by
  intro pins s σ H D h0 I h
  refine wpAny_Assign_Name (thn (he pins s σ H _ h0 I h) fun v s1 ⟨y, H1, I1, r1, q1⟩ => ?_) hs
  exact store_ok I1 hN hi hx r1 (fun s2 I2 => ⟨_, H1, I2, q1⟩) hf
theorem pst_lock (h : PST X st u) : PST X st (tLock u) := by
  intro pins s σ H D h0 I hw
  obtain ⟨d, o, hd, mu, hw⟩ := hw
  obtain ⟨od, I1⟩ := I.lock hd mu
  refine thn (h pins s σ _ _ h0 I1 (hw od)) fun f s1 q => ?_
  cases f with
  | next => obtain ⟨σ', H', I2, e, q⟩ := q; exact ⟨σ', _, I2.unlock e (I.nofrz hd mu), q⟩
  | brk => obtain ⟨σ', H', I2, e, q⟩ := q; exact ⟨σ', _, I2.unlock e (I.nofrz hd mu), q⟩
  | cont => obtain ⟨σ', H', I2, e, q⟩ := q; exact ⟨σ', _, I2.unlock e (I.nofrz hd mu), q⟩
  | ret v => obtain ⟨x, σ', H', I2, r, e, q⟩ := q; exact ⟨x, σ', _, I2.unlock e (I.nofrz hd mu), r, q⟩
end
end Tb

set_option Elab.async false
set_option linter.all false
set_option maxRecDepth 100000
set_option maxHeartbeats 2000000
/-! defs, classes, loops, where a token is out -/
namespace Tb
open PySem PySem.Spec PyProof.Rows L2
/-- a def that keeps its promise where a token is out -/
structure FnT (P : Program) (w : World) (K : PySem.W.Frag) (mg : Str → Option Value) (base : Heap) (k : Nat) (f : Addr) (fd : FuncData) (ps : List Str) (sp : Sp) : Prop where
  len : ∀ vs H Q E, sp vs H Q E → vs.length = ps.length
  run : ∀ (A : Around) (outer : List Env) (s : Shared) (H : Hp) (args : Args) (us : List Value) (vs : List V) (Q : VK) (E : XK), 1 ≤ s.toks → Room k A → Env0 P w K mg base A outer s H → BindsTo s fd args (ps.zip us) → Vals vs us → sp vs H Q E →
    codeAny (model P w) A (.call (.ref f) args) (CR CX0 outer P w H s Q E) s
section
variable {P : Program} {w : World} {K : PySem.W.Frag} {mg : Str → Option Value} {base : Heap}
theorem FnT.of {k : Nat} {f : Addr} {fd : FuncData} {ps : List Str} {sp : Sp} (F : FnOk P w K mg base CX0 k f fd ps sp) : FnT P w K mg base k f fd ps sp :=
  ⟨F.len, fun A outer s H args us vs Q E _ hr e0 b r h => F.run A outer s H args us vs Q E hr e0 b r h⟩
theorem FnT.imp {k : Nat} {f : Addr} {fd : FuncData} {ps : List Str} {sp sp' : Sp} (F : FnT P w K mg base k f fd ps sp) (h : ∀ vs H Q E, sp' vs H Q E → sp vs H Q E) : FnT P w K mg base k f fd ps sp' :=
  ⟨fun vs H Q E q => F.len vs H Q E (h _ _ _ _ q), fun A outer s H args us vs Q E h0 hr he hb hv hs => F.run A outer s H args us vs Q E h0 hr he hb hv (h _ _ _ _ hs)⟩
/-- THE RULE for a def -/
theorem fun_okT {x qual : Str} {st : Stmt} {f : Addr} {fd : FuncData} {N ps : List Str} {k : Nat} {sp : Sp} (F : Fun K x qual st f fd) (S : FnScope N ps (defScope st)) (len : ∀ vs H Q E, sp vs H Q E → vs.length = ps.length)
    (hbody : ∀ (cdv : Value) (A : Around) (outer : List Env) (s : Shared) (H : Hp) (vs : List V) (Q : VK) (E : XK), Room k (A.deeper (envOfC qual (defScope st) s.heap.objs.size f cdv)) → sp vs H Q E →
      ∃ t, PSsT (cxOf CX0 P w K mg base N qual (defScope st) f cdv A outer s H E) (defBody st) t ∧ t { nx := fun _ H' => Q .non H', rt := Q } (L2.start N vs) H) : FnT P w K mg base (k + 1) f fd ps sp := by
  obtain ⟨oc, od, kV, doc, pm, an, cdv, ct, osl, rfl, lk, hcd⟩ := F.ex
  refine ⟨len, fun A outer s H args us vs Q E h0 hr e0 hb r hsp => ?_⟩
  have hl := len _ _ _ _ hsp
  have KX : K.In s.heap := e0.mod.kin.keeps fun b o e => (e0.bs b o e).1
  have lim : s.heap.NoLimit := e0.mod.nolimit.keeps fun b o e => (e0.bs b o e).1
  have hkind : ∀ y ∈ ps.zip us, (defScope st).names.lookup y.1 = some .local ∨ ((defScope st).names.lookup y.1 = some .cell ∧ ((cellsFrom (s.heap.objs.size + 1) (defScope st).names []).lookup y.1).isSome = true) := fun ⟨n, v⟩ hy => by
    rcases S.par n (List.of_mem_zip hy).1 with q | q
    · exact .inl q
    · exact .inr ⟨q, PySem.W.cellsFrom_some _ _ _ (.inl q)⟩
  refine codeAny_call_function hr.depth (KX _ _ lk) rfl S.co S.gen rfl (PySem.W.codeRec_of KX hcd) (hb _ _ _ _ ?_)
  refine PySem.wpAny_with_toks h0 (wpAny_newFunctionEnv_cells S.kind hkind fun env he s1 x h1 => ?_)
  subst he
  refine ⟨lim.keeps x.toInCall.keep, codeAny_func ?_⟩
  obtain ⟨t, ht, hq⟩ := hbody cdv A outer s H vs Q E (hr.deeper _) hsp
  have I : Inv (cxOf CX0 P w K mg base N qual (defScope st) f cdv A outer s H E) [] (L2.start N vs) H s1 := inv_start S hr.hd e0 hl r x
  refine wpAny_mono (ht [] s1 (L2.start N vs) H _ h1 I hq) (fun fl s' hs => ?_) fun e s' hs => hs
  have fin : ∀ {σ' : L2.St} {H' : Hp} {v : V} {u : Value}, Inv (cxOf CX0 P w K mg base N qual (defScope st) f cdv A outer s H E) [] σ' H' s' → RelV v u → Q v H' → CE outer P w H s Q u s' :=
    fun {σ' H' v u} J rv q => ⟨v, H', J.os, J.bare, J.base, J.hok, rv, q⟩
  cases fl with
  | ret u =>
    obtain ⟨v, σ', H', J, rv, q⟩ := hs
    exact fin J rv q
  | next =>
    obtain ⟨σ', H', J, q⟩ := hs
    exact fin (v := V.non) (u := Value.none) J rfl q
  | brk =>
    obtain ⟨_, _, _, q⟩ := hs
    exact False.elim q
  | cont =>
    obtain ⟨_, _, _, q⟩ := hs
    exact False.elim q
end
section
variable {X : Cx} {k j : Nat} {f : Addr} {fd : FuncData} {ps : List Str} {sp : Sp} {ds : List Value} {dvs : List V} {E : XK}
theorem run_fnT {pins : List (Addr × Obj)} {σ : L2.St} {H : Hp} {s : Shared} {Q : VK} {us : List Value} {vs : List V} (F : FnT X.prog X.w X.K X.mg X.base k f fd ps sp) (h0 : 1 ≤ s.toks) (hr : Room k X.A) (hb : Binds X.K fd ps ds) (hd : Vals dvs ds)
    (I : Inv X pins σ H s) (r : Vals vs us) (h : sp (vs ++ dvs) H Q E0) : wpAny (model X.prog X.w) X.A (call (.ref f) us) (EP X pins σ Q) X.xe s := by
  have r2 : Vals (vs ++ dvs) (us ++ ds) := r.append hd
  have hl : (us ++ ds).length = ps.length := by rw [← r2.length]; exact F.len _ _ _ _ h
  refine wpAny_call (codeAny_mono (F.run X.A X.stack s H ⟨us, []⟩ (us ++ ds) (vs ++ dvs) Q E0 h0 hr I.env0 (hb s us I.kIn hl) r2 h) fun r s' hq => ?_)
  cases r with
  | error e => exact (pass0 (X := X)) pins σ H s e s' I hq
  | ok fl =>
    cases fl with
    | ret u => exact I.after hq
    | next => exact False.elim hq
    | brk => exact False.elim hq
    | cont => exact False.elim hq
theorem FnT.mono {P : Program} {w : World} {K : PySem.W.Frag} {mg : Str → Option Value} {base : Heap} (F : FnT P w K mg base j f fd ps sp) (h : j ≤ k) : FnT P w K mg base k f fd ps sp :=
  ⟨F.len, fun A outer s H args us vs Q E h0 hr => F.run A outer s H args us vs Q E h0 (hr.mono h)⟩
end
structure DfT (P : Program) (w : World) (K : PySem.W.Frag) (mg : Str → Option Value) (base : Heap) (k : Nat) (nm : Str) (ps : List Str) (sp : Sp) : Prop where
  ex : ∃ f fd, FnT P w K mg base k f fd ps sp ∧ Binds K fd ps [] ∧ PySem.W.keepIn K (.ref f) = true ∧ mg nm = some (.ref f)
theorem Df.t {P : Program} {w : World} {K : PySem.W.Frag} {mg : Str → Option Value} {base : Heap} {k : Nat} {nm : Str} {ps : List Str} {sp : Sp} (D : Df P w K mg base k nm ps sp) : DfT P w K mg base k nm ps sp := by
  obtain ⟨f, fd, G, b, kp, m⟩ := D.ex
  exact ⟨f, fd, .of G, b, kp, m⟩
theorem pet_df {X : Cx} {k j : Nat} {nm : Str} {ps : List Str} {sp : Sp} {e : Expr} {es : List Expr} {t : TA} {p pos : Pos} (D : DfT X.prog X.w X.K X.mg X.base k nm ps sp) (hr : Room j X.A) (ha : PAT X (e :: es) t) (hg : Gl X nm := by rfl) (hk : k ≤ j := by omega)
    (hdb : (nm == ("__debug__" : Str)) = false := by decide) (he : starEach (e :: es) X.env = (false, eval e X.env) :: starEach es X.env := by rfl) (hpl : (backTo pos (starEach es X.env)).any (·.1) = false := by rfl) :
    PET X (.Call (.Name nm p) (e :: es) [] pos) (tCall sp [] E0 t) := by
  obtain ⟨f, fd, G, b, kp, m⟩ := D.ex
  intro pins s σ H Q h0 I h
  refine wpAny_Call_Name_kw (PySem.wpAny_with_toks h0 (ld_glob I hg m ?_ hdb))
  intro h1
  refine PySem.W.callWith_K (h₀ := X.base) I.ok.mod.kin kp (thnT h1 (ha pos pins s σ H _ h1 I h) fun us s1 h2 ⟨vs, H1, I1, r, q⟩ => ⟨I1.kIn, ?_⟩) he hpl
  exact run_fnT G h2 (hr.mono hk) b .nil I1 r q
/-- a loop whose body wants the token -/
theorem pst_for' {X : Cx} {tg iter : Expr} {body : List Stmt} {wi : TI} {g : TG} {tb : TS} {pos : Pos} (hp : PassesOwn (model X.prog X.w) X.A X.env X.xe) (hc : X.calm = true) (hi : PI X tg iter wi) (hg : PG X tg g) (hb : PSsT X body tb)
    (hs : ∀ x, foldedSetIterable iter X.env x = pure x := by intro _; rfl) : PST X (.For tg iter body [] pos) (tFor wi g tb) := by
  intro pins s σ H D h0 I h
  refine wpAny_For (thnT h0 (hi.run pins s σ H _ I h) fun v s1 h1 hv => thnT h1 hv fun itv s2 h2 hh => ?_) hs
  obtain ⟨it, fp, tn, J, H2, e, I2, T, st2, f2, W, ⟨m0, w0⟩, turn⟩ := hh
  subst e
  have stat : ∀ {H' : Hp}, (∀ b ∈ fp, H' b = none) → ∀ b ∈ fp, FpOk X pins H' b := fun hn b hb => ⟨hn b hb, (f2 b hb).2⟩
  refine codeAny_forLoop_any (fun n s' => 1 ≤ s'.toks ∧ ∃ i σ' H', Inv X pins σ' H' s' ∧ tn i s'.heap ∧ (∀ b ∈ fp, H' b = none) ∧ W i n σ' H') ?_ m0 ⟨h2, 0, σ, H2, I2, st2, fun b hb => (f2 b hb).1, w0⟩
  rintro n s3 ⟨h3, i, σ3, H3, I3, st3, fr3, w3⟩
  rcases turn i n σ3 H3 w3 with ⟨stop, qn⟩ | ⟨go, N, hN, step⟩
  · refine wpAny_passesOwn hp (thn (T.done X rfl rfl rfl hc i pins s3 σ3 H3 X.xe I3 (stat fr3) st3 stop) fun r s4 ⟨hr, I4⟩ => ?_)
    subst hr
    exact wpAny_execs_nil ⟨σ3, H3, I4, qn⟩
  · refine wpAny_passesOwn hp (thnT h3 (T.item X rfl rfl rfl hc i pins s3 σ3 H3 X.xe I3 (stat fr3) st3 go) fun r s4 h4 ⟨u, hr, hh4⟩ => ?_)
    subst hr
    refine wpAny_passesOwn hp (thnT h4 hh4 fun _ s5 h5 ⟨x, H5, I5, r5, y5, st5, fr5⟩ => ?_)
    have I5' := I5.pinned (stat fr5) (T.obj _ _ st5)
    refine wpAny_passesOwn hp (thnT h5 (hg.run _ s5 σ3 H5 x u _ I5' r5 (step x H5 y5)) fun _ s6 h6 ⟨σ6, H6, I6, q6⟩ => ?_)
    refine wpAny_passesOwn hp (thnT h6 (hb _ s6 σ6 H6 _ h6 I6 q6) fun f s7 h7 q7 => ?_)
    have again : ∀ {σ7 : L2.St} {H7 : Hp}, Inv X (pins ++ pinsAt fp s5.heap) σ7 H7 s7 → N σ7 H7 → ∃ m, m < n ∧ 1 ≤ s7.toks ∧ ∃ i σ' H', Inv X pins σ' H' s7 ∧ tn i s7.heap ∧ (∀ b ∈ fp, H' b = none) ∧ W i m σ' H' := fun {σ7 H7} I7 n7 => by
      obtain ⟨m', hm, w7⟩ := hN σ7 H7 n7
      refine ⟨m', hm, h7, i + 1, σ7, H7, I7.unpinned, T.keep _ _ _ st5 fun b hb o e => (I7.pin (b, o) (List.mem_append_right _ (List.mem_append_right _ (mem_pinsAt hb e)))).1, fun b hb => ?_, w7⟩
      obtain ⟨o, e, d⟩ := T.obj _ _ st5 b hb
      exact (I7.pin (b, o) (List.mem_append_right _ (List.mem_append_right _ (mem_pinsAt hb e)))).2.1
    cases f with
    | next => obtain ⟨σ7, H7, I7, n7⟩ := q7; exact again I7 n7
    | cont => obtain ⟨σ7, H7, I7, n7⟩ := q7; exact again I7 n7
    | brk => obtain ⟨σ7, H7, I7, q7⟩ := q7; exact ⟨σ7, H7, I7.unpinned, q7⟩
    | ret v => obtain ⟨x7, σ7, H7, I7, r7, q7⟩ := q7; exact ⟨x7, σ7, H7, I7.unpinned, r7, q7⟩
end Tb

set_option Elab.async false
set_option linter.all false
set_option maxRecDepth 100000
set_option maxHeartbeats 4000000
/-! for x in text: if rest.count(x) > 1: return False; rest = rest.replace(x, "") -/
namespace Tb
open PySem PySem.Spec PyProof.Rows L2
section
variable {X : Cx} {pins : List (Addr × Obj)} {σ : L2.St} {H : Hp} {s : Shared}
/-- a name's store: the value is the very same, and a token is given out -/
theorem store_okN {M : Model} {A : Around} {E : Value → Shared → Prop} {i : Nat} {x : Str} {v : V} {u : Value} {Q : Unit → Shared → Prop} (I : Inv X pins σ H s) (hN : X.N.Nodup) (hi : X.N[i]? = some x) (hk : X.env.scope.names.lookup x = some .local) (r : RelV v u)
    (h : ∀ s' m, Inv X pins (σ.set i (some v)) H s' → s'.heap.Ns X.env.locals m → m x = some u → s'.toks = s.toks + 1 → Heap.SameBut X.env.locals s.heap s'.heap → Q () s') : wpAny M A (storeName X.env x u) Q E s := by
  obtain ⟨m, hn, hl⟩ := id I.loc
  have hcls : (X.env.scope.kind == .class || (X.env.scope.kind == .module && X.env.locals != X.env.globals)) = false := by rw [I.ok.kind]; rfl
  have hiσ : i < σ.length := by rw [I.len]; exact (List.getElem?_eq_some_iff.mp hi).1
  have cne := I.cne
  refine wpAny_storeName_local hk hn (fun h' hn' hs => ?_) hcls
  obtain ⟨oL, _, _, hoL, _⟩ := id hn
  have tracked : HOk X.prog X.w H h' := fun b ob e => by
    refine (I.hok b ob e).stay (fun c w' hc q => (hs.2 c ?_).trans q) (fun _ q => q) fun _ _ q => q
    rintro rfl
    rcases hc with rfl | hc
    · rw [I.free] at e; cases e
    · rw [I.free] at hc; cases hc
  refine h _ _ ⟨I.ok, I.os, I.bare, ⟨fun b o e n hb hx => ?_, fun b o e n hb hx => ?_, I.base.free, fun b o e hx => ?_, I.base.tups, I.base.frzs, I.base.tbls⟩, ⟨_, hn', fun j y v' e1 e2 e3 => ?_⟩, fun y c e => ?_, I.free, I.freeC, fun p hp => ?_, tracked, by simpa using I.len⟩ hn' (by simp) rfl hs
  · exact (hs.2 b (Nat.ne_of_lt (Nat.lt_of_lt_of_le (Heap.lt_size e) I.ok.above))).trans (I.base.keep b o e n hb hx)
  · obtain ⟨sl, e1⟩ := I.base.slot b o e n hb hx
    exact ⟨sl, (hs.2 b (Nat.ne_of_lt (Nat.lt_of_lt_of_le (Heap.lt_size e) I.ok.above))).trans e1⟩
  · obtain ⟨o', e1⟩ := I.base.there b o e hx
    exact ⟨o', (hs.2 b (Nat.ne_of_lt (Nat.lt_of_lt_of_le (Heap.lt_size e) I.ok.above))).trans e1⟩
  · by_cases hj : j = i
    · subst hj
      rw [hi] at e1; cases e1
      rw [List.getElem?_set_self hiσ] at e2
      cases e2
      exact ⟨u, r, .inl ⟨hk, by simp⟩⟩
    · rw [List.getElem?_set_ne (Ne.symm hj)] at e2
      obtain ⟨u', r', q⟩ := hl j y v' e1 e2 e3
      refine ⟨u', r', ?_⟩
      rcases q with ⟨k, e⟩ | ⟨k, c, e, z⟩
      · refine .inl ⟨k, ?_⟩
        have : y ≠ x := fun e => hj (nodup_ix hN e1 (e ▸ hi))
        simp [this, e]
      · exact .inr ⟨k, c, e, z.sameBut hs (cne y c e)⟩
  · obtain ⟨w', z⟩ := I.cell y c e
    exact ⟨w', z.sameBut hs (cne y c e)⟩
  · obtain ⟨e, n, ne, nf, d⟩ := I.pin p hp
    exact ⟨(hs.2 p.1 ne).trans e, n, ne, nf, d⟩
end
section
variable {X : Cx}
/-- behind a store a token is out -/
theorem pss_tok {i : Nat} {x : Str} {e : Expr} {te : TE} {rest : List Stmt} {u : TS} {pos' pos : Pos} (hN : X.N.Nodup) (hi : X.N[i]? = some x) (hk : X.env.scope.names.lookup x = some .local) (he : PE X e te) (h2 : PSsT X rest u)
    (hs : swapsWith e (some (.Name x pos')) pos.line X.env = pure false := by rfl) : PSs X (.Assign [.Name x pos'] e pos :: rest) (tSeq (tAsg te (gName i)) u) := by
  refine ⟨fun pins s σ H D I h => ?_⟩
  refine wpAny_execs_cons (wpAny_Assign_Name (thn (he.run pins s σ H _ I h) fun v s1 ⟨y, H1, I1, r1, q1⟩ => ?_) hs)
  exact store_okN I1 hN hi hk r1 fun s2 m I2 _ _ ht _ => h2 pins s2 _ H1 D (by omega) I2 q1
/-- a body that may use the token of the text in the name x -/
def PSb (X : Cx) (x : Str) (body : List Stmt) (i : Nat) (tb : TS) : Prop :=
  ∀ (pins : List (Addr × Obj)) (s : Shared) (σ : L2.St) (H : Hp) (D : Ends) (c : Nat) (u : Tok) (m : Str → Option Value), 1 ≤ u → u < s.toks → Inv X pins σ H s → s.heap.Ns X.env.locals m → m x = some (.str ⟨#[c]⟩ u) → σ[i]? = some (some (.str ⟨#[c]⟩)) → tb D σ H →
    wpAny (model X.prog X.w) X.A (execs body X.env) (SP X pins D) X.xe s
/-- for x in text, x's token known in the body -/
theorem pst_forS {x : Str} {i : Nat} {e : Expr} {te : TE} {body : List Stmt} {tb : TS} {px pos : Pos} (hp : PassesOwn (model X.prog X.w) X.A X.env X.xe) (hc : X.calm = true) (hN : X.N.Nodup) (hi : X.N[i]? = some x) (hk : X.env.scope.names.lookup x = some .local)
    (he : PE X e te) (hb : PSb X x body i tb) (hs : ∀ x, foldedSetIterable e X.env x = pure x := by intro _; rfl) : PST X (.For (.Name x px) e body [] pos) (tFor (iStr te) (gName i) tb) := by
  intro pins s σ H D h0 I h
  refine wpAny_For (thnT h0 (he.run pins s σ H _ I h) fun v s1 h1 ⟨y, H2, I1, r1, z, ez, W, ⟨m0, w0⟩, turn⟩ => ?_) hs
  subst ez
  obtain ⟨t, rfl⟩ := r1
  obtain ⟨ty, hty, key⟩ : ∃ ty, (ty = "str_ascii_iterator" ∨ ty = "str_iterator") ∧ ∀ Q : Value → Shared → Prop, Q (.ref s1.heap.objs.size) { s1 with heap := s1.heap.push { cls := .type ty, data := .fields #[.str z t, .int 0 0] } } → wpAny (model X.prog X.w) X.A (pyIter (.str z t)) Q X.xe s1 := by
    cases ha : z.cps.all (· < 128)
    · exact ⟨_, .inr rfl, fun Q h => wpAny_pyIter_wide ha h⟩
    · exact ⟨_, .inl rfl, fun Q h => wpAny_pyIter_ascii ha h⟩
  have T := turn_str (P := X.prog) (w := X.w) (K := X.K) (tg := .Name x px) s1.heap.objs.size z t ty hty
  have item : ∀ {s3 : Shared} {j c : Nat} {Q : Option Value → Shared → Prop}, s3.heap.IsStrIter s1.heap.objs.size ty z t j → z.cps[j]? = some c →
      (∀ h', h'.IsStrIter s1.heap.objs.size ty z t (j + 1) → Heap.SameBut s1.heap.objs.size s3.heap h' → Q (some (.str ⟨#[c]⟩ s3.toks)) { s3 with heap := h', toks := s3.toks + 1 }) → wpAny (model X.prog X.w) X.A (pyNext (.ref s1.heap.objs.size)) Q X.xe s3 := fun {s3 j c Q} st hx hQ => by
    rcases hty with e | e
    · subst e
      exact wpAny_pyNext_ascii_item st hx hQ
    · subst e
      exact wpAny_pyNext_wide_item st hx hQ
  have hno : ["enumerate", "zip", "dict_itemiterator", "dict_reverseitemiterator", "odict_iterator", "itertools.zip_longest", "itertools.pairwise"].contains ty = false := by
    rcases hty with e | e
    · rw [e]; decide
    · rw [e]; decide
  refine key _ ?_
  have I2 : Inv X pins σ H2 { s1 with heap := s1.heap.push { cls := .type ty, data := .fields #[.str z t, .int 0 0] } } := I1.kept (t' := s1.toks) fun b ob q => Heap.get?_push_of_some _ q
  have f2 : ∀ b ∈ [s1.heap.objs.size], FpOk X pins H2 b := fun b hb => by
    rw [List.mem_singleton.mp hb]
    exact I1.fpOk (Nat.le_refl _) (I1.hok.fresh (Nat.le_refl _))
  have st2 : (s1.heap.push { cls := .type ty, data := .fields #[.str z t, .int 0 0] }).IsStrIter s1.heap.objs.size ty z t 0 := ⟨_, Heap.get?_push_size _ rfl, rfl, rfl⟩
  have stat : ∀ {H' : Hp}, (∀ b ∈ [s1.heap.objs.size], H' b = none) → ∀ b ∈ [s1.heap.objs.size], FpOk X pins H' b := fun hn b hb => ⟨hn b hb, (f2 b hb).2⟩
  obtain ⟨it, hit⟩ : ∃ it, it = s1.heap.objs.size := ⟨_, rfl⟩
  rw [← hit] at T item f2 st2 stat ⊢
  refine codeAny_forLoop_any (fun n s' => 1 ≤ s'.toks ∧ ∃ i' σ' H', Inv X pins σ' H' s' ∧ s'.heap.IsStrIter it ty z t i' ∧ (∀ b ∈ [it], H' b = none) ∧ W i' n σ' H') ?_ m0 ⟨h1, 0, σ, H2, I2, st2, fun b hb => (f2 b hb).1, w0⟩
  rintro n s3 ⟨h3, i', σ3, H3, I3, st3, fr3, w3⟩
  rcases turn i' n σ3 H3 w3 with ⟨stop, qn⟩ | ⟨go, N, hNN, step⟩
  · refine wpAny_passesOwn hp (thn (T.done X rfl rfl rfl hc i' pins s3 σ3 H3 X.xe I3 (stat fr3) st3 stop) fun r s4 ⟨hr, I4⟩ => ?_)
    subst hr
    exact wpAny_execs_nil ⟨σ3, H3, I4, qn⟩
  · have go : i' < z.cps.size := go
    have hx : z.cps[i']? = some z.cps[i'] := Array.getElem?_eq_getElem go
    obtain ⟨c, hcx⟩ : ∃ c, z.cps[i']? = some c := ⟨_, hx⟩
    obtain ⟨f0, f1, f3, f4, f5, f6⟩ := stat fr3 it (List.mem_singleton.mpr rfl)
    refine wpAny_passesOwn hp (thn (item (Q := fun r s4 => r = some (.str ⟨#[c]⟩ s3.toks) ∧ ∃ h', s4 = { s3 with heap := h', toks := s3.toks + 1 } ∧ h'.IsStrIter it ty z t (i' + 1) ∧ Heap.SameBut it s3.heap h') st3 hcx fun h' a b => ⟨rfl, h', rfl, a, b⟩) fun r s4 ⟨hr, h', e4, st4, sb⟩ => ?_)
    subst hr e4
    have I4 : Inv X pins σ3 H3 { s3 with heap := h', toks := s3.toks + 1 } := I3.turned (fun b o hb e => (sb.2 b hb).trans e) f0 f1 f4 f5 f6
    obtain ⟨oi, eo, co, dd⟩ := id st4
    refine wpAny_passesOwn hp (go_of (s := { s3 with heap := h', toks := s3.toks + 1 }) eo co dd hno ?_)
    have I5' := I4.pinned (fp := [it]) (fun b hb => stat fr3 b hb) (T.obj (i' + 1) h' st4)
    refine wpAny_passesOwn hp (wpAny_assign_Name (store_okN I5' hN hi hk (v := V.str ⟨#[c]⟩) ⟨_, rfl⟩ fun s6 m I6 n6 e6 t6 _ => ?_))
    have q6 := step (.str ⟨#[c]⟩) H3 ⟨rfl, c, hcx, rfl⟩
    have hiσ : i < σ3.length := by rw [I3.len]; exact (List.getElem?_eq_some_iff.mp hi).1
    have t6' : s6.toks = s3.toks + 1 + 1 := t6
    refine wpAny_passesOwn hp (thnT (by rw [t6']; exact Nat.succ_le_succ (Nat.zero_le _)) (hb _ s6 _ _ _ c s3.toks m h3 (show s3.toks < s6.toks by rw [t6']; exact Nat.lt_succ_of_lt (Nat.lt_succ_self _)) I6 n6 e6 (by rw [List.getElem?_set_self hiσ]) q6) fun f s7 h7 q7 => ?_)
    have again : ∀ {σ7 : L2.St} {H7 : Hp}, Inv X (pins ++ pinsAt [it] h') σ7 H7 s7 → N σ7 H7 → ∃ m, m < n ∧ 1 ≤ s7.toks ∧ ∃ i' σ' H', Inv X pins σ' H' s7 ∧ s7.heap.IsStrIter it ty z t i' ∧ (∀ b ∈ [it], H' b = none) ∧ W i' m σ' H' := fun {σ7 H7} I7 n7 => by
      obtain ⟨m', hm, w7⟩ := hNN σ7 H7 n7
      refine ⟨m', hm, h7, i' + 1, σ7, H7, I7.unpinned, T.keep _ _ _ st4 fun b hb o e => (I7.pin (b, o) (List.mem_append_right _ (List.mem_append_right _ (mem_pinsAt hb e)))).1, fun b hb => ?_, w7⟩
      obtain ⟨o, e, d⟩ := T.obj _ _ st4 b hb
      exact (I7.pin (b, o) (List.mem_append_right _ (List.mem_append_right _ (mem_pinsAt hb e)))).2.1
    cases f with
    | next => obtain ⟨σ7, H7, I7, n7⟩ := q7; exact again I7 n7
    | cont => obtain ⟨σ7, H7, I7, n7⟩ := q7; exact again I7 n7
    | brk => obtain ⟨σ7, H7, I7, q7⟩ := q7; exact ⟨σ7, H7, I7.unpinned, q7⟩
    | ret v => obtain ⟨x7, σ7, H7, I7, r7, q7⟩ := q7; exact ⟨x7, σ7, H7, I7.unpinned, r7, q7⟩
end
end Tb

set_option Elab.async false
set_option linter.all false
set_option maxRecDepth 100000
set_option maxHeartbeats 4000000
namespace Tb
open PySem PySem.Spec PyProof.Rows L2
section
variable {X : Cx} {pins : List (Addr × Obj)} {σ : L2.St} {H : Hp} {s : Shared}
/-- what the body does: the text at ir, the sign at ib -/
def tRm (ir ib : Nat) : TS := fun D σ H => ∃ (z : Str) (c : Nat), σ[ir]? = some (some (.str z)) ∧ σ[ib]? = some (some (.str ⟨#[c]⟩)) ∧
  if Txt.count z ⟨#[c]⟩ > 1 then D.rt (.bl false) H else z.length ≤ 16777216 ∧ D.nx (σ.set ir (some (.str (Txt.replace z ⟨#[c]⟩ Str.empty)))) H
theorem ld_known {x : Str} {pos : Pos} {m : Str → Option Value} {v : Value} {Q E : Value → Shared → Prop} (I : Inv X pins σ H s) (hk : X.env.scope.names.lookup x = some .local) (hn : s.heap.Ns X.env.locals m) (hm : m x = some v) (fin : Q v s) (hd : (x == ("__debug__" : Str)) = false := by decide) :
    wpAny (model X.prog X.w) X.A (eval (.Name x pos) X.env) Q E s := wpAny_Name (wpAny_loadName_local I.ok.kind hk hn hm fin) hd
theorem psb_rm {ir ib : Nat} {xr xb : Str} {p1 p2 p3 p4 p5 p6 p7 p8 p9 p10 p11 p12 p13 p14 : Pos} {j1 j2 : Nat} (hN : X.N.Nodup) (hir : X.N[ir]? = some xr) (hkr : X.env.scope.names.lookup xr = some .local) (hib : X.N[ib]? = some xb) (hkb : X.env.scope.names.lookup xb = some .local)
    (hs1 : starEach [.Name xb p3] X.env = [(false, eval (.Name xb p3) X.env)] := by rfl)
    (hbase1 : attributeBase (.Name xr p1) "count" X.env (eval (.Name xr p1) X.env) = eval (.Name xr p1) X.env := by rfl) (hline1 : (p2.endLine == p4.line) = true := by rfl)
    (hs2 : starEach [.Name xb p11, .Constant (.str Str.empty) j2 p12] X.env = [(false, eval (.Name xb p11) X.env), (false, eval (.Constant (.str Str.empty) j2 p12) X.env)] := by rfl)
    (hbase2 : attributeBase (.Name xr p9) "replace" X.env (eval (.Name xr p9) X.env) = eval (.Name xr p9) X.env := by rfl) (hline2 : (p10.endLine == p13.line) = true := by rfl)
    (hsw : swapsWith (.Call (.Attribute (.Name xr p9) "replace" p10) [.Name xb p11, .Constant (.str Str.empty) j2 p12] [] p13) (some (.Name xr p8)) p14.line X.env = pure false := by rfl)
    (d1 : (xr == ("__debug__" : Str)) = false := by decide) (d2 : (xb == ("__debug__" : Str)) = false := by decide) (d3 : (xr == ("__classdict__" : Str)) = false := by decide) {st : List Stmt} (hret : PSs X st (tRet (tC (.bl false)))) :
    PSb X xb [.If (.Compare (.Call (.Attribute (.Name xr p1) "count" p2) [.Name xb p3] [] p4) [.Gt] [.Constant (.int 1) j1 p5] p6) st [] p7,
      .Assign [.Name xr p8] (.Call (.Attribute (.Name xr p9) "replace" p10) [.Name xb p11, .Constant (.str Str.empty) j2 p12] [] p13) p14] ib (tRm ir ib) := by
  intro pins s σ H D c u m hu0 hu I hn hm hσ h
  obtain ⟨z, c', hz, hc', h⟩ := h
  rw [hσ] at hc'
  have ec : c = c' := by
    have h1 := Option.some.inj (Option.some.inj hc')
    injection h1 with h1
    have h2 := congrArg (fun y : Str => y.cps) h1
    have h2 : #[c] = #[c'] := h2
    injection h2 with h3
    injection h3
  subst ec
  refine wpAny_execs_cons (wpAny_If (wpAny_isTrue_Compare1 (PySem.Call_method1 hbase1 hs1 hline1 (raw_name hir (.inl hkr) I hz (fun v r => ?_) d1 d3))))
  obtain ⟨tz, rfl⟩ := r
  refine ⟨"str", _, F.plainAttrs_str, F.slot_str_count, F.type_str_count, typeIs_str _ _ _, (fun _ e => nomatch e), Calls.callWith_builtin rfl (Calls.evalArgs_plain (Calls.spliced_cons (ld_known I hkb hn hm (Calls.spliced_nil ?_) d2)))⟩
  refine PySem.SC.count ?_
  refine wpAny_Constant_int ?_
  refine gt_int ?_
  refine wpAny_truthy_bool ?_
  have I2 : Inv X pins σ H { s with toks := s.toks + 1 + 1 } := I.tok _
  by_cases hc : Txt.count z ⟨#[c]⟩ > 1
  · rw [if_pos hc] at h
    rw [decide_eq_true (show (1 : Int) < Txt.count z ⟨#[c]⟩ from hc)]
    refine wpAny_mono (hret.run pins _ σ H { D with nx := fun _ _ => False } I2 h) (fun f s1 q => ?_) fun _ _ x => x
    cases f with
    | next =>
      obtain ⟨_, _, _, q⟩ := q
      exact q.elim
    | ret v => exact q
    | brk => exact q
    | cont => exact q
  · rw [if_neg hc] at h
    obtain ⟨hl, h⟩ := h
    rw [decide_eq_false (show ¬ (1 : Int) < Txt.count z ⟨#[c]⟩ from hc)]
    refine wpAny_execs_nil ?_
    refine wpAny_execs_cons (wpAny_Assign_Name (PySem.Call_method2 hbase2 hs2 hline2 (raw_name hir (.inl hkr) I2 hz (fun v r => ?_) d1 d3)) hsw)
    obtain ⟨tz2, rfl⟩ := r
    refine ⟨"str", _, F.plainAttrs_str, F.slot_str_replace, F.type_str_replace, typeIs_str _ _ _, (fun _ e => nomatch e), Calls.callWith_builtin rfl (Calls.evalArgs_plain (Calls.spliced_cons (ld_known I2 hkb hn hm (Calls.spliced_cons (Calls.Constant_str (Calls.spliced_nil ?_))) d2)))⟩
    have hu2 : u < s.toks + 1 + 1 := Nat.lt_succ_of_lt (Nat.lt_succ_of_lt hu)
    refine PySem.SC.replace (Nat.ne_of_gt hu0) (Nat.ne_of_gt (Nat.succ_pos _)) (Nat.ne_of_lt hu2) rfl (by rw [show Str.empty.length = 0 from rfl]; omega) fun t' k => ?_
    exact store_okN (I2.tok k) hN hir hkr (v := V.str (Txt.replace z ⟨#[c]⟩ Str.empty)) ⟨_, rfl⟩ fun s' m' I3 _ _ _ _ => wpAny_execs_nil ⟨_, H, I3, h⟩
end
end Tb

set_option Elab.async false
set_option linter.all false
set_option maxRecDepth 100000
set_option maxHeartbeats 2000000
namespace Tb
open PySem PySem.Spec PyProof.Rows L2 TL
theorem op_notIn_sign {X : Cx} : OpR X (compareOp .NotIn) (fun x y H Q => ∃ (c : Nat) (z : Str), x = .str ⟨#[c]⟩ ∧ y = .str z ∧ Q (.bl (!decide (c ∈ z.cps.toList))) H) := OpR.weak op_notIn_str fun x y H Q ⟨c, z, e1, e2, q⟩ => ⟨_, z, e1, e2, by rw [PySem.StrLaws.found_one]; exact q⟩
/-! ### is_filling -/
def caps (cs : List Nat) : List Nat := cs.filter fun c => !isLow c
def isFill (cs bs : List Nat) : Bool := decide (caps cs).Nodup && (caps cs).all fun c => decide (c ∈ bs)
theorem isFill_iff {cs bs : List Nat} : isFill cs bs = true ↔ (caps cs).Nodup ∧ ∀ c ∈ caps cs, c ∈ bs := by
  unfold isFill
  rw [Bool.and_eq_true, List.all_eq_true]
  exact ⟨fun ⟨a, b⟩ => ⟨of_decide_eq_true a, fun c hc => of_decide_eq_true (b c hc)⟩, fun ⟨a, b⟩ => ⟨decide_eq_true a, fun c hc => decide_eq_true (b c hc)⟩⟩
theorem caps_split {cs : List Nat} {j c : Nat} (h : cs[j]? = some c) (hl : isLow c = false) : caps cs = caps (cs.take j) ++ c :: caps (cs.drop (j + 1)) := by
  have e : cs = cs.take j ++ c :: cs.drop (j + 1) := by
    obtain ⟨h1, h2⟩ := List.getElem?_eq_some_iff.mp h
    rw [← h2, ← List.drop_eq_getElem_cons h1, List.take_append_drop]
  unfold caps
  conv => lhs; rw [e]
  rw [List.filter_append, List.filter_cons, if_pos (by rw [hl]; rfl)]
theorem caps_take {cs : List Nat} {j c : Nat} (h : cs[j]? = some c) : caps (cs.take (j + 1)) = caps (cs.take j) ++ (if isLow c = true then [] else [c]) := by
  have et : cs.take (j + 1) = cs.take j ++ [c] := by
    rw [List.take_add_one, h]
    rfl
  unfold caps
  rw [et, List.filter_append]
  congr 1
  by_cases hl : isLow c = true
  · simp [List.filter_cons, hl]
  · simp [List.filter_cons, hl]
theorem count_S (cs : List Nat) (c : Nat) : Txt.count (S cs) ⟨#[c]⟩ = (cs.count c : Int) := by
  rw [count_is]
  show PyProof.Rows.cnt c cs = _
  induction cs with
  | nil => rfl
  | cons a r ih =>
    rw [cnt_cons, ih, List.count_cons]
    by_cases h : a = c
    · rw [if_pos h, h, beq_self_eq_true, if_pos rfl]
      omega
    · rw [if_neg h, beq_false_of_ne h, if_neg Bool.false_ne_true]
      omega
theorem replL_filter (c : Nat) : ∀ l : List Nat, StrLaws.replL [c] [] l = l.filter fun x => decide (x ≠ c)
  | [] => StrLaws.replL_nil
  | a :: r => by
    by_cases h : a = c
    · rw [StrLaws.replL_hit (by simp) (by rw [h]; rfl), List.filter_cons_of_neg (by simp [h])]
      show [] ++ StrLaws.replL [c] [] r = _
      rw [List.nil_append, replL_filter c r]
    · rw [StrLaws.replL_miss (by intro z; have z : [a] = [c] := z; injection z with z; exact h z), List.filter_cons_of_pos (by simp [h]), replL_filter c r]
theorem replace_S (cs : List Nat) (c : Nat) : Txt.replace (S cs) ⟨#[c]⟩ Str.empty = S (cs.filter fun x => decide (x ≠ c)) := by
  refine ext_tl ?_
  have h := StrLaws.replace_list (x := S cs) (y := ⟨#[c]⟩) (z := Str.empty) (Nat.le_refl 1)
  show (Txt.replace (S cs) ⟨#[c]⟩ Str.empty).cps.toList = _
  rw [h]
  exact replL_filter c cs
/-- the signs that are none of these -/
def outOf (bs cs : List Nat) : List Nat := cs.filter fun x => decide (x ∉ bs)
theorem outOf_nil (cs : List Nat) : outOf [] cs = cs := by
  unfold outOf
  rw [List.filter_eq_self]
  exact fun _ _ => by simp
theorem outOf_snoc (bs cs : List Nat) (c : Nat) : outOf (bs ++ [c]) cs = (outOf bs cs).filter fun x => decide (x ≠ c) := by
  unfold outOf
  rw [List.filter_filter]
  refine List.filter_congr fun x _ => ?_
  simp
  exact Bool.and_comm _ _
theorem outOf_count (bs cs : List Nat) (c : Nat) (h : c ∉ bs) : (outOf bs cs).count c = cs.count c := by
  unfold outOf
  rw [List.count_filter (by simpa using h)]
theorem caps_count {cs : List Nat} {b : Nat} (h : isLow b = false) : (caps cs).count b = cs.count b := by
  unfold caps
  rw [List.count_filter (by rw [h]; rfl)]
theorem isFill_end {cs bs : List Nat} (hb : ∀ b ∈ bs, isLow b = false) (h : ∀ b ∈ bs, cs.count b ≤ 1) : isFill cs bs = (outOf bs cs).all isLow := by
  rw [Bool.eq_iff_iff, isFill_iff, List.all_eq_true]
  constructor
  · rintro ⟨_, h2⟩ c hc
    unfold outOf at hc
    obtain ⟨h3, h4⟩ := List.mem_filter.mp hc
    cases hl : isLow c with
    | true => rfl
    | false =>
      refine absurd (h2 c ?_) (of_decide_eq_true h4)
      unfold caps
      exact List.mem_filter.mpr ⟨h3, by rw [hl]; rfl⟩
  · intro h2
    have sub : ∀ c ∈ caps cs, c ∈ bs := fun c hc => by
      unfold caps at hc
      obtain ⟨h3, h4⟩ := List.mem_filter.mp hc
      by_cases z : c ∈ bs
      · exact z
      · have := h2 c (by unfold outOf; exact List.mem_filter.mpr ⟨h3, decide_eq_true z⟩)
        rw [this] at h4
        cases h4
    refine ⟨List.nodup_iff_count.mpr fun c => ?_, sub⟩
    by_cases z : c ∈ caps cs
    · rw [caps_count (hb c (sub c z))]
      exact h c (sub c z)
    · rw [List.count_eq_zero.mpr z]
      exact Nat.zero_le _
theorem isFill_two {cs bs : List Nat} {b : Nat} (hl : isLow b = false) (h : cs.count b > 1) : isFill cs bs = false := by
  rw [Bool.eq_false_iff]
  intro z
  have := List.nodup_iff_count.mp (isFill_iff.mp z).1 b
  rw [caps_count hl] at this
  omega
section
variable {P : Program} {w : World} {K : PySem.W.Frag} {mg : Str → Option Value} {base : Heap}
abbrev nIsFilling : List Str := ["thing", "boxes", "rest", "box"]
theorem scIsFilling : FnScope nIsFilling ["thing", "boxes"] (defScope sIsFilling) := ⟨rfl, rfl, rfl, by decide +kernel, rfl, by decide +kernel, by decide +kernel⟩
def spIsFilling (K : PySem.W.Frag) : Sp := fun vs H Q _ => (∃ cs bs : List Nat, vs = [.str (S cs), .str (S bs)] ∧ cs.length ≤ 1000 ∧ (∀ b ∈ bs, isLow b = false) ∧ ∀ H', Same H H' → Q (.bl (isFill cs bs)) H') ∨ (∃ x b, vs = [x, b] ∧ Isi K H x "str" false ∧ Q (.bl false) H)
theorem ok_isFilling {f : Addr} {fd : FuncData} {k : Nat} (F : Fun K "is_filling" "is_filling" sIsFilling f fd) (DT : Df P w K mg base (k + 1) "is_text" ["thing"] (spIsText K)) (mi : mg "isinstance" = none) (ms : mg "str" = none) : FnOk P w K mg base CX0 (k + 2) f fd ["thing", "boxes"] (spIsFilling K) := by
  refine F.ok scIsFilling (fun vs H Q E h => ?_) (fun cdv A outer s H vs Q E hr h => ?_)
  · rcases h with ⟨cs, bs, rfl, _⟩ | ⟨x, b, rfl, _⟩ <;> rfl
  · refine ⟨_, pss_cons (ps_if (pt_not (pt_val (pe_isStr (pv 0) mi (by rfl) ms (by rfl)))) (pss_one (ps_ret pe_bl)) pss_nil)
      (pss_tok (i := 2) scIsFilling.nd rfl rfl (pv 0)
      (psst_cons (pst_forS PassesOwn.never rfl scIsFilling.nd (i := 3) rfl rfl (pv 1) (psb_rm (ir := 2) (ib := 3) scIsFilling.nd rfl rfl rfl rfl (hret := pss_one (ps_ret pe_bl))))
      (PSsT.of (pss_one (ps_ret (pe_df DT hr (pa_cons (pv 2) pa_nil))))))), ?_⟩
    rcases h with ⟨cs, bs, rfl, hl, hb, q⟩ | ⟨x, b, rfl, hx, q⟩
    · refine ⟨_, rfl, true, isi_str _, true, rfl, iteF ?_⟩
      refine ⟨_, rfl, ?_⟩
      refine ⟨_, rfl, S bs, rfl, for_it (walk_str (z := S bs)) (fun j σ H' => ∃ v3, σ = [some (.str (S cs)), some (.str (S bs)), some (.str (S (outOf (bs.take j) cs))), v3] ∧ Same H H' ∧ ∀ b ∈ bs.take j, cs.count b ≤ 1)
        ⟨none, by rw [List.take_zero, outOf_nil]; rfl, fun _ _ e => e, fun b hb => (nomatch hb)⟩ (fun _ _ _ _ _ => trivial) ?_ ?_⟩
      · rintro j x σ H2 H2' hj ⟨v3, rfl, s2, hc⟩ ⟨rfl, c, hx, rfl⟩
        have hx' : bs[j]? = some c := by
          rw [show (S bs).cps = bs.toArray from rfl, List.getElem?_toArray] at hx
          exact hx
        have hm := List.mem_of_getElem? hx'
        have et : bs.take (j + 1) = bs.take j ++ [c] := by
          rw [List.take_add_one, hx']
          rfl
        refine ⟨S (outOf (bs.take j) cs), c, rfl, rfl, ?_⟩
        rw [count_S, replace_S, ← outOf_snoc, ← et]
        by_cases h1 : ((outOf (bs.take j) cs).count c : Int) > 1
        · rw [if_pos h1]
          have h2 : cs.count c > 1 := by
            have : (outOf (bs.take j) cs).count c ≤ cs.count c := List.Sublist.count_le _ List.filter_sublist
            omega
          have h3 := q _ s2
          rw [isFill_two (hb c hm) h2] at h3
          exact h3
        · rw [if_neg h1]
          refine ⟨?_, _, rfl, s2, fun b hb' => ?_⟩
          · rw [len_S]
            have : (outOf (bs.take j) cs).length ≤ cs.length := List.length_filter_le _ _
            omega
          · rw [et] at hb'
            rcases List.mem_append.mp hb' with z | z
            · exact hc b z
            · rw [List.mem_singleton.mp z]
              by_cases hin : c ∈ bs.take j
              · exact hc c hin
              · rw [outOf_count _ _ _ hin] at h1
                omega
      · rintro σ H2 ⟨v3, rfl, s2, hc⟩
        have lsz : (S bs).cps.size = bs.length := rfl
        rw [lsz, List.take_length] at hc
        rw [lsz, List.take_length]
        have ho : (outOf bs cs).length ≤ cs.length := List.length_filter_le _ _
        refine ⟨_, rfl, .inl ⟨outOf bs cs, rfl, by omega, fun H3 s3 => ?_⟩⟩
        rw [← isFill_end hb hc]
        exact q _ (s2.trans s3)
    · exact ⟨_, rfl, false, hx, false, rfl, iteT q⟩
end
end Tb

set_option Elab.async false
set_option linter.all false
set_option maxRecDepth 100000
set_option maxHeartbeats 2000000
namespace Tb
open PySem PySem.Spec PyProof.Rows L2 TL
/-! ### d.items() walked, d a dict whose keys are tuples -/
def Itit (d : Addr) (o : Obj) (kvs : List (List Key × V)) : It :=
  ⟨fun i H => H d = some (.frz o (.dT kvs)) ∧ i < kvs.length, fun i H x H' => ∃ T k v q, kvs[i]? = some (k, v) ∧ H q = some (.tup (k.map kV)) ∧ x = .ref T ∧ H T = none ∧ H' = upd H T (.tup [.ref q, v]), fun i H => H d = some (.frz o (.dT kvs)) ∧ kvs.length ≤ i⟩
theorem walk_itemsT {d : Addr} {o : Obj} {kvs : List (List Key × V)} : Walk (Itit d o kvs) kvs.length (fun H => H d = some (.frz o (.dT kvs))) (fun i H x H' => ∃ T k v q, kvs[i]? = some (k, v) ∧ H q = some (.tup (k.map kV)) ∧ x = .ref T ∧ H T = none ∧ H' = upd H T (.tup [.ref q, v])) :=
  ⟨fun _ _ hi q => ⟨q, hi⟩, fun _ q => ⟨q, Nat.le_refl _⟩, fun _ _ _ _ _ _ y => y⟩
theorem frzT2 {X : Cx} {pins : List (Addr × Obj)} {σ : L2.St} {H : Hp} {s : Shared} {d : Addr} {o : Obj} {kvs : List (List Key × V)} (I : Inv X pins σ H s) (h : H d = some (.frz o (.dT kvs))) :
    (d == sysModules) = false ∧ s.heap.get? d = some o ∧ o.ExactDict ∧ ∃ (es : Array DictEntry) (ep : Nat), o.data = .dict es ep ∧ es.size = kvs.length ∧
      ∀ (i : Nat) (k : List Key) (v : V), kvs[i]? = some (k, v) → ∃ (en : DictEntry) (q : Addr), es[i]? = some en ∧ en.key = .ref q ∧ H q = some (.tup (k.map kV)) ∧ RelV v en.val := by
  obtain ⟨hd, z, hs, xs, pr, o', es, ep, ho, hx, hdt, he, _⟩ := I.hok d _ h
  rw [hd] at ho
  cases ho
  refine ⟨hs, hd, hx, es, ep, hdt, ?_, fun i k v e => ?_⟩
  · have l1 : es.size = xs.length := size_of_entries he
    have l2 : kvs.length = xs.length := Paired.length pr
    omega
  · obtain ⟨b, hb, e1, e2, e3⟩ := paired_get pr e
    have q := entry_at he i
    rw [hb] at q
    exact ⟨_, b.2.1, q, rfl, e2, e3⟩
theorem turn_itemsT {P : Program} {w : World} {K : PySem.W.Frag} {d : Addr} {o : Obj} {es : Array DictEntry} {ep : Nat} {kvs : List (List Key × V)} {elts : List Expr} {kk : Nat} {tpos : Pos} (it : Addr) (hod : o.data = .dict es ep) :
    Turn P w K (.Tuple elts kk tpos) (Itit d o kvs) [it] it (fun i h => ∃ ok ov, IsItemIter h it d i kvs.length ep ok ov) where
  mem := by simp
  obj := fun i h st b hb => by
    have e : b = it := by simpa using hb
    subst e
    obtain ⟨ok, ov, e⟩ := st
    exact ⟨_, e, fun v z => nomatch z⟩
  keep := fun i h h' st k => let ⟨ok, ov, e⟩ := st; ⟨ok, ov, k it (by simp) _ e⟩
  item := by
    intro X hP hw hK hc i pins s σ H E I hf st hg
    subst hP hw hK
    obtain ⟨hd, hi⟩ := hg
    obtain ⟨hs, hgd, hx, es', ep', hdt, hsz, ent⟩ := frzT2 I hd
    obtain ⟨rfl, rfl⟩ := dict_ep hod hdt
    obtain ⟨⟨k, v⟩, hkv⟩ : ∃ p, kvs[i]? = some p := ⟨kvs[i], List.getElem?_eq_getElem hi⟩
    obtain ⟨en, q, hen, hkey, hq, hval⟩ := ent i k v hkv
    obtain ⟨hlt', hen'⟩ := Array.getElem?_eq_some_iff.mp hen
    obtain ⟨ok, ov, he⟩ := st
    rw [← hsz] at he
    have hlt : it < s.heap.objs.size := Heap.lt_size he
    refine DT.nextI he ⟨o, hgd, hx, hdt⟩ hlt' fun h' ho hT hz hk => ?_
    rw [hen'] at ho hT
    refine ⟨_, rfl, wpAny_letOwnedTupleGo_items (s := { s with heap := h' }) ho fun h'' he' sb => ?_⟩
    have hT2 : h''.get? s.heap.objs.size = some { cls := .type "tuple", data := .seq #[en.key, en.val] } := (sb.2 _ (Nat.ne_of_gt hlt)).trans hT
    have new : ObjOk X.prog X.w (upd H s.heap.objs.size (.tup [.ref q, v])) h'' s.heap.objs.size (.tup [.ref q, v]) :=
      ⟨by show 2 ≤ sizeLine; decide, [en.key, en.val], .cons hkey (.cons hval .nil), ⟨_, hT2, rfl, _, rfl⟩⟩
    have I1 : Inv X pins σ (upd H s.heap.objs.size (.tup [.ref q, v])) { s with heap := h'' } :=
      I.turnedNew (t' := s.toks) (ch := [it]) (fun b ob hb e => (sb.2 b (by simpa using hb)).trans (hk b ob (by simpa using hb) e)) hf (Nat.le_refl _) new
    refine ⟨.ref s.heap.objs.size, _, I1, rfl, ⟨_, k, v, q, hkv, hq, rfl, I.hok.fresh (Nat.le_refl _), rfl⟩, ⟨en.key, en.val, ?_⟩, fun b hb => ?_⟩
    · rw [← hsz]; exact he'
    · have e : b = it := by simpa using hb
      rw [e, upd_ne (Nat.ne_of_lt hlt)]
      exact (hf it (by simp)).1
  done := by
    intro X hP hw hK hc i pins s σ H E I hf st hg
    subst hP hw hK
    obtain ⟨hd, hi⟩ := hg
    obtain ⟨f0, f1, f2, f3, f4, f5⟩ := hf it (by simp)
    obtain ⟨hs, hgd, hx, es', ep', hdt, hsz, ent⟩ := frzT2 I hd
    obtain ⟨rfl, rfl⟩ := dict_ep hod hdt
    obtain ⟨ok, ov, he⟩ := st
    rw [← hsz] at he
    exact DT.endI (I.ok.hd hc) he ⟨o, hgd, hx, hdt⟩ (by omega) fun h' eb => ⟨rfl, I.turned (t' := s.toks) (fun b ob hb e => eb b ob hb e) f0 f1 f3 f4 f5⟩
  self := fun A i s Q E st h => let ⟨_, _, e⟩ := st; PySem.W.kcp_self e h
def iItemsT (td : TE) : TI := fun σ H R => td σ H fun x H1 => ∃ d o kvs, x = .ref d ∧ H1 d = some (.frz o (.dT kvs)) ∧ R (Itit d o kvs) H1
section
variable {X : Cx} {tg e : Expr} {td : TE} {apos cpos : Pos}
theorem pi_itemsT {elts : List Expr} {kk : Nat} {tpos : Pos} (he : PE X e td) (hbase : attributeBase e "items" X.env (eval e X.env) = eval e X.env := by rfl) (hline : (apos.endLine == cpos.line) = true := by rfl) :
    PI X (.Tuple elts kk tpos) (.Call (.Attribute e "items" apos) [] [] cpos) (iItemsT td) := by
  refine ⟨fun pins s σ H R I h => ?_⟩
  refine wpAny_Call_method (T := "dict") (id := "dict.items") hbase rfl hline PySem.F.plainAttrs_dict PySem.F.slot_dict_items PySem.F.type_dict_items (thn (he.run pins s σ H _ I h) fun u s1 ⟨x, H1, I1, rx, d, o, kvs, ex, hd, q⟩ => ?_)
  subst ex
  obtain rfl : u = Value.ref d := rx
  obtain ⟨hs, hgd, hx, es, ep, hdt, hsz, ent⟩ := frzT2 I1 hd
  have hraw : DT.Raw s1.heap d es ep := ⟨o, hgd, hx, hdt⟩
  refine ⟨hraw.typeIs, ?_, ?_⟩
  · intro a ea
    cases ea
    exact ⟨o, hgd, hx.2.1⟩
  have I2 : Inv X pins σ H1 { s1 with heap := s1.heap.push { cls := .type "dict_items", data := .fields #[.ref d] } } := I1.kept (t' := s1.toks) fun b ob q => Heap.get?_push_of_some _ q
  have fin : wpAny (model X.prog X.w) X.A (pyIter (.ref s1.heap.objs.size)) (PIE X pins σ (.Tuple elts kk tpos) R) X.xe { s1 with heap := s1.heap.push { cls := .type "dict_items", data := .fields #[.ref d] } } := by
    refine DT.iterI (d := d) ⟨_, Heap.get?_push_size _ rfl, rfl, rfl⟩ (hraw.push _) (pi_one (tk := s1.toks) I2 _ (turn_itemsT _ hdt) ⟨.none, .none, ?_⟩ q)
    rw [← hsz]
    exact Heap.get?_push_size _ rfl
  show wpAny _ _ (callWith cpos (.builtin "dict.items") [.ref d] [] []) _ X.xe s1
  exact method_meetsIn PySem.F.slot_dict_items PySem.F.entry_dict_items rfl (PySem.evalArgs_none ⟨rfl, hraw.typeIs, PySem.F.args_dict_items_1 _, _, DT.meetsItems (es := es) (ep := ep) hs, hraw, fin⟩)
end
end Tb

set_option Elab.async false
set_option linter.all false
set_option maxRecDepth 100000
set_option maxHeartbeats 4000000
/-! sep.join(d.values()), d a dict of texts -/
namespace PySem
open Builtin Builtin.Str Builtin.Int
theorem nolenDV : typeLookup (.type "dict_valueiterator") "__len__" = pure none := by rw [typeLookup_type, builtinLookup_eq_fast]; kernel_rfl
theorem hintDV : typeLookup (.type "dict_valueiterator") "__length_hint__" = pure (some (.builtin "dict_valueiterator.__length_hint__")) := by rw [typeLookup_type, builtinLookup_eq_fast]; kernel_rfl
section
variable {prog : Program} {w : World} {A : Around} {E : Value → Shared → Prop} {s : Shared} {I : Addr} {fp wr : List Addr} {G : Array GenState → Array GenState → Prop} {n : Nat} {P : Nat → Value → Prop} {St : Nat → Shared → Prop}
theorem collectDV {Q : List Value → Shared → Prop}
    (W : WalksS prog w A.in1 I fp wr G n P St) (hT : ∀ i s, St i s → s.TypeIs (.ref I) "dict_valueiterator") (hst : St 0 s) (hfp : ∀ b ∈ fp, b < s.heap.objs.size) (hI : I ∈ fp)
    (hQ : ∀ s' acc, Moved wr G s s' → ItemsOf P acc n → Q acc.toList s') (hn : n ≤ sizeLine) : wpAny (model prog w) A (collect (.ref I)) Q E s := by
  have hSf : s.heap.objs.size ∉ fp := fun hm => Nat.lt_irrefl _ (hfp _ hm)
  have hSI : s.heap.objs.size ≠ I := fun e => hSf (e ▸ hI)
  unfold collect
  refine wpAny_bind (wpAny_runValue (codeAny_builtin F.entry_proto_collect ?_))
  rw [Around.under_plainId F.plain_proto_collect _]
  show wpAny _ A.in1 (newList [] >>= fun l => again (.builtin "list.__iadd__" ⟨[l, .ref I], []⟩)) _ _ s
  refine wpAny_bind (wpAny_newObj_type ?_)
  refine wpAny_pure ⟨plainId_quiet F.plain_list_iadd _, codeAny_builtin F.entry_list_iadd ?_⟩
  rw [Around.under_plainId F.plain_list_iadd _]
  have hst₁ := W.frame 0 s (s.heap.push { cls := .type "list", data := .seq ([] : List Value).toArray }) s.toks hst (Nat.le_refl _) fun b _ o e => Heap.get?_push_of_some _ e
  have hS₁ : (s.heap.push { cls := .type "list", data := .seq ([] : List Value).toArray }).get? s.heap.objs.size = some { cls := .type "list", data := .seq ([] : List Value).toArray } := Heap.get?_push_size _ rfl
  have h1 : Builtin.List.listSameRef (.ref s.heap.objs.size) (.ref I) = false := by simp [Builtin.List.listSameRef, hSI]
  show wpAny _ A.in1 (Builtin.List.listExtendWith (.ref s.heap.objs.size) (.ref I) (.ref s.heap.objs.size)) _ _ _
  unfold Builtin.List.listExtendWith
  refine wpAny_bind (wpAny_typeOf (hT 0 _ hst₁) ?_)
  rw [if_neg (by rw [h1]; decide)]
  refine wpAny_bind (W.self 0 _ _ _ hst₁ ?_)
  refine wpAny_bind (wpAny_holding ?_)
  unfold Builtin.List.listLengthHint
  refine wpAny_bind (wpAny_specialOf (hT 0 _ hst₁) nolenDV ?_)
  show wpAny _ A.in1 (specialOf (Value.ref I) (Str.ofString "__length_hint__") >>= _) _ _ _
  refine wpAny_bind (wpAny_specialOf (hT 0 _ hst₁) hintDV ?_)
  generalize hid : ("dict_valueiterator.__length_hint__" : String) = id0
  wp_delta
  rw [show splitId id0 = some ("dict_valueiterator", "__length_hint__") from by subst hid; decide +kernel]
  subst hid
  refine wpAny_bind (wpAny_isInstance (b := true) (hT 0 _ hst₁) (by rw [isSubtype_type]; kernel_rfl) ?_)
  refine wpAny_pure ?_
  rw [if_neg (by decide)]
  refine wpAny_pure ⟨plainId_quiet F.plain_extend_loop _, codeAny_extend_loopS W hn _ hSf _ n 0 _ _ _ rfl (Nat.zero_le _) hst₁ hS₁ (ItemsOf.nil P) fun s' acc' c' hm hS' hacc => ?_⟩
  show wpAny _ A (load s.heap.objs.size >>= _) _ _ s'
  refine wpAny_bind (wpAny_load hS' ?_)
  exact wpAny_pure (hQ s' acc' (Moved.drop_new (o := { cls := .type "list", data := .seq ([] : List Value).toArray }) (tk := s.toks) hm (Nat.le_refl _)) hacc)
end
end PySem
namespace PySem
open Builtin Builtin.Str Builtin.Int PyProof.Rows
section
variable {prog : Program} {w : World} {A : Around} {E : Value → Shared → Prop} {s : Shared}
theorem joinDV {κ : Type} [DecidableEq κ] {knd : KeyKind prog w κ} {v d : Addr} {kvs : List (κ × Value)} {ep : Nat} {x : Str} {t : Tok} {ys : List Str} {Q : Value → Shared → Prop} (hh : A.handled = none) (hv : s.heap.IsValuesView v d) (hm : s.heap.DictAt knd d kvs ep)
    (hP : StrsAre (kvs.map Prod.snd) ys) (hn : kvs.length ≤ sizeLine) (hok : (ys.map (·.length)).sum + ys.length * x.length ≤ 16777216)
    (hq : ∀ h' t' k, (∀ b o, s.heap.get? b = some o → h'.get? b = some o) → Q (.str (Txt.join x ys) t') { s with heap := h', toks := k }) :
    wpAny (model prog w) A (call (.builtin "str.join") [.str x t, .ref v]) Q E s := by
  refine wpAny_call (codeAny_call_builtin F.slot_str_join.plain F.entry_str_join (F.slot_str_join.check _ _ _ _ _ _ _ _ (typeIs_str _ _ _) (F.args_str_join_2 _ _) ?_))
  rw [join_tree_other]
  refine wpAny_bind (wpAny_typeOf hv.typeIs ?_)
  show wpAny _ A.in1 ((pyIter (.ref v)).tryCatch _ >>= fun it => collect it >>= fun items => joinTail x items) _ _ s
  refine wpAny_bind (wpAny_tryCatch (wpAny_pyIter_values hv hm ?_))
  have hlt : d < s.heap.objs.size := by
    obtain ⟨o, _, ho, _⟩ := hm
    exact Heap.lt_size ho
  have hM := hm.push (o := { cls := .type "dict_valueiterator", data := .fields #[.ref d, .int 0 0, .int kvs.length 0, .int ep 0] })
  refine wpAny_bind (collectDV (Walks.dictValues (knd := knd) (A := A.in1.in1) hh s.heap.objs.size d (Nat.ne_of_lt hlt) kvs ep).toS (fun i s' st => ?_) ⟨⟨_, Heap.get?_push_size _ rfl, rfl, rfl⟩, hM⟩ (fun b hb => ?_) (by simp) (fun s' acc hmv hacc => ?_) hn)
  · obtain ⟨oi, e, c, _⟩ := st.1
    exact ⟨oi, e, c⟩
  · show b < (s.heap.push _).objs.size
    rw [Heap.size_push]
    rcases List.mem_cons.mp hb with e | hb
    · rw [e]
      exact Nat.lt_succ_self _
    · rw [List.mem_singleton.mp hb]
      exact Nat.lt_succ_of_lt hlt
  have hS : StrsAre acc.toList ys := by
    have e : acc.toList = kvs.map Prod.snd := by
      apply List.ext_getElem?
      intro i
      by_cases hi : i < kvs.length
      · have hi' : i < acc.size := by rw [hacc.1]; exact hi
        obtain ⟨k, hk⟩ := hacc.2 i acc[i] (Array.getElem?_eq_getElem hi')
        rw [List.getElem?_map, hk, Array.getElem?_toList, Array.getElem?_eq_getElem hi']
        rfl
      · rw [List.getElem?_eq_none (by rw [Array.length_toList, hacc.1]; omega), List.getElem?_eq_none (by rw [List.length_map]; omega)]
    rw [e]
    exact hP
  obtain ⟨l, hl, ht⟩ := strsAre_values hS
  subst ht
  rw [hl]
  have hok' := joinOk_of hok
  unfold JoinOk at hok'
  rw [Bool.not_eq_true'] at hok'
  have g : Gives (joinTail x (strValues l)) (joinMade x l) := by
    have g0 := gives_joinTail x l hok'
    cases l with
    | nil => exact g0
    | cons p r => cases r with
      | nil => exact g0
      | cons q r' => exact g0
  refine g prog w A (wants Q E) s' (post_join l ⟨joinFit_length hok', fun t' k => ?_⟩)
  rw [Moved.eq_with hmv]
  refine hq s'.heap t' k fun b o e => hmv.heap b o (fun hI => absurd (Heap.lt_size e) (by rw [List.mem_singleton.mp hI]; exact Nat.lt_irrefl _)) (Heap.get?_push_of_some _ e)
end
end PySem

namespace Tb
open PySem PySem.Spec PyProof.Rows L2 TL
def valsO (p d : Addr) : HO := .ext fun h => h.IsValuesView p d
theorem valsO_ok {P : Program} {w : World} {H : Hp} {h : Heap} {p d : Addr} (e : h.get? p = some { cls := .type "dict_values", data := .fields #[.ref d] }) : ObjOk P w H h p (valsO p d) :=
  ⟨⟨_, e, rfl, rfl⟩, ⟨_, e⟩, fun h1 h2 x k => let ⟨o, ho, r⟩ := x; ⟨o, k o ho, r⟩⟩
section
variable {X : Cx}
def rVals : V → List V → Hp → VK → Prop := fun x xs H Q => ∃ (a : Addr) (kvs : List (Key × V)), x = .ref a ∧ xs = [] ∧ H a = some (.dK kvs) ∧ ∀ p, H p = none → Q (.ref p) (upd H p (valsO p a))
theorem mt_vals : MtR X "dict.values" rVals := by
  intro pins s σ H x xs v us Q I rx rxs h
  obtain ⟨a, kvs, rfl, rfl, ha, q⟩ := h
  cases rx
  cases rxs
  obtain ⟨_, hsys, vs, rel, dof⟩ := dk_of I.hok ha
  obtain ⟨ep, dat⟩ := dof.dictAt
  obtain ⟨ob, es, ho, ex, hdat, hko, hpr, hnd⟩ := id dat
  refine call_meetsIn PySem.F.slot_dict_values ⟨ob, ho, ex.1⟩ PySem.F.entry_dict_values (PySem.F.args_dict_values_1 _) (meets_dict_values (mixKind X.prog X.w) a hsys) ⟨⟨vs, dof⟩, ?_⟩
  exact ⟨.ref s.heap.objs.size, upd H s.heap.objs.size (valsO s.heap.objs.size a), I.laid (t' := s.toks) (fun b u e => Heap.get?_push_of_some _ e) (Nat.le_refl _) (valsO_ok (Heap.get?_push_size _ rfl)), rfl, q _ (I.hok.fresh (Nat.le_refl _))⟩
def rJoinV : V → List V → Hp → VK → Prop := fun x xs H Q => ∃ (a : Str) (p d : Addr) (kvs : List (Key × V)) (ys : List Str), x = .str a ∧ xs = [.ref p] ∧ H p = some (valsO p d) ∧ H d = some (.dK kvs) ∧ kvs.map Prod.snd = ys.map V.str ∧ (ys.map (·.length)).sum + ys.length * a.length ≤ 16777216 ∧ Q (.str (Txt.join a ys)) H
theorem mt_joinV (hc : X.calm = true) : MtR X "str.join" rJoinV := by
  intro pins s σ H x xs v us Q I rx rxs h
  obtain ⟨a, p, d, kvs, ys, rfl, rfl, hp, hd, hy, hz, q⟩ := h
  obtain ⟨t, rfl⟩ := rx
  obtain ⟨u, rfl, r⟩ := vals1 rxs
  cases (show u = Value.ref p from r)
  have hv : s.heap.IsValuesView p d := (show ObjOk X.prog X.w H s.heap p (valsO p d) from I.hok p _ hp).1
  obtain ⟨hl, hsys, vs, rel, dof⟩ := dk_of I.hok hd
  obtain ⟨ep, dat⟩ := dof.dictAt
  have hlen : kvs.length = vs.length := KV.length rel
  have hS : StrsAre (vs.map Prod.snd) ys := strs_at (by
      have e1 := congrArg List.length hy
      rw [List.length_map, List.length_map] at e1
      rw [List.length_map, ← hlen, e1]) fun j v e => by
    rw [List.getElem?_map] at e
    obtain ⟨⟨k, v'⟩, hk, e'⟩ := Option.map_eq_some_iff.mp e
    have e'' : v' = v := e'
    subst e''
    obtain ⟨x, h1, h2⟩ := KV.at' rel hk
    have e1 : (kvs.map Prod.snd)[j]? = some x := by rw [List.getElem?_map, h1] <;> rfl
    rw [hy, List.getElem?_map] at e1
    obtain ⟨y, hj, e2⟩ := Option.map_eq_some_iff.mp e1
    subst e2
    obtain ⟨t, e3⟩ := h2
    exact ⟨y, t, hj, e3⟩
  refine joinDV (I.ok.hd hc) hv dat hS (by omega) hz fun h' t' k hk => ?_
  exact ⟨.str _, H, I.kept (t' := k) hk, ⟨t', rfl⟩, q⟩
/-- sep.join(d.values()) -/
def tJoinV (ts td : TE) : TE := fun σ H Q => ts σ H fun x H1 => ∃ a : Str, x = .str a ∧ td σ H1 fun y H2 => ∃ (d : Addr) (kvs : List (Key × V)) (ys : List Str), y = .ref d ∧ H2 d = some (.dK kvs) ∧ kvs.map Prod.snd = ys.map V.str ∧ (ys.map (·.length)).sum + ys.length * a.length ≤ 16777216 ∧ ∀ H', Same H2 H' → Q (.str (Txt.join a ys)) H'
theorem pe_joinV {o e : Expr} {to te : TE} {apos pos ap2 p2 : Pos} (hc : X.calm = true) (ho : PE X o to) (he : PE X e te) (hs : starEach [Expr.Call (.Attribute e "values" ap2) [] [] p2] X.env = [(false, eval (Expr.Call (.Attribute e "values" ap2) [] [] p2) X.env)] := by rfl) (hbase : attributeBase o "join" X.env (eval o X.env) = eval o X.env := by rfl) (hline : (apos.endLine == pos.line) = true := by rfl)
    (hbase2 : attributeBase e "values" X.env (eval e X.env) = eval e X.env := by rfl) (hline2 : (ap2.endLine == p2.line) = true := by rfl) :
    PE X (.Call (.Attribute o "join" apos) [.Call (.Attribute e "values" ap2) [] [] p2] [] pos) (tJoinV to te) :=
  PE.weak (pe_m1 PySem.F.slot_str_join PySem.F.type_str_join (mt_joinV hc) (PE.mono ho) (pe_bm0 PySem.F.plainAttrs_dict PySem.F.slot_dict_values PySem.F.type_dict_values mt_vals (PE.mono he) hbase2 hline2) hs hbase hline) fun σ H Q z => by
    refine ⟨_, z, fun x H1 ⟨a, ex, z1⟩ => ⟨⟨a, ex⟩, _, z1, fun y H2 ⟨d, kvs, ys, ey, hd, hv, hz, q⟩ => ?_⟩⟩
    subst ex ey
    have ht : tyV X.K "dict" (.ref d) H2 := .inr (.inr (.inl ⟨rfl, .inl ⟨kvs, hd⟩⟩))
    refine ⟨ht, d, kvs, rfl, rfl, hd, fun p np => ?_⟩
    have npd : d ≠ p := ne_of_none hd np
    exact ⟨a, p, d, kvs, ys, rfl, rfl, upd_same, by rw [upd_ne npd]; exact hd, hv, hz, q _ (same_upd np)⟩
end
end Tb

set_option Elab.async false
set_option linter.all false
set_option maxRecDepth 100000
set_option maxHeartbeats 2000000
namespace Tb
open PySem PySem.Spec PyProof.Rows L2 TL
/-- a list or a tuple -/
def SeqH (H : Hp) (p : Addr) (xs : List V) : Prop := H p = some (.lst xs) ∨ H p = some (.tup xs)
theorem SeqH.same {H H' : Hp} {p : Addr} {xs : List V} (h : SeqH H p xs) (s : Same H H') : SeqH H' p xs := h.imp (s _ _) (s _ _)
theorem SeqH.sq {K : PySem.W.Frag} {H : Hp} {p : Addr} {xs : List V} (h : SeqH H p xs) : SqL K H p xs ∨ SqT K H p xs := h.imp SqL.of SqT.of
def isLT (K : PySem.W.Frag) (H : Hp) (x : V) (b : Bool) : Prop := ∃ t, TyX K H x t ∧ PySem.W.kitAny K t [.type "list", .type "tuple"] = some b
theorem SeqH.isLT {K : PySem.W.Frag} {H : Hp} {p : Addr} {xs : List V} (h : SeqH H p xs) : isLT K H (.ref p) true := by
  rcases h with h | h
  · exact ⟨_, .base (.lst h), kitAny_cons (b := true) (kit_ty (by decide +kernel)) (fun z => nomatch z) (fun _ => rfl)⟩
  · exact ⟨_, .base (.tup h), kitAny_cons (b := false) (kit_ty (by decide +kernel)) (fun _ => kitAny_cons (b := true) (kit_ty (by decide +kernel)) (fun z => nomatch z) (fun _ => rfl)) (fun z => nomatch z)⟩
def tIsLT (K : PySem.W.Frag) (ta : TE) : TE := fun σ H Q => ta σ H fun x H1 => ∃ b, (∀ H', Same H1 H' → isLT K H' x b) ∧ ∀ H', Same H1 H' → Q (.bl b) H'
theorem pe_isLT {X : Cx} {a : Expr} {ta : TE} {k : Nat} {p p1 p2 p3 pos : Pos} (ha : PE X a ta) (mi : X.mg "isinstance" = none) (hg : Gl X "isinstance") (ml : X.mg "list" = none) (hgl : Gl X "list") (mt : X.mg "tuple" = none) (hgt : Gl X "tuple")
    (na : starEach [a, .Tuple [.Name "list" p1, .Name "tuple" p2] k p3] X.env = (false, eval a X.env) :: starEach [.Tuple [.Name "list" p1, .Name "tuple" p2] k p3] X.env := by rfl)
    (na2 : starEach [.Tuple [.Name "list" p1, .Name "tuple" p2] k p3] X.env = (false, eval (.Tuple [.Name "list" p1, .Name "tuple" p2] k p3) X.env) :: starEach [] X.env := by rfl)
    (na3 : starEach [.Name "list" p1, .Name "tuple" p2] X.env = (false, eval (.Name "list" p1) X.env) :: starEach [.Name "tuple" p2] X.env := by rfl)
    (na4 : starEach [.Name "tuple" p2] X.env = (false, eval (.Name "tuple" p2) X.env) :: starEach [] X.env := by rfl)
    (hpl : (backTo pos (starEach [.Tuple [.Name "list" p1, .Name "tuple" p2] k p3] X.env)).any (·.1) = false := by rfl) :
    PE X (.Call (.Name "isinstance" p) [a, .Tuple [.Name "list" p1, .Name "tuple" p2] k p3] [] pos) (tIsLT X.K ta) :=
  PE.weak (pe_callB call_isiT hg mi (by decide +kernel) (pa_cons (PE.mono ha) (pa_cons (pe_tupS (pa_cons (pe_bltn hgl ml (by decide +kernel) (v := .ty "list") rfl) (pa_cons (pe_bltn hgt mt (by decide +kernel) (v := .ty "tuple") rfl) pa_nil na4) na3)) pa_nil na2) na) (he := na) (hpl := hpl)) fun σ H Q z => ⟨_, z, fun x H1 ⟨b, h, q⟩ =>
    ⟨by show 2 ≤ sizeLine; decide, fun T H2 s2 n2 e2 => by
      obtain ⟨t, ty, k⟩ := h H2 s2
      exact ⟨x, T, _, t, _, b, rfl, e2, .cons (.ty _) (.cons (.ty _) .nil), ty, k, q H2 s2⟩⟩⟩
section
variable {P : Program} {w : World} {K : PySem.W.Frag} {mg : Str → Option Value} {base : Heap}
/-! ### _are_letters -/
abbrev nAreLetters : List Str := ["thing", "most"]
theorem scAreLetters : FnScope nAreLetters ["thing", "most"] (defScope sAreLetters) := ⟨rfl, rfl, rfl, by decide +kernel, rfl, by decide +kernel, by decide +kernel⟩
def okLetters (cs : List Nat) : Bool := cs.all isLow && (decide (1 ≤ cs.length) && (decide (cs.length ≤ 5) && decide cs.Nodup))
def spAreLetters (K : PySem.W.Frag) : Sp := fun vs H Q _ => (∃ cs : List Nat, vs = [.str (S cs), .int 5] ∧ cs.length ≤ 1000 ∧ ∀ H', Same H H' → Q (.bl (okLetters cs)) H') ∨ (∃ x, vs = [x, .int 5] ∧ Isi K H x "str" false ∧ Q (.bl false) H)
theorem ok_areLetters {f : Addr} {fd : FuncData} {k : Nat} (F : Fun K "are_letters" "are_letters" sAreLetters f fd) (DT : Df P w K mg base (k + 1) "is_text" ["thing"] (spIsText K)) (DD : Df P w K mg base (k + 1) "are_different" ["strings"] (spAreDiff K)) (ml : mg "len" = none) : FnOk P w K mg base CX0 (k + 2) f fd ["thing", "most"] (spAreLetters K) := by
  refine F.ok scAreLetters (fun vs H Q E h => ?_) (fun cdv A outer s H vs Q E hr h => ?_)
  · rcases h with ⟨cs, rfl, _⟩ | ⟨x, rfl, _⟩ <;> rfl
  · refine ⟨_, pss_one (ps_ret (pe_and (pe_df DT hr (pa_cons (pv 0) pa_nil)) (pe_and (pe_chain op_le op_le pe_int (pe_callB call_len_str (by rfl) ml PySem.boot_len (pa_cons (pv 0) pa_nil)) (pv 1)) (pe_one (pe_df DD hr (pa_cons (pv 0) pa_nil)))))), ?_⟩
    rcases h with ⟨cs, rfl, hl, q⟩ | ⟨x, rfl, hx, q⟩
    · refine ⟨_, rfl, .inl ⟨cs, rfl, hl, fun H' s' => ?_⟩⟩
      have hq := q H' s'
      refine ⟨_, rfl, ?_⟩
      unfold okLetters at hq
      by_cases h1 : cs.all isLow = true
      · rw [h1] at hq ⊢
        refine iteT ⟨_, rfl, S cs, rfl, by rw [len_S]; exact Nat.le_trans hl (by decide), _, _, rfl, rfl, _, rfl, ?_⟩
        rw [len_S]
        by_cases h2 : 1 ≤ cs.length
        · rw [decide_eq_true h2] at hq
          rw [decide_eq_true (show (1 : Int) ≤ (cs.length : Int) by omega)]
          refine iteT ⟨_, rfl, _, _, rfl, rfl, _, rfl, ?_⟩
          have e : decide ((cs.length : Int) ≤ 5) = decide (cs.length ≤ 5) := by
            rw [decide_eq_decide]
            omega
          rw [e]
          by_cases h3 : cs.length ≤ 5
          · rw [decide_eq_true h3] at hq ⊢
            exact iteT ⟨_, rfl, .inl ⟨cs, rfl, hl, hq⟩⟩
          · rw [decide_eq_false h3] at hq ⊢
            exact iteF hq
        · rw [decide_eq_false h2] at hq
          rw [decide_eq_false (show ¬ (1 : Int) ≤ (cs.length : Int) by omega)]
          refine iteF ⟨_, rfl, iteF hq⟩
      · rw [Bool.eq_false_iff.mpr h1] at hq ⊢
        exact iteF hq
    · exact ⟨_, rfl, .inr ⟨x, rfl, hx, false, rfl, iteF q⟩⟩
/-! ### _are_boxes -/
def isCap (c : Nat) : Bool := decide (65 ≤ c ∧ c ≤ 90)
def AZ : List Nat := (List.range 26).map (65 + ·)
theorem AZ_str : Str.ofString "ABCDEFGHIJKLMNOPQRSTUVWXYZ" = S AZ := by decide +kernel
theorem cap_AZ (c : Nat) : decide (c ∈ AZ) = isCap c := by
  unfold isCap AZ
  rw [decide_eq_decide, List.mem_map]
  constructor
  · rintro ⟨i, hi, rfl⟩
    have := List.mem_range.mp hi
    omega
  · intro h
    exact ⟨c - 65, List.mem_range.mpr (by omega), by omega⟩
def okBoxes (cs : List Nat) : Bool := decide (cs.length ≤ 6) && (cs.all isCap && decide cs.Nodup)
abbrev nAreBoxes : List Str := ["thing", "sign"]
theorem scAreBoxes : FnScope nAreBoxes ["thing"] (defScope sAreBoxes) := ⟨rfl, rfl, rfl, by decide +kernel, rfl, by decide +kernel, by decide +kernel⟩
def spAreBoxes (K : PySem.W.Frag) : Sp := fun vs H Q _ => (∃ cs : List Nat, vs = [.str (S cs)] ∧ cs.length ≤ 1000 ∧ ∀ H', Same H H' → Q (.bl (okBoxes cs)) H') ∨ (∃ x, vs = [x] ∧ Isi K H x "str" false ∧ Q (.bl false) H)
theorem ok_areBoxes {f : Addr} {fd : FuncData} {k : Nat} (F : Fun K "_are_boxes" "_are_boxes" sAreBoxes f fd) (DD : Df P w K mg base (k + 1) "are_different" ["strings"] (spAreDiff K)) (mi : mg "isinstance" = none) (ms : mg "str" = none) (ma : mg "all" = none) (ml : mg "len" = none) (mN : ∃ t, mg "MOST_BOXES" = some (.int 6 t)) (mB : ∃ t, mg "BOXES" = some (.str (Str.ofString "ABCDEFGHIJKLMNOPQRSTUVWXYZ") t)) : FnOk P w K mg base CX0 (k + 2) f fd ["thing"] (spAreBoxes K) := by
  obtain ⟨tN, mN⟩ := mN
  obtain ⟨tB, mB⟩ := mB
  refine F.ok scAreBoxes (fun vs H Q E h => ?_) (fun cdv A outer s H vs Q E hr h => ?_)
  · rcases h with ⟨cs, rfl, _⟩ | ⟨x, rfl, _⟩ <;> rfl
  · refine ⟨_, pss_cons (ps_if (PW.pt (pw_or (pt_not (pt_val (pe_isStr (pv 0) mi (by rfl) ms (by rfl)))) (pw_or1 (pt_cmpR op_gt (pe_callB call_len_str (by rfl) ml PySem.boot_len (pa_cons (pv 0) pa_nil)) (pe_glob (v := .int 6) (by rfl) mN ⟨_, rfl⟩) (nomark _))))) (pss_one (ps_ret pe_bl)) pss_nil)
      (pss_one (ps_ret (pe_and (pe_callB (cr_all rfl) (by rfl) ma (by decide +kernel) (pa_cons (pe_lc (own := [("sign", 1)]) (g := gName 1) (tt := tYes) (te := tOp (fun x y H Q => ∃ (c : Nat) (z : Str), x = .str ⟨#[c]⟩ ∧ y = .str z ∧ Q (.bl (decide (c ∈ z.cps.toList))) H) (tVar 1) (tC (.str (Str.ofString "ABCDEFGHIJKLMNOPQRSTUVWXYZ")))) rfl scAreBoxes.nd
          (pi_str (pv 0)) (blkOk_by (own := [("sign", 1)]) (N := nAreBoxes) (sc := defScope sAreBoxes) (by decide +kernel)) (fun _ _ _ _ _ => pg_name (i := 1) scAreBoxes.nd rfl (.inl rfl)) (fun _ _ _ _ _ => pts_nil) (fun _ _ _ _ _ => pe_cmpR op_in_sign (pv 1) (pe_glob (by rfl) mB ⟨_, rfl⟩) (by rfl))) pa_nil)) (pe_one (pe_df DD hr (pa_cons (pv 0) pa_nil)))))), ?_⟩
    rcases h with ⟨cs, rfl, hl, q⟩ | ⟨x, rfl, hx, q⟩
    · refine ⟨_, rfl, true, isi_str _, true, rfl, iteF ⟨_, rfl, S cs, rfl, by rw [len_S]; exact Nat.le_trans hl (by decide), _, _, rfl, rfl, _, rfl, ?_⟩⟩
      rw [len_S]
      unfold okBoxes at q
      by_cases h1 : cs.length ≤ 6
      · rw [decide_eq_true h1] at q
        rw [decide_eq_false (show ¬ (6 : Int) < (cs.length : Int) by omega)]
        refine iteF ⟨_, rfl, S cs, rfl, fun D nD => lc_mapS (cs := cs) (fun c => .bl (isCap c)) nD (Nat.lt_of_le_of_lt hl (by decide)) ?_ ?_⟩
        · intro c hc H' R s' r
          refine ⟨_, rfl, c, _, rfl, rfl, ?_⟩
          rw [AZ_str]
          show R (.bl (decide (c ∈ AZ))) H'
          rw [cap_AZ]
          exact r
        · intro H' s' e'
          have hq := q H' s'
          refine ⟨D, cs.map isCap, rfl, SqL.of (by rw [e', List.map_map]; rfl), _, rfl, ?_⟩
          rw [List.all_map, show (id ∘ isCap) = isCap from rfl]
          by_cases h2 : cs.all isCap = true
          · rw [h2] at hq ⊢
            exact iteT ⟨_, rfl, .inl ⟨cs, rfl, hl, hq⟩⟩
          · rw [Bool.eq_false_iff.mpr h2] at hq ⊢
            exact iteF hq
      · rw [decide_eq_false h1] at q
        rw [decide_eq_true (show (6 : Int) < (cs.length : Int) by omega)]
        exact iteT (q H (fun _ _ e => e))
    · exact ⟨_, rfl, false, hx, false, rfl, iteT (iteT q)⟩
/-! ### _is_pair, _is_one_of -/
abbrev nIsPair : List Str := ["thing"]
theorem scIsPair : FnScope nIsPair ["thing"] (defScope sIsPair) := ⟨rfl, rfl, rfl, by decide +kernel, rfl, by decide +kernel, by decide +kernel⟩
def spIsPair (K : PySem.W.Frag) : Sp := fun vs H Q _ => (∃ p xs, vs = [.ref p] ∧ SeqH H p xs ∧ ∀ H', Same H H' → Q (.bl (decide (xs.length = 2))) H') ∨ (∃ x, vs = [x] ∧ (∀ H', Same H H' → isLT K H' x false) ∧ ∀ H', Same H H' → Q (.bl false) H')
theorem ok_isPair {f : Addr} {fd : FuncData} {k : Nat} (F : Fun K "is_pair" "is_pair" sIsPair f fd) (mi : mg "isinstance" = none) (mL : mg "list" = none) (mT : mg "tuple" = none) (ml : mg "len" = none) : FnOk P w K mg base CX0 (k + 1) f fd ["thing"] (spIsPair K) := by
  refine F.ok scIsPair (fun vs H Q E h => ?_) (fun cdv A outer s H vs Q E hr h => ?_)
  · rcases h with ⟨p, xs, rfl, _⟩ | ⟨x, rfl, _⟩ <;> rfl
  · refine ⟨_, pss_one (ps_ret (pe_and (pe_isLT (pv 0) mi (by rfl) mL (by rfl) mT (by rfl)) (pe_one (pe_cmpR op_eq (pe_callB call_lenS (by rfl) ml PySem.boot_len (pa_cons (pv 0) pa_nil)) pe_int (nomark _))))), ?_⟩
    rcases h with ⟨p, xs, rfl, hp, q⟩ | ⟨x, rfl, hx, q⟩
    · refine ⟨_, rfl, true, fun H' s' => (hp.same s').isLT, fun H' s' => ⟨true, rfl, iteT ⟨_, rfl, p, xs, rfl, (hp.same s').sq, rfl, ?_⟩⟩⟩
      have e : decide (V.int (xs.length : Int) = V.int 2) = decide (xs.length = 2) := num_eq xs.length 2
      rw [e]
      exact q H' s'
    · exact ⟨_, rfl, false, hx, fun H' s' => ⟨false, rfl, iteF (q H' s')⟩⟩
abbrev nIsOneOf : List Str := ["thing", "strings"]
theorem scIsOneOf : FnScope nIsOneOf ["thing", "strings"] (defScope sIsOneOf) := ⟨rfl, rfl, rfl, by decide +kernel, rfl, by decide +kernel, by decide +kernel⟩
def spIsOneOf (K : PySem.W.Frag) : Sp := fun vs H Q _ => (∃ (c : List Nat) (p : Addr) (l : List (List Nat)), vs = [.str (S c), .ref p] ∧ SeqH H p (txs l) ∧ Q (.bl (decide (c ∈ l))) H) ∨ (∃ x y, vs = [x, y] ∧ Isi K H x "str" false ∧ Q (.bl false) H)
theorem ok_isOneOf {f : Addr} {fd : FuncData} {k : Nat} (F : Fun K "is_one_of" "is_one_of" sIsOneOf f fd) (mi : mg "isinstance" = none) (ms : mg "str" = none) : FnOk P w K mg base CX0 (k + 1) f fd ["thing", "strings"] (spIsOneOf K) := by
  refine F.ok scIsOneOf (fun vs H Q E h => ?_) (fun cdv A outer s H vs Q E hr h => ?_)
  · rcases h with ⟨c, p, l, rfl, _⟩ | ⟨x, y, rfl, _⟩ <;> rfl
  · refine ⟨_, pss_one (ps_ret (pe_and (pe_isStr (pv 0) mi (by rfl) ms (by rfl)) (pe_one (pe_cmpR op_in_seq (pv 0) (pv 1) (by rfl))))), ?_⟩
    rcases h with ⟨c, p, l, rfl, hp, q⟩ | ⟨x, y, rfl, hx, q⟩
    · refine ⟨_, rfl, true, isi_str _, true, rfl, iteT ⟨_, rfl, _, rfl, p, txs l, rfl, hp.sq, rfl, ?_, ?_⟩⟩
      · unfold txs
        rw [List.all_map, List.all_eq_true]
        exact fun _ _ => rfl
      · show Q (.bl (inV (.str (S c)) (txs l))) H
        unfold txs
        rw [inV_S]
        exact q
    · exact ⟨_, rfl, false, hx, false, rfl, iteF q⟩
/-! ### _are_places -/
def okPlaces (l : List (List Nat)) : Bool := (decide (1 ≤ l.length) && decide (l.length ≤ 50)) && (l.all isName && decide l.Nodup)
def okNames (l : List (List Nat)) : Bool := decide (1 ≤ l.length) && (l.all isName && decide l.Nodup)
abbrev nAreNames : List Str := ["thing", "name"]
theorem scAreNames : FnScope nAreNames ["thing"] (defScope sAreNames) := ⟨rfl, rfl, rfl, by decide +kernel, rfl, by decide +kernel, by decide +kernel⟩
theorem scArePlaces : FnScope ["thing"] ["thing"] (defScope sArePlaces) := ⟨rfl, rfl, rfl, by decide +kernel, rfl, by decide +kernel, by decide +kernel⟩
/-- good ones only -/
def spAreNames : Sp := fun vs H Q _ => ∃ (p : Addr) (l : List (List Nat)), vs = [.ref p] ∧ SeqH H p (txs l) ∧ (∀ x ∈ l, x.length ≤ 1000) ∧ l.length ≤ 1000 ∧ okNames l = true ∧ ∀ H', Same H H' → Q (.bl true) H'
def spArePlaces : Sp := fun vs H Q _ => ∃ (p : Addr) (l : List (List Nat)), vs = [.ref p] ∧ SeqH H p (txs l) ∧ (∀ x ∈ l, x.length ≤ 1000) ∧ l.length ≤ 1000 ∧ okPlaces l = true ∧ ∀ H', Same H H' → Q (.bl true) H'
end
end Tb

set_option Elab.async false
set_option linter.all false
set_option maxRecDepth 100000
set_option maxHeartbeats 2000000
namespace Tb
open PySem PySem.Spec PyProof.Rows L2 TL
/-! ### a comprehension over anything that gives the items of xs; its element may lay new objects -/
section
variable {te : TE} {tt : TT} {vs : List Nat} {σ : L2.St} {H1 : Hp} {D : Addr} {Qd : Hp → Prop} {sl : Nat} {J : It} {n : Nat} {G : Hp → Prop} {Y : Nat → Hp → V → Hp → Prop}
theorem lc_mapW {xs : List V} (g : V → V) (w : Walk J n G Y) (hn : n = xs.length) (hY : ∀ i H x H', Y i H x H' → H' = H ∧ xs[i]? = some x) (hG : ∀ H', Same H1 H' → G H') (nD : H1 D = none) (hl : xs.length < sizeLine)
    (he : ∀ x ∈ xs, ∀ H' (R : VK), Same H1 H' → (∀ H'', Same H' H'' → R (g x) H'') → te ((wipe σ vs).set sl (some x)) H' R)
    (hd : ∀ H', Same H1 H' → H' D = some (.lst (xs.map g)) → Qd H') (hw : ∀ x, wipe ((wipe σ vs).set sl (some x)) vs = wipe σ vs := by intro _; rfl) :
    ∃ W : Nat → Nat → Hp → Prop, (∃ m, W 0 m (upd H1 D (.lst []))) ∧ ∀ i m H, W i m H →
      (J.stop i H ∧ Qd H) ∨ (J.go i H ∧ ∃ Nx : Hp → Prop, (∀ H', Nx H' → ∃ m', m' < m ∧ W (i + 1) m' H') ∧ ∀ x H', J.yld i H x H' → gName sl x (wipe σ vs) H' fun σ2 H2 => wipe σ2 vs = wipe σ vs ∧ tYes σ2 H2 fun b H3 =>
        if b = true then te σ2 H3 fun y H4 => ∃ acc, H4 D = some (.lst acc) ∧ acc.length < sizeLine ∧ Nx (upd H4 D (.lst (acc ++ [y]))) else Nx H3) := by
  refine lc_it w (fun i H => Same H1 H ∧ H D = some (.lst ((xs.take i).map g))) ⟨same_upd nD, upd_same⟩ (fun i H _ h => hG H h.1) ?_ ?_
  · rintro i x H H' hi ⟨s, e⟩ y
    obtain ⟨rfl, hx⟩ := hY _ _ _ _ y
    refine ⟨hw _, tYes_if (he x (List.mem_of_getElem? hx) _ _ s fun H2 s2 => ⟨_, s2 _ _ e, ?_, fun b o eb => ?_, ?_⟩)⟩
    · rw [List.length_map, List.length_take]
      exact Nat.lt_of_le_of_lt (Nat.min_le_right _ _) hl
    · rw [upd_ne (ne_of_none eb nD)]
      exact s2 _ _ (s _ _ eb)
    · rw [upd_same, List.take_add_one, hx, List.map_append]
      rfl
  · rintro H ⟨s, e⟩
    subst hn
    rw [List.take_length] at e
    exact hd H s e
end
theorem same_unlock {H H' : Hp} {d : Addr} {od : Obj} {u : HO} (hd : H d = some u) (s : Same (upd H d (.frz od u)) H') : Same H (upd H' d u) := fun b o e => by
  by_cases hb : b = d
  · rw [hb, hd] at e
    cases e
    rw [hb, upd_same]
  · rw [upd_ne hb]
    refine s b o ?_
    rw [upd_ne hb]
    exact e
section
variable {P : Program} {w : World} {K : PySem.W.Frag} {mg : Str → Option Value} {base : Heap}
def nameV : V → V := fun v => match v with | .str x => .bl (isName (tl x)) | _ => .non
theorem nameV_S (c : List Nat) : nameV (.str (S c)) = .bl (isName c) := rfl
theorem okNames_iff {l : List (List Nat)} (h : okNames l = true) : 1 ≤ l.length ∧ l.all isName = true ∧ l.Nodup := by
  unfold okNames at h
  rw [Bool.and_eq_true, Bool.and_eq_true] at h
  exact ⟨of_decide_eq_true h.1, h.2.1, of_decide_eq_true h.2.2⟩
theorem ok_areNames {f : Addr} {fd : FuncData} {k : Nat} (F : Fun K "are_names" "are_names" sAreNames f fd) (DN : Df P w K mg base (k + 2) "is_name" ["thing"] (spIsName K)) (DD : Df P w K mg base (k + 1) "are_different" ["strings"] (spAreDiff K)) (mi : mg "isinstance" = none) (mL : mg "list" = none) (mT : mg "tuple" = none) (ma : mg "all" = none) (ml : mg "len" = none) : FnOk P w K mg base CX0 (k + 3) f fd ["thing"] spAreNames := by
  refine F.ok scAreNames (fun vs H Q E h => ?_) (fun cdv A outer s H vs Q E hr h => ?_)
  · obtain ⟨p, l, rfl, _⟩ := h
    rfl
  · obtain ⟨p, l, rfl, hp, hle, hl, ok, q⟩ := h
    obtain ⟨h1, h2, h3⟩ := okNames_iff ok
    have lt' : (txs l).length = l.length := List.length_map _
    rcases hp with hp | hp
    · refine ⟨_, pss_cons (ps_if (PW.pt (pw_or (pt_not (pt_val (pe_isLT (pv 0) mi (by rfl) mL (by rfl) mT (by rfl)))) (pw_or1 (pt_cmpR op_eq (pe_callB call_lenS (by rfl) ml PySem.boot_len (pa_cons (pv 0) pa_nil)) pe_int (nomark _))))) (pss_one (ps_ret pe_bl)) pss_nil)
        (pss_one (ps_ret (pe_and (pe_callB (cr_all rfl) (by rfl) ma (by decide +kernel) (pa_cons (pe_lc (own := [("name", 1)]) (g := gName 1) (tt := tYes) (te := tCall (spIsName K) [] E0 (tCons (tVar 1) tNil)) rfl scAreNames.nd
          (pi_list (pv 0)) (blkOk_by (own := [("name", 1)]) (N := nAreNames) (sc := defScope sAreNames) (by decide +kernel)) (fun _ _ _ _ _ => pg_name (i := 1) scAreNames.nd rfl (.inl rfl)) (fun _ _ _ _ _ => pts_nil) (fun _ _ _ _ _ => pe_df DN hr (pa_cons (pv 1) pa_nil))) pa_nil)) (pe_one (pe_df DD hr (pa_cons (pv 0) pa_nil)))))), ?_⟩
      refine ⟨_, rfl, true, fun H' s' => SeqH.isLT (.inl (s' _ _ hp)), fun H' s' => ⟨true, rfl, iteF ⟨_, rfl, p, txs l, rfl, .inl (SqL.of (s' _ _ hp)), rfl, false, ?_, iteF ?_⟩⟩⟩
      · rw [lt', decide_eq_false]
        intro z
        injection z with z
        omega
      refine ⟨_, rfl, p, rfl, ⟨_, SqL.of (s' _ _ hp)⟩, fun D nD => lc_mapW (xs := txs l) nameV walk_list rfl (fun i H x H' y => ⟨y.1, y.2⟩) (fun H2 s2 => SqL.of (s2 _ _ (s' _ _ hp))) nD (by rw [lt']; exact Nat.lt_of_le_of_lt hl (by decide)) ?_ ?_⟩
      · intro x hx H2 R s2 r
        obtain ⟨c, hc, rfl⟩ := List.mem_map.mp hx
        exact ⟨_, rfl, .inl ⟨c, rfl, hle c hc, fun H3 s3 => r H3 s3⟩⟩
      · intro H2 s2 e2
        have eb : H2 D = some (.lst ((l.map isName).map V.bl)) := by
          rw [e2]
          unfold txs
          rw [List.map_map, List.map_map]
          rfl
        refine ⟨D, l.map isName, rfl, SqL.of eb, true, ?_, iteT ⟨_, rfl, .inr ⟨p, l, rfl, .inl (SqL.of (s2 _ _ (s' _ _ hp))), hl, ?_⟩⟩⟩
        · rw [List.all_map, show l.all (id ∘ isName) = l.all isName from rfl, h2]
        · rw [decide_eq_true h3]
          exact q _ (s'.trans s2)
    · refine ⟨_, pss_cons (ps_if (PW.pt (pw_or (pt_not (pt_val (pe_isLT (pv 0) mi (by rfl) mL (by rfl) mT (by rfl)))) (pw_or1 (pt_cmpR op_eq (pe_callB call_lenS (by rfl) ml PySem.boot_len (pa_cons (pv 0) pa_nil)) pe_int (nomark _))))) (pss_one (ps_ret pe_bl)) pss_nil)
        (pss_one (ps_ret (pe_and (pe_callB (cr_all rfl) (by rfl) ma (by decide +kernel) (pa_cons (pe_lc (own := [("name", 1)]) (g := gName 1) (tt := tYes) (te := tCall (spIsName K) [] E0 (tCons (tVar 1) tNil)) rfl scAreNames.nd
          (pi_tup (pv 0)) (blkOk_by (own := [("name", 1)]) (N := nAreNames) (sc := defScope sAreNames) (by decide +kernel)) (fun _ _ _ _ _ => pg_name (i := 1) scAreNames.nd rfl (.inl rfl)) (fun _ _ _ _ _ => pts_nil) (fun _ _ _ _ _ => pe_df DN hr (pa_cons (pv 1) pa_nil))) pa_nil)) (pe_one (pe_df DD hr (pa_cons (pv 0) pa_nil)))))), ?_⟩
      refine ⟨_, rfl, true, fun H' s' => SeqH.isLT (.inr (s' _ _ hp)), fun H' s' => ⟨true, rfl, iteF ⟨_, rfl, p, txs l, rfl, .inr (SqT.of (s' _ _ hp)), rfl, false, ?_, iteF ?_⟩⟩⟩
      · rw [lt', decide_eq_false]
        intro z
        injection z with z
        omega
      refine ⟨_, rfl, p, rfl, ⟨_, SqT.of (s' _ _ hp)⟩, fun D nD => lc_mapW (xs := txs l) nameV walk_tup rfl (fun i H x H' y => ⟨y.1, y.2⟩) (fun H2 s2 => SqT.of (s2 _ _ (s' _ _ hp))) nD (by rw [lt']; exact Nat.lt_of_le_of_lt hl (by decide)) ?_ ?_⟩
      · intro x hx H2 R s2 r
        obtain ⟨c, hc, rfl⟩ := List.mem_map.mp hx
        exact ⟨_, rfl, .inl ⟨c, rfl, hle c hc, fun H3 s3 => r H3 s3⟩⟩
      · intro H2 s2 e2
        have eb : H2 D = some (.lst ((l.map isName).map V.bl)) := by
          rw [e2]
          unfold txs
          rw [List.map_map, List.map_map]
          rfl
        refine ⟨D, l.map isName, rfl, SqL.of eb, true, ?_, iteT ⟨_, rfl, .inr ⟨p, l, rfl, .inr (SqT.of (s2 _ _ (s' _ _ hp))), hl, ?_⟩⟩⟩
        · rw [List.all_map, show l.all (id ∘ isName) = l.all isName from rfl, h2]
        · rw [decide_eq_true h3]
          exact q _ (s'.trans s2)
theorem ok_arePlaces {f : Addr} {fd : FuncData} {k : Nat} (F : Fun K "_are_places" "_are_places" sArePlaces f fd) (DN : Df P w K mg base (k + 1) "are_names" ["thing"] spAreNames) (ml : mg "len" = none) (mN : ∃ t, mg "MOST_PLACES" = some (.int 50 t)) : FnOk P w K mg base CX0 (k + 2) f fd ["thing"] spArePlaces := by
  obtain ⟨tN, mN⟩ := mN
  refine F.ok scArePlaces (fun vs H Q E h => ?_) (fun cdv A outer s H vs Q E hr h => ?_)
  · obtain ⟨p, l, rfl, _⟩ := h
    rfl
  · obtain ⟨p, l, rfl, hp, hle, hl, ok, q⟩ := h
    have lt' : (txs l).length = l.length := List.length_map _
    unfold okPlaces at ok
    rw [Bool.and_eq_true, Bool.and_eq_true] at ok
    obtain ⟨⟨h1, h50⟩, h2⟩ := ok
    have h50 := of_decide_eq_true h50
    refine ⟨_, pss_one (ps_ret (pe_and (pe_df DN hr (pa_cons (pv 0) pa_nil)) (pe_one (pe_cmpR op_le (pe_callB call_lenS (by rfl) ml PySem.boot_len (pa_cons (pv 0) pa_nil)) (pe_glob (v := .int 50) (by rfl) mN ⟨_, rfl⟩) (nomark _))))), ?_⟩
    refine ⟨_, rfl, p, l, rfl, hp, hle, hl, by unfold okNames; rw [h1, h2]; rfl, fun H' s' => ⟨true, rfl, iteT ⟨_, rfl, p, txs l, rfl, (hp.same s').sq, _, _, rfl, rfl, ?_⟩⟩⟩
    have e : V.bl (decide (((txs l).length : Int) ≤ 50)) = V.bl true := by rw [lt', decide_eq_true (show (l.length : Int) ≤ 50 by omega)]
    show Q (V.bl (decide (((txs l).length : Int) ≤ 50))) H'
    rw [e]
    exact q _ s'
end
end Tb

set_option Elab.async false
set_option linter.all false
set_option maxRecDepth 100000
set_option maxHeartbeats 2000000
namespace Tb
open PySem PySem.Spec PyProof.Rows L2 TL
/-! ### _are_fillings -/
theorem isi_dK {K : PySem.W.Frag} {H : Hp} {d : Addr} {kvs : List (Key × V)} (h : H d = some (.dK kvs)) : Isi K H (.ref d) "dict" true := ⟨_, .base (.dK h), kit_ty (by decide +kernel)⟩
theorem isi_dT {K : PySem.W.Frag} {H : Hp} {d : Addr} {kvs : List (List Key × V)} (h : H d = some (.dT kvs)) : Isi K H (.ref d) "dict" true := ⟨_, .base (.dT h), kit_ty (by decide +kernel)⟩
theorem sgs_txs (bs : List Nat) : sgs bs = txs (bs.map fun b => [b]) := by
  unfold sgs txs
  rw [List.map_map]
  rfl
theorem kV_S (c : List Nat) : kV (Sum.inr (S c) : Key) = .str (S c) := rfl
theorem keys_fkv (hf : Fil) : (fkv hf).map (fun kv => kV kv.1) = txs (hf.map (·.1)) := by
  unfold fkv txs
  rw [List.map_map, List.map_map]
  rfl
theorem vals_fkv (hf : Fil) : (fkv hf).map Prod.snd = txs (hf.map (·.2)) := by
  unfold fkv txs
  rw [List.map_map, List.map_map]
  rfl
def okKeys (hf : Fil) (bs : List Nat) : Bool := (hf.map (·.1)).all fun c => decide (c ∈ bs.map fun b => [b])
def okFils (hf : Fil) (bs : List Nat) : Bool := okKeys hf bs && isFill (hf.map (·.2)).flatten bs
def oneV (bs : List Nat) : V → V := fun v => match v with | .str x => .bl (decide (tl x ∈ bs.map fun b => [b])) | _ => .non
theorem join_fil (l : List (List Nat)) : Txt.join (S []) (l.map S) = S l.flatten := by
  rw [join_S, joinL_nil]
theorem len_fil (l : List (List Nat)) : ((l.map S).map (·.length)).sum = l.flatten.length := by
  induction l with
  | nil => rfl
  | cons a r ih =>
    rw [List.map_cons, List.map_cons, List.sum_cons, List.flatten_cons, List.length_append, ih]
    rfl
section
variable {P : Program} {w : World} {K : PySem.W.Frag} {mg : Str → Option Value} {base : Heap}
abbrev nAreFillings : List Str := ["thing", "boxes", "boxes_apart", "box", "filling"]
theorem scAreFillings : FnScope nAreFillings ["thing", "boxes"] (defScope sAreFillings) := ⟨rfl, rfl, rfl, by decide +kernel, rfl, by decide +kernel, by decide +kernel⟩
def spAreFillings : Sp := fun vs H Q _ => ∃ (d : Addr) (hf : Fil) (bs : List Nat), vs = [.ref d, .str (S bs)] ∧ H d = some (.dK (fkv hf)) ∧ hf.length ≤ 1000 ∧ (hf.map (·.2)).flatten.length ≤ 1000 ∧ bs.length ≤ 1000 ∧ (∀ b ∈ bs, isLow b = false) ∧ ∀ H', Same H H' → Q (.bl (okFils hf bs)) H'
theorem ok_areFillings {f : Addr} {fd : FuncData} {k : Nat} (F : Fun K "_are_fillings" "_are_fillings" sAreFillings f fd) (DO : Df P w K mg base (k + 1) "is_one_of" ["thing", "strings"] (spIsOneOf K)) (DF : Df P w K mg base (k + 2) "is_filling" ["thing", "boxes"] (spIsFilling K)) (mi : mg "isinstance" = none) (md : mg "dict" = none) (mL : mg "list" = none) (ms : mg "str" = none) (ma : mg "all" = none) :
    FnOk P w K mg base CX0 (k + 3) f fd ["thing", "boxes"] spAreFillings := by
  refine F.ok scAreFillings (fun vs H Q E h => ?_) (fun cdv A outer s H vs Q E hr h => ?_)
  · obtain ⟨d, hf, bs, rfl, _⟩ := h
    rfl
  · obtain ⟨d, hf, bs, rfl, hd, hl, hl2, hb, hlow, q⟩ := h
    refine ⟨_, pss_cons (ps_if (pt_not (pt_val (pe_isDict (pv 0) mi (by rfl) md (by rfl)))) (pss_one (ps_ret pe_bl)) pss_nil)
      (pss_cons (ps_set (i := 2) scAreFillings.nd rfl (.inr rfl) (pe_callTy (call_listStr rfl) (by rfl) mL (by decide +kernel) (pa_cons (pv 1) pa_nil)))
      (pss_cons (ps_if (pt_not (pt_val (pe_callB (cr_all rfl) (by rfl) ma (by decide +kernel) (pa_cons (pe_lock (pe_lc (own := [("box", 3)]) (g := gName 3) (tt := tYes) (te := tCall (spIsOneOf K) [] E0 (tCons (tVar 3) (tCons (tVar 2) tNil))) rfl scAreFillings.nd
            (pi_keys (pv 0)) (blkOk_by (own := [("box", 3)]) (N := nAreFillings) (sc := defScope sAreFillings) (by decide +kernel)) (fun _ _ _ _ _ => pg_name (i := 3) scAreFillings.nd rfl (.inl rfl)) (fun _ _ _ _ _ => pts_nil) (fun _ _ _ _ _ => pe_df DO hr (pa_cons (pv 3) (pa_cons (pv 2) pa_nil))))) pa_nil)))) (pss_one (ps_ret pe_bl)) pss_nil)
      (pss_cons (ps_if (pt_not (pt_val (pe_callB (cr_all rfl) (by rfl) ma (by decide +kernel) (pa_cons (pe_lock (pe_lc (own := [("filling", 4)]) (g := gName 4) (tt := tYes) (te := tIsi K "str" (tVar 4)) rfl scAreFillings.nd
            (pi_values (pv 0)) (blkOk_by (own := [("filling", 4)]) (N := nAreFillings) (sc := defScope sAreFillings) (by decide +kernel)) (fun _ _ _ _ _ => pg_name (i := 4) scAreFillings.nd rfl (.inl rfl)) (fun _ _ _ _ _ => pts_nil) (fun _ _ _ _ _ => pe_isStr (pv 4) mi (by rfl) ms (by rfl)))) pa_nil)))) (pss_one (ps_ret pe_bl)) pss_nil)
      (pss_one (ps_ret (pe_df DF hr (pa_cons (pe_joinV rfl pe_str (pv 0)) (pa_cons (pv 1) pa_nil)))))))), ?_⟩
    have lk : (txs (hf.map (·.1))).length = hf.length := by unfold txs; rw [List.length_map, List.length_map]
    have lv : (txs (hf.map (·.2))).length = hf.length := by unfold txs; rw [List.length_map, List.length_map]
    have lf : (fkv hf).length = hf.length := List.length_map _
    refine ⟨_, rfl, true, isi_dK hd, true, rfl, iteF ⟨_, rfl, bs, rfl, hb, fun L H1 s1 n1 e1 => ?_⟩⟩
    have hd1 := s1 _ _ hd
    have nLd : L ≠ d := fun z => by rw [z, hd1] at e1; cases e1
    -- the keys
    refine ⟨d, _, hd1, trivial, fun od => ⟨_, rfl, d, od, rfl, .inl ⟨fkv hf, upd_same, fun D nD => ?_⟩⟩⟩
    have nDd : D ≠ d := fun z => by rw [z, upd_same] at nD; cases nD
    refine lc_mapW (xs := txs (hf.map (·.1))) (oneV bs) walk_keys (by rw [lf, lk]) (fun i H x H' y => ?_) (fun H2 s2 => s2 _ _ upd_same) nD (by rw [lk]; exact Nat.lt_of_le_of_lt hl (by decide)) ?_ ?_
    · obtain ⟨e, k', v', hk, ex⟩ := y
      refine ⟨e, ?_⟩
      rw [← keys_fkv, List.getElem?_map, hk, ex]
      rfl
    · intro x hx H2 R s2 r
      obtain ⟨c, hc, rfl⟩ := List.mem_map.mp hx
      refine ⟨_, rfl, _, rfl, .inl ⟨c, L, bs.map fun b => [b], rfl, .inl ?_, r H2 fun _ _ e => e⟩⟩
      rw [← sgs_txs]
      exact s2 _ _ (by rw [upd_ne nLd]; exact e1)
    intro H2 s2 e2
    refine ⟨s2 _ _ upd_same, D, (hf.map (·.1)).map fun c => decide (c ∈ bs.map fun b => [b]), rfl, SqL.of ?_, _, rfl, ?_⟩
    · rw [upd_ne nDd, e2]
      unfold txs
      simp only [List.map_map]
      rfl
    rw [List.all_map]
    have s12 : Same H (upd H2 d (.dK (fkv hf))) := s1.trans (same_unlock hd1 s2)
    show (if (!okKeys hf bs) = true then _ else _)
    by_cases h1 : okKeys hf bs = true
    · rw [h1]
      refine iteF ?_
      -- the values
      refine ⟨d, _, upd_same, trivial, fun od2 => ⟨_, rfl, d, od2, fkv hf, rfl, upd_same, fun D2 nD2 => ?_⟩⟩
      have nD2d : D2 ≠ d := fun z => by rw [z, upd_same] at nD2; cases nD2
      refine lc_mapW (xs := txs (hf.map (·.2))) (fun _ => .bl true) walk_values (by rw [lf, lv]) (fun i H x H' y => ?_) (fun H3 s3 => s3 _ _ upd_same) nD2 (by rw [lv]; exact Nat.lt_of_le_of_lt hl (by decide)) ?_ ?_
      · obtain ⟨e, k', hk⟩ := y
        refine ⟨e, ?_⟩
        rw [← vals_fkv, List.getElem?_map, hk]
        rfl
      · intro x hx H3 R s3 r
        obtain ⟨c, hc, rfl⟩ := List.mem_map.mp hx
        exact ⟨_, rfl, true, isi_str _, r H3 fun _ _ e => e⟩
      intro H3 s3 e3
      refine ⟨s3 _ _ upd_same, D2, (hf.map (·.2)).map fun _ => true, rfl, SqL.of ?_, _, rfl, ?_⟩
      · rw [upd_ne nD2d, e3]
        unfold txs
        simp only [List.map_map]
        rfl
      have ht : (((hf.map (·.2)).map fun _ => true).all id) = true := by
        rw [List.all_eq_true]
        intro b hb
        obtain ⟨_, _, rfl⟩ := List.mem_map.mp hb
        rfl
      rw [ht]
      refine iteF ?_
      have s13 : Same H (upd H3 d (.dK (fkv hf))) := s12.trans (same_unlock upd_same s3)
      -- the fillings in one row
      have ev : (fkv hf).map Prod.snd = ((hf.map (·.2)).map S).map V.str := by
        rw [vals_fkv]
        unfold txs
        rw [List.map_map, List.map_map, List.map_map]
        rfl
      refine ⟨_, rfl, _, rfl, d, fkv hf, (hf.map (·.2)).map S, rfl, upd_same, ev, ?_, fun H4 s4 => ⟨_, rfl, ?_⟩⟩
      · rw [len_fil, str_empty, len_S]
        show _ + _ * 0 ≤ _
        omega
      rw [str_empty, join_fil]
      refine .inl ⟨(hf.map (·.2)).flatten, bs, rfl, hl2, hlow, fun H5 s5 => ?_⟩
      have h := q H5 (s13.trans (s4.trans s5))
      unfold okFils at h
      rw [h1] at h
      exact h
    · rw [Bool.eq_false_iff.mpr h1]
      refine iteT ?_
      have h := q _ s12
      unfold okFils at h
      rw [Bool.eq_false_iff.mpr h1] at h
      exact h
end
end Tb

set_option Elab.async false
set_option linter.all false
set_option maxRecDepth 100000
set_option maxHeartbeats 4000000
namespace Tb
open PySem PySem.Spec PyProof.Rows L2 TL
/-- what stands under a key of the moves that are handed in: a list or a tuple -/
def MvIn (H : Hp) (kv : List Key × V) (m : Mv) : Prop := kv.1 = m.key ∧ ∃ t d, kv.2 = .ref t ∧ SeqH H t [.str (S m.to), .ref d] ∧ H d = some (.dK (fkv m.fl))
theorem MvIn.same {H H' : Hp} (s : Same H H') {kv : List Key × V} {m : Mv} (h : MvIn H kv m) : MvIn H' kv m := by
  obtain ⟨e, t, d, a, b, c⟩ := h
  exact ⟨e, t, d, a, b.same s, s _ _ c⟩
theorem MvAt.to_in {H : Hp} {kv : List Key × V} {m : Mv} (h : MvAt H kv m) : MvIn H kv m := by
  obtain ⟨e, t, d, a, b, c⟩ := h
  exact ⟨e, t, d, a, .inr b, c⟩
theorem MvIn.lock {H : Hp} {p : Addr} {od : Obj} {kvs : List (List Key × V)} (hp : H p = some (.dT kvs)) {kv : List Key × V} {m : Mv} (h : MvIn H kv m) : MvIn (upd H p (.frz od (.dT kvs))) kv m := by
  obtain ⟨e, t, d, a, b, c⟩ := h
  refine ⟨e, t, d, a, ?_, by rw [upd_ne (ne_of c hp (by intro z; cases z))]; exact c⟩
  rcases b with b | b
  · exact .inl (by rw [upd_ne (ne_of b hp (by intro z; cases z))]; exact b)
  · exact .inr (by rw [upd_ne (ne_of b hp (by intro z; cases z))]; exact b)
/-- parts that make a program -/
structure FilQ (bs : List Nat) (fl : Fil) : Prop where
  nd : (fl.map (·.1)).Nodup
  ok : okFils fl bs = true
  len : (fl.map (·.2)).flatten.length ≤ 1000
structure PartsQ (pt : Pt) : Prop where
  le : okLetters pt.letters = true
  bo : okBoxes pt.boxes = true
  pl : okPlaces pt.places = true
  ky : (pt.moves.map fun m => (m.pl, m.lt)).Nodup
  mv : ∀ m ∈ pt.moves, m.pl ∈ pt.places ∧ m.lt ∈ pt.letters ∧ m.to ∈ pt.places ∧ FilQ pt.boxes m.fl
  ek : (pt.ends.map (·.1)).Nodup
  en : ∀ q ∈ pt.ends, q.1 ∈ pt.places ∧ isFill q.2 pt.boxes = true ∧ q.2.length ≤ 1000
theorem paired_get2 {α β : Type} {F : α → β → Prop} : ∀ {l : List α} {m : List β} {i : Nat} {x : α}, Paired F l m → l[i]? = some x → ∃ y, m[i]? = some y ∧ F x y
  | _, _, _, _, .nil, h => by simp at h
  | _, _, 0, x, .cons h t, e => by
    simp at e
    subst e
    exact ⟨_, rfl, h⟩
  | _, _, i + 1, x, .cons h t, e => by
    simp at e
    obtain ⟨y, h1, h2⟩ := paired_get2 t e
    exact ⟨y, by simpa using h1, h2⟩
theorem FilQ.few {bs : List Nat} {fl : Fil} (h : FilQ bs fl) (hb : bs.length ≤ 1000) : fl.length ≤ 1000 := by
  have hk : okKeys fl bs = true := by
    have := h.ok
    unfold okFils at this
    exact (Bool.and_eq_true _ _ ▸ this).1
  have sub : (fl.map (·.1)) ⊆ bs.map fun b => [b] := fun x hx => of_decide_eq_true (List.all_eq_true.mp hk x hx)
  have h1 := List.Nodup.length_le_of_subset h.nd sub
  rw [List.length_map, List.length_map] at h1
  omega
section
variable {P : Program} {w : World} {K : PySem.W.Frag} {mg : Str → Option Value} {base : Heap}
abbrev nAreMoves : List Str := ["thing", "letters", "boxes", "places", "letters_apart", "key", "found"]
theorem scAreMoves : FnScope nAreMoves ["thing", "letters", "boxes", "places"] (defScope sAreMoves) := ⟨rfl, rfl, rfl, by decide +kernel, rfl, by decide +kernel, by decide +kernel⟩
def spAreMoves : Sp := fun vs H Q _ => ∃ (d pl : Addr) (kvs : List (List Key × V)) (ms : List Mv) (letters bs : List Nat) (places : List (List Nat)), vs = [.ref d, .str (S letters), .str (S bs), .ref pl] ∧ H d = some (.dT kvs) ∧ Paired (MvIn H) kvs ms ∧ SeqH H pl (txs places) ∧
  letters.length ≤ 1000 ∧ bs.length ≤ 1000 ∧ (∀ b ∈ bs, isLow b = false) ∧ (∀ m ∈ ms, m.pl ∈ places ∧ m.lt ∈ letters ∧ m.to ∈ places ∧ FilQ bs m.fl) ∧ ∀ H', Same H H' → Q (.bl true) H'
theorem ok_areMoves {f : Addr} {fd : FuncData} {k : Nat} (F : Fun K "_are_moves" "_are_moves" sAreMoves f fd) (DP : Df P w K mg base (k + 1) "is_pair" ["thing"] (spIsPair K)) (DO : Df P w K mg base (k + 1) "is_one_of" ["thing", "strings"] (spIsOneOf K)) (DF : Df P w K mg base (k + 3) "_are_fillings" ["thing", "boxes"] spAreFillings) (mi : mg "isinstance" = none) (md : mg "dict" = none) (mL : mg "list" = none) :
    FnOk P w K mg base CX0 (k + 4) f fd ["thing", "letters", "boxes", "places"] spAreMoves := by
  refine F.ok scAreMoves (fun vs H Q E h => ?_) (fun cdv A outer s H vs Q E hr h => ?_)
  · obtain ⟨d, pl, kvs, ms, letters, bs, places, rfl, _⟩ := h
    rfl
  · obtain ⟨d, pl, kvs, ms, letters, bs, places, rfl, hd, hms, hpl, hl, hb, hlow, hok, q⟩ := h
    refine ⟨_, pss_cons (ps_if (pt_not (pt_val (pe_isDict (pv 0) mi (by rfl) md (by rfl)))) (pss_one (ps_ret pe_bl)) pss_nil)
      (pss_cons (ps_set (i := 4) scAreMoves.nd rfl (.inl rfl) (pe_callTy (call_listStr rfl) (by rfl) mL (by decide +kernel) (pa_cons (pv 1) pa_nil)))
      (pss_cons (ps_lock (ps_for PassesOwn.never rfl (pi_itemsT (pv 0)) (pg_tup rfl (pgs_cons (pg_name (i := 5) scAreMoves.nd rfl (.inl rfl)) (pgs_cons (pg_name (i := 6) scAreMoves.nd rfl (.inl rfl)) pgs_nil)))
        (pss_cons (ps_if (PW.pt (pw_or (pt_not (pt_val (pe_df DP hr (pa_cons (pv 5) pa_nil)))) (pw_or1 (pt_not (pt_val (pe_df DP hr (pa_cons (pv 6) pa_nil))))))) (pss_one (ps_ret pe_bl)) pss_nil)
        (pss_cons (ps_if (PW.pt (pw_or (pt_not (pt_val (pe_df DO hr (pa_cons (pe_ix ix_tup (pv 5) pe_int (fun _ _ => rfl)) (pa_cons (pv 3) pa_nil))))) (pw_or1 (pt_not (pt_val (pe_df DO hr (pa_cons (pe_ix ix_tup (pv 5) pe_int (fun _ _ => rfl)) (pa_cons (pv 4) pa_nil)))))))) (pss_one (ps_ret pe_bl)) pss_nil)
        (pss_one (ps_if (PW.pt (pw_or (pt_not (pt_val (pe_df DO hr (pa_cons (pe_ix ix_seq (pv 6) pe_int (fun _ _ => rfl)) (pa_cons (pv 3) pa_nil))))) (pw_or1 (pt_not (pt_val (pe_df DF hr (pa_cons (pe_ix ix_seq (pv 6) pe_int (fun _ _ => rfl)) (pa_cons (pv 2) pa_nil)))))))) (pss_one (ps_ret pe_bl)) pss_nil))))))
      (pss_one (ps_ret pe_bl)))), ?_⟩
    refine ⟨_, rfl, true, isi_dT hd, true, rfl, iteF ⟨_, rfl, letters, rfl, hl, fun L H1 s1 n1 e1 => ?_⟩⟩
    have hd1 := s1 _ _ hd
    have nLd : L ≠ d := fun z => by rw [z, hd1] at e1; cases e1
    refine ⟨d, _, hd1, trivial, fun od => ⟨_, rfl, d, od, kvs, rfl, upd_same, ?_⟩⟩
    have hms1 : Paired (MvIn (upd H1 d (.frz od (.dT kvs)))) kvs ms := Paired.mono (fun kv m h => (h.same s1).lock hd1) hms
    have hpl1 : SeqH (upd H1 d (.frz od (.dT kvs))) pl (txs places) := by
      rcases hpl with h | h
      · exact .inl (by rw [upd_ne (ne_of (s1 _ _ h) hd1 (by intro z; cases z))]; exact s1 _ _ h)
      · exact .inr (by rw [upd_ne (ne_of (s1 _ _ h) hd1 (by intro z; cases z))]; exact s1 _ _ h)
    have hL1 : (upd H1 d (.frz od (.dT kvs))) L = some (.lst (sgs letters)) := by rw [upd_ne nLd]; exact e1
    refine for_it walk_itemsT (fun i σ H' => ∃ v5 v6, σ = [some (.ref d), some (.str (S letters)), some (.str (S bs)), some (.ref pl), some (.ref L), v5, v6] ∧ Same (upd H1 d (.frz od (.dT kvs))) H') ⟨none, none, rfl, fun _ _ e => e⟩ (fun i σ H' _ ⟨_, _, _, s⟩ => s _ _ upd_same) ?_ ?_
    · rintro i x σ H2 H3 hi ⟨v5, v6, rfl, s2⟩ ⟨T, kk, v, kq, hkv, hq, rfl, nT, rfl⟩
      obtain ⟨m, hm, hin⟩ := paired_get2 hms1 hkv
      obtain ⟨ek, t, fd', ev, ht, hfd⟩ := hin
      have ek' : kk = m.key := ek
      have ev' : v = .ref t := ev
      subst ek' ev'
      have hmo := hok m (List.mem_of_getElem? hm)
      have s3 : Same (upd H1 d (.frz od (.dT kvs))) (upd H2 T (.tup [.ref kq, .ref t])) := s2.trans (same_upd nT)
      have hq3 : (upd H2 T (.tup [.ref kq, .ref t])) kq = some (.tup [.str (S m.pl), .str (S [m.lt])]) := same_upd nT _ _ hq
      refine ⟨T, [.ref kq, .ref t], rfl, SqT.of upd_same, rfl, _, _, rfl, _, _, rfl, rfl, ?_⟩
      generalize upd H2 T (.tup [.ref kq, .ref t]) = H3 at s3 hq3
      refine ⟨_, rfl, .inl ⟨kq, _, rfl, .inr hq3, fun H4 s4 => ⟨true, rfl, iteF ⟨_, rfl, .inl ⟨t, _, rfl, (ht.same s3).same s4, fun H5 s5 => ⟨true, rfl, iteF ?_⟩⟩⟩⟩⟩⟩
      have s35 := s4.trans s5
      have hpl5 := (hpl1.same s3).same s35
      have hq5 := s35 _ _ hq3
      have hL5 := s35 _ _ (s3 _ _ hL1)
      have ht5 := (ht.same s3).same s35
      have hfd5 := s35 _ _ (s3 _ _ hfd)
      refine ⟨_, rfl, kq, _, 0, _, rfl, rfl, SqT.of hq5, atI_nat rfl, _, rfl, .inl ⟨m.pl, pl, places, rfl, hpl5, _, rfl, ?_⟩⟩
      rw [decide_eq_true hmo.1]
      refine iteF ⟨_, rfl, kq, _, 1, _, rfl, rfl, SqT.of hq5, atI_nat (j := 1) rfl, _, rfl, .inl ⟨[m.lt], L, letters.map fun b => [b], rfl, .inl (by rw [← sgs_txs]; exact hL5), _, rfl, ?_⟩⟩
      rw [decide_eq_true (show [m.lt] ∈ letters.map fun b => [b] from List.mem_map.mpr ⟨m.lt, hmo.2.1, rfl⟩)]
      refine iteF ?_
      have ix : ∀ (j : Nat) (z : V) (R : VK), ([V.str (S m.to), .ref fd'])[j]? = some z → R z H5 → rIx K (.ref t) (.int (j : Int)) H5 R := by
        intro j z R hz hR
        rcases ht5 with h | h
        · exact .inl ⟨t, _, _, z, rfl, rfl, SqL.of h, atI_nat hz, hR⟩
        · exact .inr (.inl ⟨t, _, _, z, rfl, rfl, SqT.of h, atI_nat hz, hR⟩)
      refine ⟨_, rfl, ix 0 _ _ rfl ⟨_, rfl, .inl ⟨m.to, pl, places, rfl, hpl5, _, rfl, ?_⟩⟩⟩
      rw [decide_eq_true hmo.2.2.1]
      refine iteF ⟨_, rfl, ix 1 _ _ rfl ⟨_, rfl, fd', m.fl, bs, rfl, hfd5, hmo.2.2.2.few hb, hmo.2.2.2.len, hb, hlow, fun H6 s6 => ⟨_, rfl, ?_⟩⟩⟩
      rw [hmo.2.2.2.ok]
      exact iteF ⟨_, _, rfl, s3.trans (s35.trans s6)⟩
    · rintro σ H2 ⟨v5, v6, rfl, s2⟩
      exact ⟨s2 _ _ upd_same, q _ (s1.trans (same_unlock hd1 s2))⟩
/-! ### _are_ends -/
abbrev nAreEnds : List Str := ["thing", "boxes", "places", "place", "filling"]
theorem scAreEnds : FnScope nAreEnds ["thing", "boxes", "places"] (defScope sAreEnds) := ⟨rfl, rfl, rfl, by decide +kernel, rfl, by decide +kernel, by decide +kernel⟩
def spAreEnds : Sp := fun vs H Q _ => ∃ (d pl : Addr) (es : Fil) (bs : List Nat) (places : List (List Nat)), vs = [.ref d, .str (S bs), .ref pl] ∧ H d = some (.dK (fkv es)) ∧ SeqH H pl (txs places) ∧ (∀ b ∈ bs, isLow b = false) ∧ (∀ q ∈ es, q.1 ∈ places ∧ isFill q.2 bs = true ∧ q.2.length ≤ 1000) ∧ ∀ H', Same H H' → Q (.bl true) H'
theorem ok_areEnds {f : Addr} {fd : FuncData} {k : Nat} (F : Fun K "_are_ends" "_are_ends" sAreEnds f fd) (DO : Df P w K mg base (k + 1) "is_one_of" ["thing", "strings"] (spIsOneOf K)) (DF : Df P w K mg base (k + 2) "is_filling" ["thing", "boxes"] (spIsFilling K)) (mi : mg "isinstance" = none) (md : mg "dict" = none) :
    FnOk P w K mg base CX0 (k + 3) f fd ["thing", "boxes", "places"] spAreEnds := by
  refine F.ok scAreEnds (fun vs H Q E h => ?_) (fun cdv A outer s H vs Q E hr h => ?_)
  · obtain ⟨d, pl, es, bs, places, rfl, _⟩ := h
    rfl
  · obtain ⟨d, pl, es, bs, places, rfl, hd, hpl, hlow, hok, q⟩ := h
    refine ⟨_, pss_cons (ps_if (pt_not (pt_val (pe_isDict (pv 0) mi (by rfl) md (by rfl)))) (pss_one (ps_ret pe_bl)) pss_nil)
      (pss_cons (ps_lock (ps_for PassesOwn.never rfl (pi_items (pv 0)) (pg_tup rfl (pgs_cons (pg_name (i := 3) scAreEnds.nd rfl (.inl rfl)) (pgs_cons (pg_name (i := 4) scAreEnds.nd rfl (.inl rfl)) pgs_nil)))
        (pss_one (ps_if (PW.pt (pw_or (pt_not (pt_val (pe_df DO hr (pa_cons (pv 3) (pa_cons (pv 2) pa_nil))))) (pw_or1 (pt_not (pt_val (pe_df DF hr (pa_cons (pv 4) (pa_cons (pv 1) pa_nil)))))))) (pss_one (ps_ret pe_bl)) pss_nil))))
      (pss_one (ps_ret pe_bl))), ?_⟩
    refine ⟨_, rfl, true, isi_dK hd, true, rfl, iteF ?_⟩
    refine ⟨d, _, hd, trivial, fun od => ⟨_, rfl, d, od, fkv es, rfl, upd_same, ?_⟩⟩
    have hpl1 : SeqH (upd H d (.frz od (.dK (fkv es)))) pl (txs places) := by
      rcases hpl with h | h
      · exact .inl (by rw [upd_ne (ne_of h hd (by intro z; cases z))]; exact h)
      · exact .inr (by rw [upd_ne (ne_of h hd (by intro z; cases z))]; exact h)
    refine for_it walk_items (fun i σ H' => ∃ v3 v4, σ = [some (.ref d), some (.str (S bs)), some (.ref pl), v3, v4] ∧ Same (upd H d (.frz od (.dK (fkv es)))) H') ⟨none, none, rfl, fun _ _ e => e⟩ (fun i σ H' _ ⟨_, _, _, s⟩ => s _ _ upd_same) ?_ ?_
    · rintro i x σ H2 H3 hi ⟨v3, v4, rfl, s2⟩ ⟨T, x1, x2, rfl, nT, rfl, hx1, hx2⟩
      have hx1 : ((fkv es)[i]?.map fun kv => kV kv.1) = some x1 := hx1
      have hx2 : (fkv es)[i]?.map Prod.snd = some x2 := hx2
      obtain ⟨c, hc⟩ : ∃ c, es[i]? = some c := by
        cases z : es[i]? with
        | some c => exact ⟨c, rfl⟩
        | none =>
          unfold fkv at hx1
          rw [List.getElem?_map, z] at hx1
          cases hx1
      have e1 : x1 = .str (S c.1) := by
        unfold fkv at hx1
        rw [List.getElem?_map, hc] at hx1
        exact (Option.some.inj hx1).symm
      have e2 : x2 = .str (S c.2) := by
        unfold fkv at hx2
        rw [List.getElem?_map, hc] at hx2
        exact (Option.some.inj hx2).symm
      subst e1 e2
      have hco := hok c (List.mem_of_getElem? hc)
      have s3 : Same (upd H d (.frz od (.dK (fkv es)))) (upd H2 T (.tup [.str (S c.1), .str (S c.2)])) := s2.trans (same_upd nT)
      refine ⟨T, [.str (S c.1), .str (S c.2)], rfl, SqT.of upd_same, rfl, _, _, rfl, _, _, rfl, rfl, ?_⟩
      refine ⟨_, rfl, _, rfl, .inl ⟨c.1, pl, places, rfl, hpl1.same s3, _, rfl, ?_⟩⟩
      rw [decide_eq_true hco.1]
      refine iteF ⟨_, rfl, _, rfl, .inl ⟨c.2, bs, rfl, hco.2.2, hlow, fun H4 s4 => ⟨_, rfl, ?_⟩⟩⟩
      rw [hco.2.1]
      exact iteF ⟨_, _, rfl, s3.trans s4⟩
    · rintro σ H2 ⟨v3, v4, rfl, s2⟩
      exact ⟨s2 _ _ upd_same, q _ (same_unlock hd s2)⟩
end
end Tb

set_option Elab.async false
set_option linter.all false
set_option maxRecDepth 100000
set_option maxHeartbeats 4000000
/-! y = {k: v for ..}, y a local of a def -/
namespace Tb
open PySem PySem.Spec PyProof.Rows L2 TL
theorem sw_trueD {kx vx : Expr} {gs : List Comprehension} {scope : Scope} {pos py : Pos} {y : Str} {l : Nat} {env : Env} (hk : env.scope.kind = .function) (hy : env.scope.names.lookup y = some .local) (hl : (py.line == pos.line) = true)
    (ha : (scope.names.any fun (n, k) => n == y && (k == .local || k == .cell)) = false) : swapsWith (.DictComp kx vx gs scope pos) (some (.Name y py)) l env = pure true := by
  have kdy : env.kindOf y = some .local := hy
  have kdb : env.blockKind = .function := by
    unfold Env.blockKind
    rw [hk]
    rfl
  unfold swapsWith
  simp only [kdb, kdy, ha, Expr.pos, hl]
  rfl
section
variable {X : Cx}
theorem ps_setDc {i : Nat} {y : Str} {py : Pos} {kx vx tg iter : Expr} {ifs : List Expr} {scope : Scope} {own : List (Str × Nat)} {pos spos : Pos} {wi : TI} {g : TG} {tt : TT} {tk tv : TE} (hc : X.calm = true) (hN : X.N.Nodup) (hy : X.N[i]? = some y) (hyl : X.env.scope.names.lookup y = some .local)
    (hsw : swapsWith (.DictComp kx vx [⟨tg, iter, ifs, 0⟩] scope pos) (some (.Name y py)) spos.line X.env = pure true) (hi : PI X tg iter wi) (ok : BlkOk X.N X.env.scope scope own)
    (hg : ∀ (s : Shared) (H : Hp) (C : Addr) (cl : List (Str × Addr)) (fp : List Addr), PG (X.blk s H scope (compEnvC scope cl C X.env) fp) tg g) (ht : ∀ (s : Shared) (H : Hp) (C : Addr) (cl : List (Str × Addr)) (fp : List Addr), PTs (X.blk s H scope (compEnvC scope cl C X.env) fp) ifs tt)
    (hk : ∀ (s : Shared) (H : Hp) (C : Addr) (cl : List (Str × Addr)) (fp : List Addr), PE (X.blk s H scope (compEnvC scope cl C X.env) fp) kx tk)
    (he : ∀ (s : Shared) (H : Hp) (C : Addr) (cl : List (Str × Addr)) (fp : List Addr), PE (X.blk s H scope (compEnvC scope cl C X.env) fp) vx tv) (hs : ∀ x, foldedSetIterable iter X.env x = pure x := by intro _; rfl) :
    PS X (.Assign [.Name y py] (.DictComp kx vx [⟨tg, iter, ifs, 0⟩] scope pos) spos) (tAsg (tDc wi g tt tk tv (own.map (·.2))) (gName i)) := by
  refine ⟨fun pins s σ H D I h => ?_⟩
  rw [exec_Assign_Name_used _ _ _ _ hsw]
  refine wpAny_bind (wpAny_standAt (wpAny_bind ?_))
  have h : tDc wi g tt tk tv (own.map (·.2)) σ H (fun x H1 => gName i x σ H1 D.nx) := h
  show wpAny _ X.A (do let _ ← comprehension (.DictComp kx vx [⟨tg, iter, ifs, 0⟩] scope pos) scope X.env (firstIterPos [⟨tg, iter, ifs, 0⟩] pos) newDict false (eval iter X.env) (some (assign (.Name y py) X.env))) _ _ s
  refine wpAny_bind (thn (dc_core (Qf := fun _ s' => SP X pins D .next s') hc hN I hi ok hg ht hk he hs h fun L C s' m H' J q hn fo => ?_) fun _ s' hq => wpAny_pure (wpAny_pure hq))
  show wpAny _ _ (assign (.Name y py) X.env (.ref L)) _ _ _
  refine wpAny_assign_Name (store_ok2 (v := V.ref L) J hN hy (.inl hyl) rfl (fun s2 J2 ⟨a, sb, ha⟩ => ?_) (.inr hyl))
  obtain ⟨g0, g1, g2, g3, g4, g5⟩ := fo
  have neCa : C ≠ a := by
    rcases ha with z | z
    · rw [z]
      exact g1
    · exact fun e => g4 y a z e.symm
  refine ⟨m, hn.sameBut sb neCa, fun h3 sb3 => ⟨_, H', J2.turned (t' := s2.toks) (fun b o hb e => (sb3.2 b hb).trans e) g0 g1 g3 g4 g5, q⟩⟩
end
end Tb

set_option Elab.async false
set_option linter.all false
set_option maxRecDepth 100000
set_option maxHeartbeats 4000000
namespace Tb
open PySem PySem.Spec PyProof.Rows L2 TL
/-! ### dict comprehensions over anything that is walked -/
section
variable {tk tv : TE} {tt : TT} {g : TG} {vs : List Nat} {σ : L2.St} {H1 : Hp} {D : Addr} {Qd : Hp → Prop} {sl : Nat} {J : It} {n : Nat} {G : Hp → Prop} {Y : Nat → Hp → V → Hp → Prop}
theorem dc_it (w : Walk J n G Y) (Pv : Nat → Hp → Prop) (h0 : Pv 0 (upd H1 D (.dK []))) (hG : ∀ i H, i ≤ n → Pv i H → G H)
    (hs : ∀ i x H H', i < n → Pv i H → Y i H x H' → g x (wipe σ vs) H' fun σ2 H2 => wipe σ2 vs = wipe σ vs ∧ tt σ2 H2 fun b H3 =>
      if b = true then tk σ2 H3 fun y H4 => tv σ2 H4 fun z H5 => ∃ kvs k, y = kV k ∧ H5 D = some (.dK kvs) ∧ kvs.length < sizeLine ∧ Pv (i + 1) (upd H5 D (.dK (putK kvs k z))) else Pv (i + 1) H3) (hd : ∀ H, Pv n H → Qd H) :
    ∃ W : Nat → Nat → Hp → Prop, (∃ m, W 0 m (upd H1 D (.dK []))) ∧ ∀ i m H, W i m H →
      (J.stop i H ∧ Qd H) ∨ (J.go i H ∧ ∃ Nx : Hp → Prop, (∀ H', Nx H' → ∃ m', m' < m ∧ W (i + 1) m' H') ∧ ∀ x H', J.yld i H x H' → g x (wipe σ vs) H' fun σ2 H2 => wipe σ2 vs = wipe σ vs ∧ tt σ2 H2 fun b H3 =>
        if b = true then tk σ2 H3 fun y H4 => tv σ2 H4 fun z H5 => ∃ kvs k, y = kV k ∧ H5 D = some (.dK kvs) ∧ kvs.length < sizeLine ∧ Nx (upd H5 D (.dK (putK kvs k z))) else Nx H3) := by
  refine ⟨fun i m H => m = n - i ∧ i ≤ n ∧ Pv i H, ⟨n, rfl, Nat.zero_le _, h0⟩, fun i m H ⟨em, hi, p⟩ => ?_⟩
  subst em
  rcases Nat.lt_or_ge i n with hlt | hge
  · refine .inr ⟨w.goes i H hlt (hG i H hi p), Pv (i + 1), fun H' p' => ⟨n - (i + 1), by omega, rfl, hlt, p'⟩, fun x H' y => ?_⟩
    exact hs i x H H' hlt p (w.yields i H x H' hlt (hG i H hi p) y)
  · obtain rfl : i = n := Nat.le_antisymm hi hge
    exact .inl ⟨w.stops H (hG i H hi p), hd H p⟩
theorem dc_mapW {xs : List V} (keep : V → Bool) (kf : V → Key) (vf : V → V) (w : Walk J n G Y) (hn : n = xs.length) (hY : ∀ i H x H', Y i H x H' → H' = H ∧ xs[i]? = some x) (hG : ∀ H', Same H1 H' → G H') (nD : H1 D = none) (hl : xs.length < sizeLine) (nd : ((xs.filter keep).map kf).Nodup)
    (ht : ∀ x ∈ xs, ∀ H' (R : Bool → Hp → Prop), Same H1 H' → R (keep x) H' → tt ((wipe σ vs).set sl (some x)) H' R)
    (hk : ∀ x ∈ xs, keep x = true → ∀ H' (R : VK), Same H1 H' → R (kV (kf x)) H' → tk ((wipe σ vs).set sl (some x)) H' R)
    (he : ∀ x ∈ xs, keep x = true → ∀ H' (R : VK), Same H1 H' → (∀ H'', Same H' H'' → R (vf x) H'') → tv ((wipe σ vs).set sl (some x)) H' R)
    (hd : ∀ H', Same H1 H' → H' D = some (.dK ((xs.filter keep).map fun x => (kf x, vf x))) → Qd H') (hw : ∀ x, wipe ((wipe σ vs).set sl (some x)) vs = wipe σ vs := by intro _; rfl) :
    ∃ W : Nat → Nat → Hp → Prop, (∃ m, W 0 m (upd H1 D (.dK []))) ∧ ∀ i m H, W i m H →
      (J.stop i H ∧ Qd H) ∨ (J.go i H ∧ ∃ Nx : Hp → Prop, (∀ H', Nx H' → ∃ m', m' < m ∧ W (i + 1) m' H') ∧ ∀ x H', J.yld i H x H' → gName sl x (wipe σ vs) H' fun σ2 H2 => wipe σ2 vs = wipe σ vs ∧ tt σ2 H2 fun b H3 =>
        if b = true then tk σ2 H3 fun y H4 => tv σ2 H4 fun z H5 => ∃ kvs k, y = kV k ∧ H5 D = some (.dK kvs) ∧ kvs.length < sizeLine ∧ Nx (upd H5 D (.dK (putK kvs k z))) else Nx H3) := by
  refine dc_it w (fun i H => Same H1 H ∧ H D = some (.dK (((xs.take i).filter keep).map fun x => (kf x, vf x)))) ⟨same_upd nD, upd_same⟩ (fun i H _ h => hG H h.1) ?_ ?_
  · rintro i x H H' hi ⟨s, e⟩ y
    obtain ⟨rfl, hx⟩ := hY _ _ _ _ y
    have hm := List.mem_of_getElem? hx
    have et : xs.take (i + 1) = xs.take i ++ [x] := by
      rw [List.take_add_one, hx]
      rfl
    refine ⟨hw _, tif (k := keep x) (fun R r => ht x hm _ R s r) (fun hkx => hk x hm hkx _ _ s (he x hm hkx _ _ s fun H2 s2 => ?_)) (fun hkx => ⟨s, ?_⟩)⟩
    · have e1 : [x].filter keep = [x] := by simp [List.filter_cons, hkx]
      refine ⟨_, kf x, rfl, s2 _ _ e, ?_, fun b o eb => ?_, ?_⟩
      · rw [List.length_map]
        refine Nat.lt_of_le_of_lt (List.length_filter_le _ _) ?_
        rw [List.length_take]
        exact Nat.lt_of_le_of_lt (Nat.min_le_right _ _) hl
      · rw [upd_ne (ne_of_none eb nD)]
        exact s2 _ _ (s _ _ eb)
      · rw [upd_same, putK_end, et, List.filter_append, e1, List.map_append]
        · rfl
        · intro z
          rw [List.map_map] at z
          have h1 : ((xs.take (i + 1)).filter keep).map kf |>.Nodup := by
            refine List.Sublist.nodup ?_ nd
            exact ((List.take_sublist _ _).filter _).map _
          rw [et, List.filter_append, e1, List.map_append, List.nodup_append] at h1
          exact h1.2.2 _ z _ (List.mem_singleton.mpr rfl) rfl
    · have e1 : [x].filter keep = [] := by simp [List.filter_cons, hkx]
      rw [et, List.filter_append, e1, List.append_nil]
      exact e
  · rintro H ⟨s, e⟩
    subst hn
    rw [List.take_length] at e
    exact hd H s e
end
/-- one target, two kinds of values -/
def gOr (g1 g2 : TG) : TG := fun v σ H Q => g1 v σ H Q ∨ g2 v σ H Q
theorem pg_or {X : Cx} {e : Expr} {g1 g2 : TG} (h1 : PG X e g1) (h2 : PG X e g2) : PG X e (gOr g1 g2) := ⟨fun pins s σ H v u Q I r h => h.elim (fun h => h1.run pins s σ H v u Q I r h) fun h => h2.run pins s σ H v u Q I r h⟩
/-! ### what is kept of the fillings -/
def keptF (fl : Fil) : Fil := ((sortN (fl.map fun q => q.1.headD 0)).map fun b => ([b], (getF fl [b]).getD [])).filter fun q => decide (q.2 ≠ [])
def keptM (m : Mv) : Mv := { m with fl := keptF m.fl }
theorem keptM_key (m : Mv) : (keptM m).key = m.key := rfl
/-- all keys are one sign each -/
def Ones (fl : Fil) : Prop := ∀ q ∈ fl, ∃ b, q.1 = [b]
theorem heads_keys {fl : Fil} (h : Ones fl) : fl.map (·.1) = (fl.map fun q => q.1.headD 0).map fun b => [b] := by
  rw [List.map_map]
  refine List.map_congr_left fun q hq => ?_
  obtain ⟨b, e⟩ := h q hq
  have h1 : q.1 = [q.1.headD 0] := by
    rw [e]
    rfl
  exact h1
theorem FilQ.ones {bs : List Nat} {fl : Fil} (h : FilQ bs fl) : Ones fl := by
  intro q hq
  have hk : okKeys fl bs = true := by
    have := h.ok
    unfold okFils at this
    exact (Bool.and_eq_true _ _ ▸ this).1
  have := of_decide_eq_true (List.all_eq_true.mp hk q.1 (List.mem_map.mpr ⟨q, hq, rfl⟩))
  obtain ⟨b, _, e⟩ := List.mem_map.mp this
  exact ⟨b, e.symm⟩
/-- a move that is kept: a tuple, its dict new -/
def MvNew (H0 H : Hp) (kv : List Key × V) (m : Mv) : Prop := kv.1 = m.key ∧ ∃ t d, kv.2 = .ref t ∧ H t = some (.tup [.str (S m.to), .ref d]) ∧ H d = some (.dK (fkv m.fl)) ∧ H0 d = none
theorem MvNew.at {H0 H : Hp} {kv : List Key × V} {m : Mv} (h : MvNew H0 H kv m) : MvAt H kv m := by
  obtain ⟨e, t, d, a, b, c, _⟩ := h
  exact ⟨e, t, d, a, b, c⟩
theorem MvNew.but {H0 H H' : Hp} {p : Addr} {kvs : List (List Key × V)} (hp : H p = some (.dT kvs)) (s : But p H H') {kv : List Key × V} {m : Mv} (h : MvNew H0 H kv m) : MvNew H0 H' kv m := by
  obtain ⟨e, t, d, a, b, c, n⟩ := h
  exact ⟨e, t, d, a, s _ _ b (ne_of b hp (by intro z; cases z)), s _ _ c (ne_of c hp (by intro z; cases z)), n⟩
theorem get_kept {fl : Fil} (h : Ones fl) {b : Nat} (hb : b ∈ fl.map fun q => q.1.headD 0) : ∃ f, getF fl [b] = some f := by
  have hm : [b] ∈ fl.map (·.1) := by
    rw [heads_keys h]
    exact List.mem_map.mpr ⟨b, hb, rfl⟩
  obtain ⟨f, e, _⟩ := getF_some hm
  exact ⟨f, e⟩
def keepV (fl : Fil) : V → Bool := fun v => match v with | .str x => decide ((getF fl (tl x)).getD [] ≠ []) | _ => false
def keyV : V → Key := fun v => match v with | .str x => Sum.inr x | _ => Sum.inl 0
def fillV (fl : Fil) : V → V := fun v => match v with | .str x => .str (S ((getF fl (tl x)).getD [])) | _ => .non
theorem kept_eq (fl : Fil) : ((sgs (sortN (fl.map fun q => q.1.headD 0))).filter (keepV fl)).map (fun x => (keyV x, fillV fl x)) = fkv (keptF fl) := by
  unfold sgs fkv keptF
  generalize sortN (fl.map fun q => q.1.headD 0) = l
  induction l with
  | nil => rfl
  | cons b l ih =>
    have e1 : keepV fl (.str (S [b])) = decide ((getF fl [b]).getD [] ≠ []) := rfl
    rw [List.map_cons, List.map_cons, List.filter_cons, List.filter_cons, e1]
    by_cases z : (getF fl [b]).getD [] ≠ []
    · rw [decide_eq_true z, if_pos rfl, if_pos rfl, List.map_cons, List.map_cons, ih]
      rfl
    · rw [decide_eq_false z, if_neg Bool.false_ne_true, if_neg Bool.false_ne_true, ih]
theorem kept_nd {fl : Fil} (nd : (fl.map (·.1)).Nodup) (h : Ones fl) : (((sgs (sortN (fl.map fun q => q.1.headD 0))).filter (keepV fl)).map keyV).Nodup := by
  have h1 : (fl.map fun q => q.1.headD 0).Nodup := by
    rw [heads_keys h, List.nodup_iff_pairwise_ne] at nd
    rw [List.nodup_iff_pairwise_ne]
    exact (List.pairwise_map.mp nd).imp fun h e => h (by rw [e])
  have h2 : (sortN (fl.map fun q => q.1.headD 0)).Nodup := (sortN_perm _).nodup_iff.mpr h1
  have h3 : ((sgs (sortN (fl.map fun q => q.1.headD 0))).map keyV).Nodup := by
    unfold sgs
    rw [List.map_map]
    refine List.Pairwise.map _ (fun a b hab z => hab ?_) h2
    have := key_S.mp z
    injection this
  exact List.Sublist.nodup (List.filter_sublist.map _) h3
theorem dec_strne (a b : List Nat) : (!decide (V.str (S a) = V.str (S b))) = decide (a ≠ b) := by
  by_cases h : a = b
  · simp [h]
  · have h2 : V.str (S a) ≠ V.str (S b) := fun z => h (by injection z with z; exact S_inj z)
    simp [h, h2]
section
variable {P : Program} {w : World} {K : PySem.W.Frag} {mg : Str → Option Value} {base : Heap}
abbrev nKept : List Str := ["moves", "kept", "place", "letter", "target", "fillings", "ascending", "box"]
theorem scKept : FnScope nKept ["moves"] (defScope sKept) := ⟨rfl, rfl, rfl, by decide +kernel, rfl, by decide +kernel, by decide +kernel⟩
def spKept : Sp := fun vs H Q _ => ∃ (d : Addr) (kvs : List (List Key × V)) (ms : List Mv), vs = [.ref d] ∧ H d = some (.dT kvs) ∧ Paired (MvIn H) kvs ms ∧ ms.length ≤ 1000 ∧ (ms.map fun m => (m.pl, m.lt)).Nodup ∧ (∀ m ∈ ms, (m.fl.map (·.1)).Nodup ∧ Ones m.fl ∧ m.fl.length < 64) ∧
  ∀ p H' kk, Same H H' → H p = none → H' p = some (.dT kk) → Paired (MvNew H H') kk (ms.map keptM) → Q (.ref p) H'
theorem ok_kept {f : Addr} {fd : FuncData} {k : Nat} (F : Fun K "_kept_moves" "_kept_moves" sKept f fd) (ms' : mg "sorted" = none) : FnOk P w K mg base CX0 (k + 1) f fd ["moves"] spKept := by
  refine F.ok scKept (fun vs H Q E h => ?_) (fun cdv A outer s H vs Q E hr h => ?_)
  · obtain ⟨d, kvs, ms, rfl, _⟩ := h
    rfl
  · obtain ⟨d, kvs, ms, rfl, hd, hms, hl, hnd, hok, q⟩ := h
    have hu := hu_of hr
    refine ⟨_, pss_cons (ps_set (i := 1) scKept.nd rfl (.inl rfl) pe_newT)
      (pss_cons (ps_lock (ps_for PassesOwn.never rfl (pi_itemsT (pv 0)) (pg_tup rfl (pgs_cons (pg_tup rfl (pgs_cons (pg_name (i := 2) scKept.nd rfl (.inl rfl)) (pgs_cons (pg_name (i := 3) scKept.nd rfl (.inl rfl)) pgs_nil))) (pgs_cons (pg_or (pg_unl rfl (pgs_cons (pg_name (i := 4) scKept.nd rfl (.inl rfl)) (pgs_cons (pg_name (i := 5) scKept.nd rfl (.inr rfl)) pgs_nil))) (pg_tup rfl (pgs_cons (pg_name (i := 4) scKept.nd rfl (.inl rfl)) (pgs_cons (pg_name (i := 5) scKept.nd rfl (.inr rfl)) pgs_nil)))) pgs_nil)))
        (pss_cons (ps_setDc (i := 6) (own := [("box", 7)]) (g := gName 7) (tt := tTest (tOp rNe (tDGet (tVar 5) (tVar 7)) (tC (.str "")))) (tk := tVar 7) (tv := tDGet (tVar 5) (tVar 7)) rfl scKept.nd rfl rfl (sw_trueD rfl rfl rfl (by decide +kernel))
            (pi_list (pe_callB (call_sortedD rfl) (by rfl) ms' (by decide +kernel) (pa_cons (pv 5) pa_nil))) (blkOk_by (own := [("box", 7)]) (N := nKept) (sc := defScope sKept) (by decide +kernel)) (fun _ _ _ _ _ => pg_name (i := 7) scKept.nd rfl (.inl rfl)) (fun _ _ _ _ _ => pts_one (pt_cmpR op_ne (pe_dget hu (pv 5) (pv 7) (fun _ _ => rfl)) pe_str (nomark _))) (fun _ _ _ _ _ => pv 7) (fun _ _ _ _ _ => pe_dget hu (pv 5) (pv 7) (fun _ _ => rfl)))
        (pss_one (ps_dput hu (pv 1) (pe_tupS (pa_cons (pv 2) (pa_cons (pv 3) pa_nil))) (pe_tupS (pa_cons (pv 4) (pa_cons (pv 6) pa_nil))) rfl)))))
      (pss_one (ps_ret (pv 1)))), ?_⟩
    intro p H1 s1 n1 e1
    have hd1 := s1 _ _ hd
    have npd : p ≠ d := fun z => by rw [z] at n1; rw [n1] at hd; cases hd
    refine ⟨d, _, hd1, trivial, fun od => ⟨_, rfl, d, od, kvs, rfl, upd_same, ?_⟩⟩
    have hms1 : Paired (MvIn (upd H1 d (.frz od (.dT kvs)))) kvs ms := Paired.mono (fun kv m h => (h.same s1).lock hd1) hms
    have hlen : kvs.length = ms.length := Paired.length hms
    have sl : ∀ {x : Addr}, (upd H1 d (.frz od (.dT kvs))) x = none → H x = none := fun {x} h => by
      by_cases e : x = d
      · rw [e, upd_same] at h
        cases h
      · rw [upd_ne e] at h
        exact s1.free h
    refine for_it walk_itemsT (fun i σ H' => ∃ v2 v3 v4 v5 v6 kk, σ = [some (.ref d), some (.ref p), v2, v3, v4, v5, v6, none] ∧ But p (upd H1 d (.frz od (.dT kvs))) H' ∧ H' p = some (.dT kk) ∧ Paired (MvNew H H') kk ((ms.take i).map keptM))
      ⟨none, none, none, none, none, [], rfl, But.refl _ _, by rw [upd_ne npd]; exact e1, .nil⟩ (fun i σ H' _ ⟨_, _, _, _, _, _, _, b, _⟩ => b _ _ upd_same npd.symm) ?_ ?_
    · rintro i x σ H2 H3 hi ⟨v2, v3, v4, v5, v6, kk, rfl, b2, e2, hk2⟩ ⟨T, kx, v, kq, hkv, hq, rfl, nT, rfl⟩
      obtain ⟨m, hm, hin⟩ := paired_get2 hms1 hkv
      obtain ⟨ek, t, fd', ev, ht, hfd⟩ := hin
      have ek' : kx = m.key := ek
      have ev' : v = .ref t := ev
      subst ek' ev'
      obtain ⟨mnd, mon, m64⟩ := hok m (List.mem_of_getElem? hm)
      have nTp : T ≠ p := fun z => by rw [z, e2] at nT; cases nT
      have b3 : But p (upd H1 d (.frz od (.dT kvs))) (upd H2 T (.tup [.ref kq, .ref t])) := b2.trans (Same.but (same_upd nT) p)
      have hq3 : (upd H2 T (.tup [.ref kq, .ref t])) kq = some (.tup [.str (S m.pl), .str (S [m.lt])]) := same_upd nT _ _ hq
      have e3 : (upd H2 T (.tup [.ref kq, .ref t])) p = some (.dT kk) := by rw [upd_ne nTp.symm]; exact e2
      have hk3 : Paired (MvNew H (upd H2 T (.tup [.ref kq, .ref t]))) kk ((ms.take i).map keptM) := Paired.mono (fun _ _ h => h.but e2 (Same.but (same_upd nT) p)) hk2
      have ntp : t ≠ p := fun z => by
        have h1 := (ht : SeqH _ t _)
        rw [z] at h1
        have h2 : (upd H1 d (.frz od (.dT kvs))) p = some (.dT []) := by rw [upd_ne npd]; exact e1
        rcases h1 with h1 | h1 <;> (rw [h2] at h1; cases h1)
      have nfp : fd' ≠ p := fun z => by
        have h2 : (upd H1 d (.frz od (.dT kvs))) p = some (.dT []) := by rw [upd_ne npd]; exact e1
        rw [z, h2] at hfd
        cases hfd
      have ht3 : SeqH (upd H2 T (.tup [.ref kq, .ref t])) t [.str (S m.to), .ref fd'] := ht.imp (fun h => b3 _ _ h ntp) fun h => b3 _ _ h ntp
      refine ⟨T, [.ref kq, .ref t], rfl, SqT.of upd_same, rfl, _, _, rfl, ⟨kq, _, rfl, SqT.of hq3, rfl, _, _, rfl, _, _, rfl, rfl, _, _, rfl, ?_⟩⟩
      generalize upd H2 T (.tup [.ref kq, .ref t]) = H3 at b3 hq3 e3 hk3 ht3
      have hfd3 : H3 fd' = some (.dK (fkv m.fl)) := b3 _ _ hfd nfp
      have hget : ∀ b ∈ m.fl.map fun q => q.1.headD 0, ∃ f, getF m.fl [b] = some f ∧ valV (fkv m.fl) (Sum.inr (S [b])) = some (.str (S f)) := fun b hb => by
        obtain ⟨f, e⟩ := get_kept mon hb
        exact ⟨f, e, by rw [val_fkv, e]; rfl⟩
      have hks : (fkv m.fl).map (·.1) = ((m.fl.map fun q => q.1.headD 0).map fun b => S [b]).map Sum.inr := by
        have h1 : (fkv m.fl).map (·.1) = (m.fl.map (·.1)).map fun c => (Sum.inr (S c) : Key) := by
          unfold fkv
          rw [List.map_map, List.map_map]
          rfl
        rw [h1, heads_keys mon]
        simp only [List.map_map]
        rfl
      rcases ht3 with h | h
      all_goals
        first
          | refine .inl ⟨t, _, rfl, SqL.of h, rfl, _, _, rfl, _, _, rfl, rfl, rfl, ?_⟩
          | refine .inr ⟨t, _, rfl, SqT.of h, rfl, _, _, rfl, _, _, rfl, rfl, rfl, ?_⟩
        refine ⟨_, rfl, fd', fkv m.fl, (m.fl.map fun q => q.1.headD 0).map fun b => S [b], rfl, .inl hfd3, hks, by rw [List.length_map, List.length_map]; exact m64, fun ys a hp hs na => ?_⟩
        have ey := sorted_signs hp hs
        subst ey
        have ea : ((sortN (m.fl.map fun q => q.1.headD 0)).map fun c => S [c]).map V.str = sgs (sortN (m.fl.map fun q => q.1.headD 0)) := by
          unfold sgs
          rw [List.map_map]
          rfl
        rw [ea]
        have s34 := same_upd (o := .lst (sgs (sortN (m.fl.map fun q => q.1.headD 0)))) na
        have lsg : (sgs (sortN (m.fl.map fun q => q.1.headD 0))).length < 64 := by
          unfold sgs
          rw [List.length_map, (sortN_perm _).length_eq, List.length_map]
          exact m64
        have hea : (upd H3 a (.lst (sgs (sortN (m.fl.map fun q => q.1.headD 0))))) a = some (.lst (sgs (sortN (m.fl.map fun q => q.1.headD 0)))) := upd_same
        generalize upd H3 a (.lst (sgs (sortN (m.fl.map fun q => q.1.headD 0)))) = H4 at s34 hea
        refine ⟨a, rfl, ⟨_, SqL.of hea⟩, fun D nD => ?_⟩
        refine dc_mapW (xs := sgs (sortN (m.fl.map fun q => q.1.headD 0))) (keepV m.fl) keyV (fillV m.fl) walk_list rfl (fun i H x H' y => ⟨y.1, y.2⟩) (fun H' s' => SqL.of (s' _ _ hea)) nD (Nat.lt_of_lt_of_le lsg (by decide)) (kept_nd mnd mon) ?_ ?_ ?_ ?_
        · intro x hx H5 R s5 r
          obtain ⟨b, hb, rfl⟩ := List.mem_map.mp hx
          obtain ⟨f, g1, g2⟩ := hget b ((sortN_perm _).mem_iff.mp hb)
          refine ⟨_, rfl, _, rfl, fd', _, rfl, g2 ▸ DGet.k (k := Sum.inr (S [b])) (s5 _ _ (s34 _ _ hfd3)), rfl, _, rfl, ?_⟩
          rw [str_empty, dec_strne]
          have e5 : keepV m.fl (.str (S [b])) = decide (f ≠ []) := by
            show decide ((getF m.fl [b]).getD [] ≠ []) = _
            rw [g1]
            rfl
          rw [e5] at r
          exact r
        · intro x hx _ H5 R s5 r
          obtain ⟨b, hb, rfl⟩ := List.mem_map.mp hx
          exact ⟨_, rfl, r⟩
        · intro x hx _ H5 R s5 r
          obtain ⟨b, hb, rfl⟩ := List.mem_map.mp hx
          obtain ⟨f, g1, g2⟩ := hget b ((sortN_perm _).mem_iff.mp hb)
          refine ⟨_, rfl, _, rfl, fd', _, rfl, g2 ▸ DGet.k (k := Sum.inr (S [b])) (s5 _ _ (s34 _ _ hfd3)), ?_⟩
          have r' := r H5 (fun _ _ e => e)
          have e5 : fillV m.fl (.str (S [b])) = .str (S f) := by
            show V.str (S ((getF m.fl [b]).getD [])) = _
            rw [g1]
            rfl
          rw [e5] at r'
          exact r'
        intro H5 s5 e5
        rw [kept_eq] at e5
        -- kept[(place, letter)] = (target, ascending)
        refine ⟨_, rfl, _, rfl, by show 2 ≤ sizeLine; decide, fun W H6 s6 n6 e6 => ⟨_, rfl, _, rfl, _, rfl, by show 2 ≤ sizeLine; decide, fun kT H7 s7 n7 e7 => ?_⟩⟩
        have s37 : Same H3 H7 := ((s34.trans s5).trans s6).trans s7
        have eD7 : H7 D = some (.dK (fkv (keptF m.fl))) := s7 _ _ (s6 _ _ e5)
        have nHD : H D = none := sl (b3.free e3 (s34.free nD))
        have hkeys : kk.map (·.1) = ((ms.take i).map keptM).map Mv.key := by
          have hK : ∀ {kvs : List (List Key × V)} {l : List Mv}, Paired (MvNew H H3) kvs l → kvs.map (·.1) = l.map Mv.key := by
            intro kvs l hp
            induction hp with
            | nil => rfl
            | cons h _ ih => rw [List.map_cons, List.map_cons, h.1, ih]
          exact hK hk3
        have et : ms.take (i + 1) = ms.take i ++ [m] := by
          rw [List.take_add_one, hm]
          rfl
        have hkn : m.key ∉ kk.map (·.1) := fun z => by
          rw [hkeys, List.map_map] at z
          obtain ⟨m', hm', e'⟩ := List.mem_map.mp z
          obtain ⟨k1, k2⟩ := key_inj (m := m') (show m'.key = _ from e')
          have h1 : ((ms.take (i + 1)).map fun m => (m.pl, m.lt)).Nodup := ((List.take_sublist _ _).map _).nodup hnd
          rw [et, List.map_append, List.nodup_append] at h1
          exact h1.2.2 _ (List.mem_map.mpr ⟨m', hm', rfl⟩) _ (List.mem_singleton.mpr rfl) (by rw [k1, k2])
        have lkk : kk.length < sizeLine := by
          have h3 := Paired.length hk3
          rw [h3, List.length_map, List.length_take]
          exact small1000 (Nat.le_trans (Nat.min_le_right _ _) hl)
        have e37 : H7 p = some (.dT kk) := s37 _ _ e3
        refine ⟨p, _, rfl, DPut.t (k := m.key) e37 e7 lkk, ?_⟩
        refine ⟨_, _, _, _, _, _, rfl, (b3.trans (Same.but s37 p)).trans (But.upd p H7 _), upd_same, ?_⟩
        rw [putK_end _ hkn, et, List.map_append]
        have nWp : W ≠ p := fun z => by rw [z, s5 _ _ (s34 _ _ e3)] at n6; cases n6
        have nDp : D ≠ p := fun z => by rw [z, e37] at eD7; cases eD7
        refine (Paired.mono (fun _ _ h => h.but e3 ((Same.but s37 p).trans (But.upd p H7 _))) hk3).snoc ⟨rfl, W, D, rfl, ?_, ?_, nHD⟩
        · rw [upd_ne nWp]
          exact s7 _ _ e6
        · rw [upd_ne nDp]
          exact eD7
    · rintro σ H2 ⟨v2, v3, v4, v5, v6, kk, rfl, b2, e2, hk2⟩
      rw [hlen, List.take_length] at hk2
      refine ⟨b2 _ _ upd_same npd.symm, _, rfl, ?_⟩
      have s2 : Same H (upd H2 d (.dT kvs)) := by
        intro b o eb
        by_cases hb : b = d
        · rw [hb, hd] at eb
          cases eb
          rw [hb, upd_same]
        · rw [upd_ne hb]
          refine b2 b o ?_ (fun z => by rw [z, n1] at eb; cases eb)
          rw [upd_ne hb]
          exact s1 _ _ eb
      refine q p _ kk s2 n1 (by rw [upd_ne npd]; exact e2) (Paired.mono (fun _ _ h => ?_) hk2)
      obtain ⟨e, t, d2, a, b, c, n⟩ := h
      have f2 : H2 d = some (.frz od (.dT kvs)) := b2 _ _ upd_same npd.symm
      exact ⟨e, t, d2, a, by rw [upd_ne (ne_of b f2 (by intro z; cases z))]; exact b, by rw [upd_ne (ne_of c f2 (by intro z; cases z))]; exact c, n⟩
end
end Tb

set_option Elab.async false
set_option linter.all false
set_option maxRecDepth 100000
set_option maxHeartbeats 4000000
namespace Tb
open PySem PySem.Spec PyProof.Rows L2 TL
/-- a statement that is never reached -/
def tDead : TS := fun _ _ _ => False
theorem isCap_low' {c : Nat} (h : 65 ≤ c ∧ c ≤ 90) : isLow c = false := decide_eq_false (by omega)
theorem ps_dead {X : Cx} {st : Stmt} : PS X st tDead := ⟨fun _ _ _ _ _ _ h => h.elim⟩
theorem putF_end {f : Str} {v : V} : ∀ {fs : List (Str × V)}, f ∉ fs.map (·.1) → putF f v fs = fs ++ [(f, v)]
  | [], _ => rfl
  | (g, x) :: r, h => by
    have hg : g ≠ f := fun z => h (by rw [← z]; exact List.mem_cons_self)
    show (if g = f then (g, v) :: r else (g, x) :: putF f v r) = _
    rw [if_neg hg, putF_end (fun z => h (List.mem_cons_of_mem _ z))]
    rfl
/-- tuple(xs), a list or a tuple -/
def rTupS : List V → Hp → VK → Prop := fun xs H Q => ∃ p ys, xs = [V.ref p] ∧ SeqH H p ys ∧ ∀ l H', Same H H' → H' l = some (.tup ys) → Q (.ref l) H'
theorem call_tupS {X : Cx} : CallR X (.type "tuple") rTupS := CallR.weak call_tuple_of fun xs H Q ⟨p, ys, e, h, q⟩ => ⟨p, ys, e, h.elim (fun h => .inl ⟨SqL.of h, fun l hl => q l _ (same_upd hl) upd_same⟩) fun h => .inr ⟨SqT.of h, q p H (fun _ _ e => e) h⟩⟩
theorem dget_kz {H : Hp} {a : Addr} {o : Obj} {kvs : List (Key × V)} {k : Key} (e : H a = some (.frz o (.dK kvs))) : DGet H a (kV k) (valV kvs k) := .inl ⟨kvs, k, .inr ⟨o, e⟩, rfl, rfl⟩
/-! ### a program's fields -/
def flds (L B : List Nat) (pl mv en : Addr) : List (Str × V) := [("_letters", .str (S L)), ("_boxes", .str (S B)), ("_places", .ref pl), ("_moves", .ref mv), ("_ends", .ref en)]
structure PrAt (C : Addr) (H : Hp) (p : Addr) (L B : List Nat) (places : List (List Nat)) (ms : List Mv) (es : Fil) : Prop where
  ob : ∃ dx pl mv en kk, H p = some (.ins C dx (flds L B pl mv en)) ∧ H pl = some (.tup (txs places)) ∧ H mv = some (.dT kk) ∧ Paired (MvAt H) kk ms ∧ H en = some (.dK (fkv es))
theorem PrAt.same {C : Addr} {H H' : Hp} (s : Same H H') {p : Addr} {L B : List Nat} {places : List (List Nat)} {ms : List Mv} {es : Fil} (h : PrAt C H p L B places ms es) : PrAt C H' p L B places ms es := by
  obtain ⟨dx, pl, mv, en, kk, h1, h2, h3, h4, h5⟩ := h.ob
  exact ⟨dx, pl, mv, en, kk, s _ _ h1, s _ _ h2, s _ _ h3, Paired.mono (fun _ _ z => z.same s) h4, s _ _ h5⟩
/-- .. whose dicts were not there before -/
structure PrNew (C : Addr) (H0 H : Hp) (p : Addr) (L B : List Nat) (places : List (List Nat)) (ms : List Mv) (es : Fil) : Prop where
  ob : ∃ dx pl mv en kk, H p = some (.ins C dx (flds L B pl mv en)) ∧ H pl = some (.tup (txs places)) ∧ H mv = some (.dT kk) ∧ H0 mv = none ∧ Paired (MvNew H0 H) kk ms ∧ H en = some (.dK (fkv es)) ∧ H0 en = none
theorem PrNew.at {C : Addr} {H0 H : Hp} {p : Addr} {L B : List Nat} {places : List (List Nat)} {ms : List Mv} {es : Fil} (h : PrNew C H0 H p L B places ms es) : PrAt C H p L B places ms es := by
  obtain ⟨dx, pl, mv, en, kk, h1, h2, h3, _, h4, h5, _⟩ := h.ob
  exact ⟨dx, pl, mv, en, kk, h1, h2, h3, Paired.mono (fun _ _ z => z.at) h4, h5⟩
/-- the class as the top has made it -/
structure PrTxt (K : PySem.W.Frag) (mg : Str → Option Value) (C : Addr) : Prop where
  cl : Cls K C
  nL : NoAttr K C "_letters"
  nB : NoAttr K C "_boxes"
  nP : NoAttr K C "_places"
  nM : NoAttr K C "_moves"
  nE : NoAttr K C "_ends"
  mgC : mg "Program" = some (.ref C)
/-- what is handed in for a program -/
structure InAt (H : Hp) (tp tm te : Addr) (pt : Pt) : Prop where
  pl : SeqH H tp (txs pt.places)
  mv : ∃ kvs, H tm = some (.dT kvs) ∧ Paired (MvIn H) kvs pt.moves
  en : H te = some (.dK (fkv pt.ends))
theorem InAt.same {H H' : Hp} (s : Same H H') {tp tm te : Addr} {pt : Pt} (h : InAt H tp tm te pt) : InAt H' tp tm te pt := by
  obtain ⟨kvs, a, b⟩ := h.mv
  exact ⟨h.pl.same s, ⟨kvs, s _ _ a, Paired.mono (fun _ _ z => z.same s) b⟩, s _ _ h.en⟩
theorem InAt.but {H H' : Hp} {p C dx : Addr} {fs : List (Str × V)} (hp : H p = some (.ins C dx fs)) (s : But p H H') {tp tm te : Addr} {pt : Pt} (h : InAt H tp tm te pt) : InAt H' tp tm te pt := by
  obtain ⟨kvs, a, b⟩ := h.mv
  refine ⟨h.pl.imp (fun z => s _ _ z (ne_of z hp (by intro z; cases z))) fun z => s _ _ z (ne_of z hp (by intro z; cases z)), ⟨kvs, s _ _ a (ne_of a hp (by intro z; cases z)), Paired.mono (fun kv m z => ?_) b⟩, s _ _ h.en (ne_of h.en hp (by intro z; cases z))⟩
  obtain ⟨e, t, d, h1, h2, h3⟩ := z
  exact ⟨e, t, d, h1, h2.imp (fun z => s _ _ z (ne_of z hp (by intro z; cases z))) fun z => s _ _ z (ne_of z hp (by intro z; cases z)), s _ _ h3 (ne_of h3 hp (by intro z; cases z))⟩
theorem PartsQ.few {pt : Pt} (h : PartsQ pt) : pt.letters.length ≤ 5 ∧ 1 ≤ pt.letters.length ∧ pt.boxes.length ≤ 6 ∧ pt.places.length ≤ 50 ∧ 1 ≤ pt.places.length ∧ (∀ x ∈ pt.places, x.length ≤ 8) ∧ pt.moves.length ≤ 250 ∧ pt.ends.length ≤ 50 := by
  have h1 := h.le
  have h2 := h.bo
  have h3 := h.pl
  unfold okLetters at h1
  unfold okBoxes at h2
  unfold okPlaces at h3
  simp only [Bool.and_eq_true, decide_eq_true_eq, List.all_eq_true] at h1 h2 h3
  obtain ⟨_, l1, l2, _⟩ := h1
  obtain ⟨b1, _⟩ := h2
  obtain ⟨⟨p1, p2⟩, p3, _⟩ := h3
  refine ⟨l2, l1, b1, p2, p1, fun x hx => (isName_iff.mp (p3 x hx)).2.1, ?_, ?_⟩
  · have sub : (pt.moves.map fun m => (m.pl, m.lt)) ⊆ pt.places.flatMap fun a => pt.letters.map fun b => (a, b) := by
      intro x hx
      obtain ⟨m', hm', rfl⟩ := List.mem_map.mp hx
      obtain ⟨a1, a2, _⟩ := h.mv m' hm'
      exact List.mem_flatMap.mpr ⟨m'.pl, a1, List.mem_map.mpr ⟨m'.lt, a2, rfl⟩⟩
    have hle := List.Nodup.length_le_of_subset h.ky sub
    rw [List.length_map] at hle
    have hfl : ∀ l : List (List Nat), (l.flatMap fun a => pt.letters.map fun b => (a, b)).length = l.length * pt.letters.length := by
      intro l
      induction l with
      | nil => simp
      | cons a r ih =>
        rw [List.flatMap_cons, List.length_append, List.length_map, ih, List.length_cons, Nat.succ_mul]
        omega
    rw [hfl] at hle
    have : pt.places.length * pt.letters.length ≤ 50 * 5 := Nat.mul_le_mul p2 l2
    omega
  · have sub : (pt.ends.map (·.1)) ⊆ pt.places := fun x hx => by
      obtain ⟨q', hq', rfl⟩ := List.mem_map.mp hx
      exact (h.en q' hq').1
    have hle := List.Nodup.length_le_of_subset h.ek sub
    rw [List.length_map] at hle
    omega
def endV (es : Fil) : V → V := fun v => match v with | .str x => .str (S ((getF es (tl x)).getD [])) | _ => .non
theorem getF_mem {q : List Nat × List Nat} : ∀ {es : Fil}, (es.map (·.1)).Nodup → q ∈ es → getF es q.1 = some q.2
  | [], _, hq => nomatch hq
  | r :: t, nd, hq => by
    rw [getF_cons]
    rw [List.map_cons] at nd
    have nd' := List.nodup_cons.mp nd
    rcases List.mem_cons.mp hq with e | e
    · rw [e, if_pos rfl]
    · rw [if_neg (fun z => nd'.1 (by rw [z]; exact List.mem_map.mpr ⟨q, e, rfl⟩))]
      exact getF_mem nd'.2 e
theorem ends_eq {es : Fil} (nd : (es.map (·.1)).Nodup) : ((txs (es.map (·.1))).filter fun _ => true).map (fun x => (keyV x, endV es x)) = fkv es := by
  rw [List.filter_eq_self.mpr (fun _ _ => rfl)]
  unfold txs fkv
  simp only [List.map_map]
  refine List.map_congr_left fun q hq => ?_
  show (Sum.inr (S q.1), V.str (S ((getF es q.1).getD []))) = _
  rw [getF_mem nd hq]
  rfl
section
variable {P : Program} {w : World} {K : PySem.W.Frag} {mg : Str → Option Value} {base : Heap}
abbrev nInit : List Str := ["self", "letters", "boxes", "places", "moves", "ends", "place"]
theorem scInit : FnScope nInit ["self", "letters", "boxes", "places", "moves", "ends"] (defScope sInit) := ⟨rfl, rfl, rfl, by decide +kernel, rfl, by decide +kernel, by decide +kernel⟩
def spInit (C : Addr) : Sp := fun vs H Q _ => ∃ (p dx tp tm te : Addr) (pt : Pt), vs = [.ref p, .str (S pt.letters), .str (S pt.boxes), .ref tp, .ref tm, .ref te] ∧ H p = some (.ins C dx []) ∧ InAt H tp tm te pt ∧ PartsQ pt ∧
  ∀ H', But p H H' → PrNew C H H' p (sortN pt.letters) (sortN pt.boxes) pt.places (pt.moves.map keptM) pt.ends → Q .non H'
theorem ok_init {f C : Addr} {fd : FuncData} {k : Nat} (F : Fun K "__init__" "Program.__init__" sInit f fd) (T : PrTxt K mg C) (DL : Df P w K mg base (k + 2) "are_letters" ["thing", "most"] (spAreLetters K)) (mN : ∃ t, mg "MOST_LETTERS" = some (.int 5 t)) (DB : Df P w K mg base (k + 2) "_are_boxes" ["thing"] (spAreBoxes K)) (DPl : Df P w K mg base (k + 4) "_are_places" ["thing"] spArePlaces)
    (DM : Df P w K mg base (k + 4) "_are_moves" ["thing", "letters", "boxes", "places"] spAreMoves) (DE : Df P w K mg base (k + 3) "_are_ends" ["thing", "boxes", "places"] spAreEnds) (DI : Df P w K mg base (k + 1) "in_order" ["signs"] spInOrder) (DK : Df P w K mg base (k + 1) "_kept_moves" ["moves"] spKept) (mt : mg "tuple" = none) :
    FnOk P w K mg base CX0 (k + 5) f fd ["self", "letters", "boxes", "places", "moves", "ends"] (spInit C) := by
  refine F.ok scInit (fun vs H Q E h => ?_) (fun cdv A outer s H vs Q E hr h => ?_)
  · obtain ⟨p, dx, tp, tm, te, pt, rfl, _⟩ := h
    rfl
  · obtain ⟨p, dx, tp, tm, te, pt, rfl, hp, hin, hq, q⟩ := h
    have hu := hu_of hr
    obtain ⟨tN, mN⟩ := mN
    have hlow : ∀ b ∈ pt.boxes, isLow b = false := fun b hb => by
      have h1 := hq.bo
      unfold okBoxes at h1
      rw [Bool.and_eq_true, Bool.and_eq_true] at h1
      exact isCap_low' (of_decide_eq_true (List.all_eq_true.mp h1.2.1 b hb))
    obtain ⟨l5, l1, b6, p50, p1, p8, m250, e50⟩ := hq.few
    refine ⟨_, pss_cons (ps_if (pt_not (pt_val (pe_df DL hr (pa_cons (pv 1) (pa_cons (pe_glob (v := .int 5) (by rfl) mN ⟨_, rfl⟩) pa_nil))))) (pss_one ps_dead) pss_nil)
      (pss_cons (ps_if (pt_not (pt_val (pe_df DB hr (pa_cons (pv 2) pa_nil)))) (pss_one ps_dead) pss_nil)
      (pss_cons (ps_if (pt_not (pt_val (pe_df DPl hr (pa_cons (pv 3) pa_nil)))) (pss_one ps_dead) pss_nil)
      (pss_cons (ps_if (pt_not (pt_val (pe_df DM hr (pa_cons (pv 4) (pa_cons (pv 1) (pa_cons (pv 2) (pa_cons (pv 3) pa_nil))))))) (pss_one ps_dead) pss_nil)
      (pss_cons (ps_if (pt_not (pt_val (pe_df DE hr (pa_cons (pv 5) (pa_cons (pv 2) (pa_cons (pv 3) pa_nil)))))) (pss_one ps_dead) pss_nil)
      (pss_cons (ps_fld (pv 0) (pe_df DI hr (pa_cons (pv 1) pa_nil)) rfl)
      (pss_cons (ps_fld (pv 0) (pe_df DI hr (pa_cons (pv 2) pa_nil)) rfl)
      (pss_cons (ps_fld (pv 0) (pe_callTy call_tupS (by rfl) mt (by decide +kernel) (pa_cons (pv 3) pa_nil)) rfl)
      (pss_cons (ps_fld (pv 0) (pe_df DK hr (pa_cons (pv 4) pa_nil)) rfl)
      (pss_one (ps_fld (pv 0) (pe_lock (pe_dc (own := [("place", 6)]) (g := gName 6) (tt := tYes) (tk := tVar 6) (tv := tDGet (tVar 5) (tVar 6)) rfl scInit.nd (pi_keys (pv 5)) (blkOk_by (own := [("place", 6)]) (N := nInit) (sc := defScope sInit) (by decide +kernel)) (fun _ _ _ _ _ => pg_name (i := 6) scInit.nd rfl (.inl rfl)) (fun _ _ _ _ _ => pts_nil) (fun _ _ _ _ _ => pv 6) (fun _ _ _ _ _ => pe_dget hu (pv 5) (pv 6) (fun _ _ => rfl)))) rfl)))))))))), ?_⟩
    have sm : ∀ {n : Nat}, n ≤ 250 → n ≤ 1000 := fun h => by omega
    refine ⟨_, rfl, .inl ⟨pt.letters, rfl, by omega, fun H1 s1 => ⟨_, rfl, ?_⟩⟩⟩
    rw [hq.le]
    refine iteF ⟨_, rfl, .inl ⟨pt.boxes, rfl, by omega, fun H2 s2 => ⟨_, rfl, ?_⟩⟩⟩
    rw [hq.bo]
    have in2 := (hin.same s1).same s2
    refine iteF ⟨_, rfl, tp, pt.places, rfl, in2.pl, fun x hx => Nat.le_trans (p8 x hx) (by decide), by omega, hq.pl, fun H3 s3 => ⟨_, rfl, ?_⟩⟩
    have in3 := in2.same s3
    obtain ⟨kvs, hm3, hk3⟩ := in3.mv
    refine iteF ⟨_, rfl, _, rfl, _, rfl, _, rfl, tm, tp, kvs, pt.moves, pt.letters, pt.boxes, pt.places, rfl, hm3, hk3, in3.pl, by omega, by omega, hlow, hq.mv, fun H4 s4 => ⟨_, rfl, iteF ?_⟩⟩
    have in4 := in3.same s4
    refine ⟨_, rfl, _, rfl, _, rfl, te, tp, pt.ends, pt.boxes, pt.places, rfl, in4.en, in4.pl, hlow, hq.en, fun H5 s5 => ⟨_, rfl, iteF ?_⟩⟩
    have s05 := (((s1.trans s2).trans s3).trans s4).trans s5
    -- the fields
    refine ⟨_, rfl, pt.letters, rfl, by omega, fun H6 s6 => ⟨_, rfl, p, C, dx, [], rfl, s6 _ _ (s05 _ _ hp), T.cl, T.nL, by show 0 < 1000; decide, ?_⟩⟩
    have hp6 : H6 p = some (.ins C dx []) := s6 _ _ (s05 _ _ hp)
    have b7 : But p H (upd H6 p (.ins C dx (putF "_letters" (.str (S (sortN pt.letters))) []))) := (Same.but (s05.trans s6) p).trans (But.upd p H6 _)
    have hp7 : (upd H6 p (.ins C dx (putF "_letters" (.str (S (sortN pt.letters))) []))) p = some (.ins C dx [("_letters", .str (S (sortN pt.letters)))]) := upd_same
    generalize upd H6 p (.ins C dx (putF "_letters" (.str (S (sortN pt.letters))) [])) = H7 at b7 hp7
    refine ⟨_, rfl, pt.boxes, rfl, by omega, fun H8 s8 => ⟨_, rfl, p, C, dx, _, rfl, s8 _ _ hp7, T.cl, T.nB, by show 1 < 1000; decide, ?_⟩⟩
    have b9 : But p H (upd H8 p (.ins C dx (putF "_boxes" (.str (S (sortN pt.boxes))) [("_letters", .str (S (sortN pt.letters)))]))) := (b7.trans (Same.but s8 p)).trans (But.upd p H8 _)
    have hp9 : (upd H8 p (.ins C dx (putF "_boxes" (.str (S (sortN pt.boxes))) [("_letters", .str (S (sortN pt.letters)))]))) p = some (.ins C dx [("_letters", .str (S (sortN pt.letters))), ("_boxes", .str (S (sortN pt.boxes)))]) := by
      rw [upd_same, putF_end (show ("_boxes" : Str) ∉ (["_letters"] : List Str) by decide +kernel)]
      rfl
    generalize upd H8 p (.ins C dx (putF "_boxes" (.str (S (sortN pt.boxes))) [("_letters", .str (S (sortN pt.letters)))])) = H9 at b9 hp9
    have in9 : InAt H9 tp tm te pt := hin.but hp b9
    -- the places
    refine ⟨_, rfl, tp, txs pt.places, rfl, in9.pl, fun pl H10 s10 e10 => ?_⟩
    refine ⟨_, rfl, p, C, dx, _, rfl, s10 _ _ hp9, T.cl, T.nP, by show 2 < 1000; decide, ?_⟩
    have hp10 := s10 _ _ hp9
    have npp : pl ≠ p := ne_of e10 hp10 (by intro z; cases z)
    have b11 : But p H (upd H10 p (.ins C dx (putF "_places" (.ref pl) [("_letters", .str (S (sortN pt.letters))), ("_boxes", .str (S (sortN pt.boxes)))]))) := (b9.trans (Same.but s10 p)).trans (But.upd p H10 _)
    have hp11 : (upd H10 p (.ins C dx (putF "_places" (.ref pl) [("_letters", .str (S (sortN pt.letters))), ("_boxes", .str (S (sortN pt.boxes)))]))) p = some (.ins C dx [("_letters", .str (S (sortN pt.letters))), ("_boxes", .str (S (sortN pt.boxes))), ("_places", .ref pl)]) := by
      rw [upd_same, putF_end (show ("_places" : Str) ∉ (["_letters", "_boxes"] : List Str) by decide +kernel)]
      rfl
    have e11 : (upd H10 p (.ins C dx (putF "_places" (.ref pl) [("_letters", .str (S (sortN pt.letters))), ("_boxes", .str (S (sortN pt.boxes)))]))) pl = some (.tup (txs pt.places)) := by rw [upd_ne npp]; exact e10
    generalize upd H10 p (.ins C dx (putF "_places" (.ref pl) [("_letters", .str (S (sortN pt.letters))), ("_boxes", .str (S (sortN pt.boxes)))])) = H11 at b11 hp11 e11
    have in11 : InAt H11 tp tm te pt := hin.but hp b11
    obtain ⟨kvs2, hm11, hk11⟩ := in11.mv
    have mok : ∀ m ∈ pt.moves, (m.fl.map (·.1)).Nodup ∧ Ones m.fl ∧ m.fl.length < 64 := fun m hm => by
      obtain ⟨_, _, _, hF⟩ := hq.mv m hm
      refine ⟨hF.nd, hF.ones, ?_⟩
      have hk : okKeys m.fl pt.boxes = true := by
        have := hF.ok
        unfold okFils at this
        exact (Bool.and_eq_true _ _ ▸ this).1
      have sub : (m.fl.map (·.1)) ⊆ pt.boxes.map fun b => [b] := fun x hx => of_decide_eq_true (List.all_eq_true.mp hk x hx)
      have h1 := List.Nodup.length_le_of_subset hF.nd sub
      rw [List.length_map, List.length_map] at h1
      omega
    refine ⟨_, rfl, tm, kvs2, pt.moves, rfl, hm11, hk11, by omega, hq.ky, mok, fun mv H12 kk s12 n12 e12 k12 => ?_⟩
    have hp12 := s12 _ _ hp11
    have nmp : mv ≠ p := ne_of e12 hp12 (by intro z; cases z)
    have nHm : H mv = none := by
      cases z : H mv with
      | none => rfl
      | some o =>
        have := b11 _ _ z nmp
        rw [n12] at this
        cases this
    refine ⟨_, rfl, p, C, dx, _, rfl, hp12, T.cl, T.nM, by show 3 < 1000; decide, ?_⟩
    have b13 : But p H (upd H12 p (.ins C dx (putF "_moves" (.ref mv) [("_letters", .str (S (sortN pt.letters))), ("_boxes", .str (S (sortN pt.boxes))), ("_places", .ref pl)]))) := (b11.trans (Same.but s12 p)).trans (But.upd p H12 _)
    have hp13 : (upd H12 p (.ins C dx (putF "_moves" (.ref mv) [("_letters", .str (S (sortN pt.letters))), ("_boxes", .str (S (sortN pt.boxes))), ("_places", .ref pl)]))) p = some (.ins C dx [("_letters", .str (S (sortN pt.letters))), ("_boxes", .str (S (sortN pt.boxes))), ("_places", .ref pl), ("_moves", .ref mv)]) := by
      rw [upd_same, putF_end (show ("_moves" : Str) ∉ (["_letters", "_boxes", "_places"] : List Str) by decide +kernel)]
      rfl
    have e13 : (upd H12 p (.ins C dx (putF "_moves" (.ref mv) [("_letters", .str (S (sortN pt.letters))), ("_boxes", .str (S (sortN pt.boxes))), ("_places", .ref pl)]))) pl = some (.tup (txs pt.places)) := by rw [upd_ne npp]; exact s12 _ _ e11
    have m13 : (upd H12 p (.ins C dx (putF "_moves" (.ref mv) [("_letters", .str (S (sortN pt.letters))), ("_boxes", .str (S (sortN pt.boxes))), ("_places", .ref pl)]))) mv = some (.dT kk) := by rw [upd_ne nmp]; exact e12
    have fresh11 : ∀ {a : Addr}, H11 a = none → a ≠ p → H a = none := fun {a} h n => by
      cases z : H a with
      | none => rfl
      | some o =>
        have := b11 _ _ z n
        rw [h] at this
        cases this
    have k13 : Paired (MvNew H (upd H12 p (.ins C dx (putF "_moves" (.ref mv) [("_letters", .str (S (sortN pt.letters))), ("_boxes", .str (S (sortN pt.boxes))), ("_places", .ref pl)])))) kk (pt.moves.map keptM) := by
      refine Paired.mono (fun kv m h => ?_) k12
      obtain ⟨e, t, d2, a, b, c, n⟩ := h
      have ntp : t ≠ p := ne_of b hp12 (by intro z; cases z)
      have ndp : d2 ≠ p := ne_of c hp12 (by intro z; cases z)
      exact ⟨e, t, d2, a, by rw [upd_ne ntp]; exact b, by rw [upd_ne ndp]; exact c, fresh11 n ndp⟩
    generalize upd H12 p (.ins C dx (putF "_moves" (.ref mv) [("_letters", .str (S (sortN pt.letters))), ("_boxes", .str (S (sortN pt.boxes))), ("_places", .ref pl)])) = H13 at b13 hp13 e13 m13 k13
    have in13 : InAt H13 tp tm te pt := hin.but hp b13
    -- the ends
    refine ⟨te, _, in13.en, trivial, fun od => ⟨_, rfl, te, od, rfl, .inl ⟨fkv pt.ends, upd_same, fun D nD => ?_⟩⟩⟩
    have nDte : D ≠ te := fun z => by rw [z, upd_same] at nD; cases nD
    have lE : (txs (pt.ends.map (·.1))).length = pt.ends.length := by unfold txs; rw [List.length_map, List.length_map]
    have lF : (fkv pt.ends).length = pt.ends.length := List.length_map _
    refine dc_mapW (xs := txs (pt.ends.map (·.1))) (fun _ => true) keyV (endV pt.ends) walk_keys (by rw [lE, lF]) (fun i H x H' y => ?_) (fun H' s' => s' _ _ upd_same) nD (by rw [lE]; exact small1000 (by omega)) ?_ ?_ ?_ ?_ ?_
    · obtain ⟨e, k', v', hk, ex⟩ := y
      refine ⟨e, ?_⟩
      rw [← keys_fkv, List.getElem?_map, hk, ex]
      rfl
    · rw [List.filter_eq_self.mpr (fun _ _ => rfl)]
      unfold txs
      rw [List.map_map]
      exact List.Pairwise.map _ (fun a b hab z => hab (key_S.mp z)) hq.ek
    · intro x hx H' R s' r
      exact r
    · intro x hx _ H' R s' r
      obtain ⟨c, hc, rfl⟩ := List.mem_map.mp hx
      exact ⟨_, rfl, r⟩
    · intro x hx _ H' R s' r
      obtain ⟨c, hc, rfl⟩ := List.mem_map.mp hx
      obtain ⟨qq, hqq, rfl⟩ := List.mem_map.mp hc
      have hg := getF_mem hq.ek hqq
      have hv : valV (fkv pt.ends) (Sum.inr (S qq.1)) = some (.str (S qq.2)) := by rw [val_fkv, hg]; rfl
      refine ⟨_, rfl, _, rfl, te, _, rfl, hv ▸ dget_kz (k := Sum.inr (S qq.1)) (s' _ _ upd_same), ?_⟩
      have r' := r H' (fun _ _ e => e)
      have e5 : endV pt.ends (.str (S qq.1)) = .str (S qq.2) := by
        show V.str (S ((getF pt.ends qq.1).getD [])) = _
        rw [hg]
        rfl
      rw [e5] at r'
      exact r'
    intro H14 s14 e14
    rw [ends_eq hq.ek] at e14
    have ste : H14 te = some (.frz od (.dK (fkv pt.ends))) := s14 _ _ upd_same
    have s15 : Same H13 (upd H14 te (.dK (fkv pt.ends))) := same_unlock in13.en s14
    have hp15 := s15 _ _ hp13
    have e15 : (upd H14 te (.dK (fkv pt.ends))) D = some (.dK (fkv pt.ends)) := by rw [upd_ne nDte]; exact e14
    refine ⟨ste, _, rfl, p, C, dx, _, rfl, hp15, T.cl, T.nE, by show 4 < 1000; decide, ?_⟩
    have nDp : D ≠ p := ne_of e15 hp15 (by intro z; cases z)
    have nHD : H D = none := by
      have h1 : H13 D = none := by rw [upd_ne nDte] at nD; exact nD
      cases z : H D with
      | none => rfl
      | some o =>
        have := b13 _ _ z nDp
        rw [h1] at this
        cases this
    refine q _ ((b13.trans (Same.but s15 p)).trans (But.upd p _ _)) ⟨dx, pl, mv, D, kk, ?_, by rw [upd_ne npp]; exact s15 _ _ e13, by rw [upd_ne nmp]; exact s15 _ _ m13, nHm, Paired.mono (fun kv m h => ?_) k13, by rw [upd_ne nDp]; exact e15, nHD⟩
    · rw [upd_same, putF_end (show ("_ends" : Str) ∉ (["_letters", "_boxes", "_places", "_moves"] : List Str) by decide +kernel)]
      rfl
    · obtain ⟨e, t, d2, a, b, c, n⟩ := h
      have b' := s15 _ _ b
      have c' := s15 _ _ c
      exact ⟨e, t, d2, a, by rw [upd_ne (ne_of b' hp15 (by intro z; cases z))]; exact b', by rw [upd_ne (ne_of c' hp15 (by intro z; cases z))]; exact c', n⟩
end
end Tb

set_option Elab.async false
set_option linter.all false
set_option maxRecDepth 100000
set_option maxHeartbeats 4000000
namespace Tb
open PySem PySem.Spec PyProof.Rows L2 TL
/-- a property, a method of the class at C, proved -/
structure Prp (P : Program) (w : World) (K : PySem.W.Frag) (mg : Str → Option Value) (base : Heap) (C : Addr) (k : Nat) (nm : Str) (sp : Sp) : Prop where
  ex : ∃ p g fd, PropOf K C nm p g ∧ FnOk P w K mg base CX0 k g fd ["self"] sp ∧ Binds K fd ["self"] []
structure Mth (P : Program) (w : World) (K : PySem.W.Frag) (mg : Str → Option Value) (base : Heap) (C : Addr) (k : Nat) (nm : Str) (ps : List Str) (sp : Sp) : Prop where
  ex : ∃ f fd, Meth K C nm f ∧ FnOk P w K mg base CX0 k f fd ("self" :: ps) sp ∧ Binds K fd ("self" :: ps) []
section
variable {X : Cx} {C : Addr} {k j : Nat} {nm : Str} {ps : List Str} {sp : Sp} {o : Expr} {to : TE}
theorem pe_prp {pos : Pos} (D : Prp X.prog X.w X.K X.mg X.base C k nm sp) (c : Cls X.K C) (hr : Room j X.A) (he : PE X o to) (hk : k + 1 ≤ j := by omega) (hab : attributeBase o nm X.env (eval o X.env) = eval o X.env := by rfl) : PE X (.Attribute o nm pos) (tProp C sp [] E0 to) := by
  obtain ⟨p, g, fd, hp, F, b⟩ := D.ex
  exact pe_prop he c hp F (hr.mono hk) b .nil pass0 hab
theorem pe_mth {e : Expr} {es : List Expr} {t : TA} {apos pos : Pos} {pl : Sem Bool} (D : Mth X.prog X.w X.K X.mg X.base C k nm ps sp) (c : Cls X.K C) (hr : Room j X.A) (he : PE X o to) (ha : PA X (e :: es) t) (hk : k ≤ j := by omega)
    (hst : starEach (e :: es) X.env = (false, eval e X.env) :: starEach es X.env := by rfl) (hpl : (backTo pos (starEach es X.env)).any (·.1) = false := by rfl)
    (ht : eval (.Call (.Attribute o nm apos) (e :: es) [] pos) X.env = (do
      let ov ← eval o X.env
      standAt apos.atName
      let (f, first) ← holding [ov] (getMethod ov nm pl)
      callWith pos f first (backTo pos (starEach (e :: es) X.env)) (backToKw pos (keywordEach [] X.env))) := by rfl) :
    PE X (.Call (.Attribute o nm apos) (e :: es) [] pos) (tMeth C nm sp [] E0 to t) := by
  obtain ⟨f, fd, hm, F, b⟩ := D.ex
  exact pe_meth he c hm F (hr.mono hk) b .nil pass0 ha hst hpl ht
end
/-! ### a program's fields, looked up -/
theorem fl_l (L B : List Nat) (pl mv en : Addr) : (flds L B pl mv en).lookup ("_letters" : Str) = some (.str (S L)) := rfl
theorem fl_b (L B : List Nat) (pl mv en : Addr) : (flds L B pl mv en).lookup ("_boxes" : Str) = some (.str (S B)) := by
  show List.lookup _ (_ :: _) = _
  rw [List.lookup_cons, show (("_boxes" : Str) == "_letters") = false by decide +kernel]
  rfl
theorem fl_p (L B : List Nat) (pl mv en : Addr) : (flds L B pl mv en).lookup ("_places" : Str) = some (.ref pl) := by
  show List.lookup _ (_ :: _ :: _) = _
  rw [List.lookup_cons, show (("_places" : Str) == "_letters") = false by decide +kernel, List.lookup_cons, show (("_places" : Str) == "_boxes") = false by decide +kernel]
  rfl
theorem fl_m (L B : List Nat) (pl mv en : Addr) : (flds L B pl mv en).lookup ("_moves" : Str) = some (.ref mv) := by
  show List.lookup _ (_ :: _ :: _ :: _) = _
  rw [List.lookup_cons, show (("_moves" : Str) == "_letters") = false by decide +kernel, List.lookup_cons, show (("_moves" : Str) == "_boxes") = false by decide +kernel, List.lookup_cons, show (("_moves" : Str) == "_places") = false by decide +kernel]
  rfl
theorem fl_e (L B : List Nat) (pl mv en : Addr) : (flds L B pl mv en).lookup ("_ends" : Str) = some (.ref en) := by
  show List.lookup _ (_ :: _ :: _ :: _ :: _) = _
  rw [List.lookup_cons, show (("_ends" : Str) == "_letters") = false by decide +kernel, List.lookup_cons, show (("_ends" : Str) == "_boxes") = false by decide +kernel, List.lookup_cons, show (("_ends" : Str) == "_places") = false by decide +kernel, List.lookup_cons, show (("_ends" : Str) == "_moves") = false by decide +kernel]
  rfl
theorem fl_no (L B : List Nat) (pl mv en : Addr) {m : Str} (h : (["_letters", "_boxes", "_places", "_moves", "_ends"] : List Str).contains m = false) : (flds L B pl mv en).lookup m = none := by
  have h' : m ∉ (["_letters", "_boxes", "_places", "_moves", "_ends"] : List Str) := fun z => by
    rw [List.contains_iff_mem.mpr z] at h
    cases h
  cases e : (flds L B pl mv en).lookup m with
  | none => rfl
  | some v =>
    exfalso
    have : ∀ l : List (Str × V), l.lookup m = some v → m ∈ l.map (·.1) := by
      intro l
      induction l with
      | nil => intro h; cases h
      | cons q r ih =>
        intro h
        rw [List.lookup_cons] at h
        by_cases z : (m == q.1) = true
        · rw [beq_iff_eq.mp z]
          exact List.mem_cons_self
        · rw [Bool.eq_false_iff.mpr z] at h
          exact List.mem_cons_of_mem _ (ih h)
    exact h' (this _ e)
/-! ### the move under a key -/
def findM (ms : List Mv) (pl : List Nat) (c : Nat) : Option Mv := ms.find? fun m => decide (m.pl = pl ∧ m.lt = c)
def mkey (pl : List Nat) (c : Nat) : List Key := [Sum.inr (S pl), Sum.inr (S [c])]
theorem val_moves {H : Hp} {pl : List Nat} {c : Nat} : ∀ {kk : List (List Key × V)} {ms : List Mv}, Paired (MvAt H) kk ms →
    match findM ms pl c with
    | none => valV kk (mkey pl c) = none
    | some m => ∃ t d, valV kk (mkey pl c) = some (.ref t) ∧ H t = some (.tup [.str (S m.to), .ref d]) ∧ H d = some (.dK (fkv m.fl))
  | _, _, .nil => rfl
  | kv :: kk, m :: ms, .cons h t => by
    have ih := val_moves (pl := pl) (c := c) t
    unfold findM
    rw [List.find?_cons]
    by_cases e : m.pl = pl ∧ m.lt = c
    · rw [decide_eq_true e]
      obtain ⟨e1, t, d, a, b, g⟩ := h
      refine ⟨t, d, ?_, b, g⟩
      obtain ⟨k, v⟩ := kv
      have ek : k = mkey pl c := by
        have : k = m.key := e1
        rw [this]
        unfold Mv.key mkey
        rw [e.1, e.2]
      rw [valV_pos ek]
      exact congrArg some a
    · rw [decide_eq_false e]
      obtain ⟨e1, _⟩ := h
      obtain ⟨k, v⟩ := kv
      have ek : k ≠ mkey pl c := fun z => e (key_inj (m := m) (by rw [← e1]; exact z))
      rw [valV_neg ek]
      exact ih
theorem mapV_ends (es : Fil) (c : List Nat) : (valV (fkv es) (Sum.inr (S c))).getD .non = match getF es c with | none => .non | some f => .str (S f) := by
  rw [val_fkv]
  cases getF es c <;> rfl
section
variable {P : Program} {w : World} {K : PySem.W.Frag} {mg : Str → Option Value} {base : Heap}
theorem scL : FnScope ["self"] ["self"] (defScope sLettersP) := ⟨rfl, rfl, rfl, by decide +kernel, rfl, by decide +kernel, by decide +kernel⟩
theorem scB : FnScope ["self"] ["self"] (defScope sBoxesP) := ⟨rfl, rfl, rfl, by decide +kernel, rfl, by decide +kernel, by decide +kernel⟩
theorem scP : FnScope ["self"] ["self"] (defScope sPlacesP) := ⟨rfl, rfl, rfl, by decide +kernel, rfl, by decide +kernel, by decide +kernel⟩
theorem ok_letters {f C : Addr} {fd : FuncData} {k : Nat} (F : Fun K "letters" "Program.letters" sLettersP f fd) (T : PrTxt K mg C) : FnOk P w K mg base CX0 (k + 1) f fd ["self"] (getSp C "_letters") := by
  refine F.ok scL (fun vs H Q E h => ?_) (fun cdv A outer s H vs Q E hr h => ?_)
  · obtain ⟨a, dx, fs, v, rfl, _⟩ := h
    rfl
  · obtain ⟨a, dx, fs, v, rfl, h1, h2, q⟩ := h
    exact ⟨_, pss_one (ps_ret (pe_fld (pv 0) rfl)), _, rfl, a, C, dx, fs, v, rfl, h1, T.cl, T.nL, h2, q⟩
theorem ok_boxes {f C : Addr} {fd : FuncData} {k : Nat} (F : Fun K "boxes" "Program.boxes" sBoxesP f fd) (T : PrTxt K mg C) : FnOk P w K mg base CX0 (k + 1) f fd ["self"] (getSp C "_boxes") := by
  refine F.ok scB (fun vs H Q E h => ?_) (fun cdv A outer s H vs Q E hr h => ?_)
  · obtain ⟨a, dx, fs, v, rfl, _⟩ := h
    rfl
  · obtain ⟨a, dx, fs, v, rfl, h1, h2, q⟩ := h
    exact ⟨_, pss_one (ps_ret (pe_fld (pv 0) rfl)), _, rfl, a, C, dx, fs, v, rfl, h1, T.cl, T.nB, h2, q⟩
theorem ok_places {f C : Addr} {fd : FuncData} {k : Nat} (F : Fun K "places" "Program.places" sPlacesP f fd) (T : PrTxt K mg C) : FnOk P w K mg base CX0 (k + 1) f fd ["self"] (getSp C "_places") := by
  refine F.ok scP (fun vs H Q E h => ?_) (fun cdv A outer s H vs Q E hr h => ?_)
  · obtain ⟨a, dx, fs, v, rfl, _⟩ := h
    rfl
  · obtain ⟨a, dx, fs, v, rfl, h1, h2, q⟩ := h
    exact ⟨_, pss_one (ps_ret (pe_fld (pv 0) rfl)), _, rfl, a, C, dx, fs, v, rfl, h1, T.cl, T.nP, h2, q⟩
/-! ### end, move -/
theorem scEnd : FnScope ["self", "place"] ["self", "place"] (defScope sEnd) := ⟨rfl, rfl, rfl, by decide +kernel, rfl, by decide +kernel, by decide +kernel⟩
def spEnd (C : Addr) : Sp := fun vs H Q _ => ∃ (p : Addr) (c L B : List Nat) (places : List (List Nat)) (ms : List Mv) (es : Fil), vs = [.ref p, .str (S c)] ∧ PrAt C H p L B places ms es ∧ Q (match getF es c with | none => .non | some f => .str (S f)) H
theorem ok_end {f C : Addr} {fd : FuncData} {k : Nat} (F : Fun K "end" "Program.end" sEnd f fd) (T : PrTxt K mg C) : FnOk P w K mg base CX0 (k + 1) f fd ["self", "place"] (spEnd C) := by
  refine F.ok scEnd (fun vs H Q E h => ?_) (fun cdv A outer s H vs Q E hr h => ?_)
  · obtain ⟨p, c, L, B, places, ms, es, rfl, _⟩ := h
    rfl
  · obtain ⟨p, c, L, B, places, ms, es, rfl, hp, q⟩ := h
    have hu := hu_of hr
    obtain ⟨dx, pl, mv, en, kk, h1, h2, h3, h4, h5⟩ := hp.ob
    refine ⟨_, pss_one (ps_ret (pe_dget1 hu (pe_fld (pv 0) rfl) (pv 1) ⟨rfl, rfl, rfl, rfl⟩)), ?_⟩
    refine ⟨_, rfl, p, C, dx, _, _, rfl, h1, T.cl, T.nE, fl_e _ _ _ _ _, en, rfl, .inl ⟨_, .inl h5⟩, _, rfl, _, DGet.k (k := Sum.inr (S c)) h5, ?_⟩
    rw [mapV_ends]
    exact q
theorem scMove : FnScope ["self", "place", "letter", "found", "target", "fillings"] ["self", "place", "letter"] (defScope sMove) := ⟨rfl, rfl, rfl, by decide +kernel, rfl, by decide +kernel, by decide +kernel⟩
def spMove (C : Addr) : Sp := fun vs H Q _ => ∃ (p : Addr) (c : List Nat) (a : Nat) (L B : List Nat) (places : List (List Nat)) (ms : List Mv) (es : Fil), vs = [.ref p, .str (S c), .str (S [a])] ∧ PrAt C H p L B places ms es ∧
  match findM ms c a with
  | none => ∀ H', Same H H' → Q .non H'
  | some m => ∀ t d H', Same H H' → H t = none → H d = none → H' t = some (.tup [.str (S m.to), .ref d]) → H' d = some (.dK (fkv m.fl)) → Q (.ref t) H'
theorem ok_move {f C : Addr} {fd : FuncData} {k : Nat} (F : Fun K "move" "Program.move" sMove f fd) (T : PrTxt K mg C) (md : mg "dict" = none) : FnOk P w K mg base CX0 (k + 1) f fd ["self", "place", "letter"] (spMove C) := by
  refine F.ok scMove (fun vs H Q E h => ?_) (fun cdv A outer s H vs Q E hr h => ?_)
  · obtain ⟨p, c, a, L, B, places, ms, es, rfl, _⟩ := h
    rfl
  · obtain ⟨p, c, a, L, B, places, ms, es, rfl, hp, q⟩ := h
    have hu := hu_of hr
    obtain ⟨dx, pl, mv, en, kk, h1, h2, h3, h4, h5⟩ := hp.ob
    refine ⟨_, pss_cons (ps_set (i := 3) scMove.nd rfl (.inl rfl) (pe_dget1 hu (pe_fld (pv 0) rfl) (pe_tupS (pa_cons (pv 1) (pa_cons (pv 2) pa_nil))) ⟨rfl, rfl, rfl, rfl⟩))
      (pss_cons (ps_if (pt_cmpR op_isN (pv 3) pe_non (nomark _)) (pss_one (ps_ret pe_non)) pss_nil)
      (pss_cons (ps_asg (pv 3) (pg_tup rfl (pgs_cons (pg_name (i := 4) scMove.nd rfl (.inl rfl)) (pgs_cons (pg_name (i := 5) scMove.nd rfl (.inl rfl)) pgs_nil))))
      (pss_one (ps_ret (pe_tupS (pa_cons (pv 4) (pa_cons (pe_callTy call_dictD (by rfl) md (by decide +kernel) (pa_cons (pv 5) pa_nil)) pa_nil))))))), ?_⟩
    refine ⟨_, rfl, p, C, dx, _, _, rfl, h1, T.cl, T.nM, fl_m _ _ _ _ _, mv, rfl, .inr ⟨_, .inl h3⟩, _, rfl, _, rfl, by show 2 ≤ sizeLine; decide, fun T2 H2 s2 n2 e2 => ⟨_, DGet.t (k := mkey c a) (s2 _ _ h3) e2, ?_⟩⟩
    have hv := val_moves (pl := c) (c := a) h4
    cases hf : findM ms c a with
    | none =>
      rw [hf] at hv q
      have hv' : valV kk (mkey c a) = none := hv
      rw [hv']
      exact ⟨_, rfl, rfl, _, rfl, iteT (q H2 s2)⟩
    | some m =>
      rw [hf] at hv q
      obtain ⟨t, d, hv', ht, hd⟩ := hv
      rw [hv']
      refine ⟨_, rfl, rfl, _, rfl, iteF ⟨_, rfl, t, _, rfl, SqT.of (s2 _ _ ht), rfl, _, _, rfl, _, _, rfl, rfl, ?_⟩⟩
      refine ⟨_, rfl, _, rfl, d, fkv m.fl, rfl, .inl (s2 _ _ hd), fun d' n3 => ⟨by show 2 ≤ sizeLine; decide, fun t' H4 s4 n4 e4 => ?_⟩⟩
      have s24 := s2.trans ((same_upd n3).trans s4)
      exact q t' d' H4 s24 (s2.free ((same_upd (o := .dK (fkv m.fl)) n3).free n4)) (s2.free n3) e4 (s4 _ _ upd_same)
end
end Tb

set_option Elab.async false
set_option linter.all false
set_option maxRecDepth 100000
set_option maxHeartbeats 4000000
namespace Tb
open PySem PySem.Spec PyProof.Rows L2 TL
/-! ### drawn parts make a program -/
theorem isCap_low {c : Nat} (h : 65 ≤ c ∧ c ≤ 90) : isLow c = false := decide_eq_false (by omega)
theorem isFill_of {bs f : List Nat} (hb : ∀ c ∈ bs, 65 ≤ c ∧ c ≤ 90) (sg : ∀ c ∈ f, (97 ≤ c ∧ c ≤ 122) ∨ c ∈ bs) (one : ∀ b ∈ bs, f.count b ≤ 1) : isFill f bs = true := by
  have hc : ∀ c ∈ caps f, c ∈ bs := fun c hc => by
    obtain ⟨h1, h2⟩ := List.mem_filter.mp hc
    rcases sg c h1 with h | h
    · have : isLow c = true := decide_eq_true h
      rw [this] at h2
      cases h2
    · exact h
  refine isFill_iff.mpr ⟨List.nodup_iff_count.mpr fun c => ?_, hc⟩
  by_cases hm : c ∈ caps f
  · exact Nat.le_trans (List.Sublist.count_le _ List.filter_sublist) (one c (hc c hm))
  · rw [List.count_eq_zero.mpr hm]
    exact Nat.zero_le _
theorem FilOk.isFill {bs : List Nat} {fs : List (List Nat)} (h : FilOk bs fs) (hb : ∀ c ∈ bs, 65 ≤ c ∧ c ≤ 90) : isFill fs.flatten bs = true :=
  isFill_of hb (fun c hc => by
    obtain ⟨f, hf, hcf⟩ := List.mem_flatten.mp hc
    exact h.sg f hf c hcf) h.one
theorem GoodP.parts {pt : Pt} (g : GoodP pt) : PartsQ pt where
  le := by
    unfold okLetters
    rw [decide_eq_true g.l1, decide_eq_true g.l5, decide_eq_true g.ln, show pt.letters.all isLow = true from List.all_eq_true.mpr fun c hc => decide_eq_true (g.ll c hc)]
    rfl
  bo := by
    unfold okBoxes
    rw [decide_eq_true g.b6, decide_eq_true g.bn, show pt.boxes.all isCap = true from List.all_eq_true.mpr fun c hc => decide_eq_true (g.bb c hc)]
    rfl
  pl := by
    unfold okPlaces
    rw [decide_eq_true g.p1, decide_eq_true (Nat.le_trans g.p8 (by decide)), decide_eq_true g.pn, List.all_eq_true.mpr fun x hx => isName_iff.mpr (g.pp x hx)]
    rfl
  ky := g.ky
  mv := fun m hm => by
    obtain ⟨a, b, c, hk, hF⟩ := g.mv m hm
    refine ⟨a, b, c, ⟨?_, ?_, Nat.le_trans hF.len (by decide)⟩⟩
    · rw [hk]
      exact List.Pairwise.map _ (fun a b hab z => hab (by injection z)) g.bn
    · unfold okFils okKeys
      rw [hF.isFill g.bb, hk, List.all_eq_true.mpr fun c hc => decide_eq_true hc]
      rfl
  ek := g.ek
  en := fun q hq => by
    obtain ⟨a, hF⟩ := g.en q hq
    have h1 := hF.isFill g.bb
    have h2 := hF.len
    rw [show [q.2].flatten = q.2 by simp] at h1 h2
    exact ⟨a, h1, Nat.le_trans h2 (by decide)⟩
theorem PtAt.to_in {H : Hp} {L : Addr} {pt : Pt} (h : PtAt H L pt) : ∃ tp tm te, H L = some (.lst [.str (S pt.letters), .str (S pt.boxes), .ref tp, .ref tm, .ref te]) ∧ InAt H tp tm te pt := by
  obtain ⟨tp, tm, te, kvs, h1, h2, h3, h4, h5⟩ := h.ex
  exact ⟨tp, tm, te, h1, .inl h2, ⟨kvs, h3, Paired.mono (fun _ _ z => z.to_in) h4⟩, h5⟩
abbrev psInit : List Str := ["self", "letters", "boxes", "places", "moves", "ends"]
/-- the class's making, proved -/
structure Mkr (P : Program) (w : World) (K : PySem.W.Frag) (mg : Str → Option Value) (base : Heap) (C : Addr) (k : Nat) : Prop where
  ex : ∃ f fd, Mk K C f ∧ FnOk P w K mg base CX0 k f fd psInit (spInit C) ∧ Binds K fd psInit []
/-- Program(letters, boxes, places, moves, ends) -/
def tProg (C : Addr) (t : TA) : TE := fun σ H Q => t σ H fun vs H1 => ∃ (tp tm te : Addr) (pt : Pt), vs = [.str (S pt.letters), .str (S pt.boxes), .ref tp, .ref tm, .ref te] ∧ InAt H1 tp tm te pt ∧ PartsQ pt ∧
  ∀ p H', Same H1 H' → H1 p = none → PrNew C H1 H' p (sortN pt.letters) (sortN pt.boxes) pt.places (pt.moves.map keptM) pt.ends → Q (.ref p) H'
theorem PrNew.old {C : Addr} {H0 H1 H : Hp} {p : Addr} {L B : List Nat} {places : List (List Nat)} {ms : List Mv} {es : Fil} (s : ∀ a, H1 a = none → H0 a = none) (h : PrNew C H1 H p L B places ms es) : PrNew C H0 H p L B places ms es := by
  obtain ⟨dx, pl, mv, en, kk, h1, h2, h3, n1, h4, h5, n2⟩ := h.ob
  refine ⟨dx, pl, mv, en, kk, h1, h2, h3, s _ n1, Paired.mono (fun kv m z => ?_) h4, h5, s _ n2⟩
  obtain ⟨e, t, d, a, b, c, n⟩ := z
  exact ⟨e, t, d, a, b, c, s _ n⟩
theorem pe_prog {X : Cx} {C : Addr} {k j : Nat} {e : Expr} {es : List Expr} {t : TA} {p pos : Pos} (D : Mkr X.prog X.w X.K X.mg X.base C k) (hr : Room j X.A) (hm : X.mg "Program" = some (.ref C)) (ha : PA X (e :: es) t) (hk : k + 1 ≤ j := by omega) (hg : Gl X "Program" := by rfl)
    (he : starEach (e :: es) X.env = (false, eval e X.env) :: starEach es X.env := by rfl) (hpl : (backTo pos (starEach es X.env)).any (·.1) = false := by rfl) :
    PE X (.Call (.Name "Program" p) (e :: es) [] pos) (tProg C t) := by
  obtain ⟨f, fd, M, F, b⟩ := D.ex
  refine PE.weak (pe_make M F (hr.mono hk) hg hm b .nil pass0 (PA.mono ha) (by decide) he hpl) fun σ H Q z => ⟨_, z, fun vs H1 ⟨tp, tm, te, pt, ev, hin, hq, q⟩ x dx nx ndx ne => ?_⟩
  subst ev
  have s1 : Same H1 (upd (upd H1 dx (.own x)) x (.ins C dx [])) := fun b o eb => by
    rw [upd_ne (ne_of_none eb nx), upd_ne (ne_of_none eb ndx)]
    exact eb
  refine ⟨x, dx, tp, tm, te, pt, rfl, upd_same, hin.same s1, hq, fun H' hb hp => ⟨rfl, q x H' (fun b o eb => hb b o (s1 b o eb) (ne_of_none eb nx)) nx (hp.old fun a h => s1.free h)⟩⟩
section
variable {P : Program} {w : World} {K : PySem.W.Frag} {mg : Str → Option Value} {base : Heap}
def spMade (C : Addr) : Sp := fun vs H Q _ => ∃ (a : Addr) (pt : Pt), vs = [.ref a] ∧ (∃ tp tm te, H a = some (.lst [.str (S pt.letters), .str (S pt.boxes), .ref tp, .ref tm, .ref te]) ∧ InAt H tp tm te pt) ∧ PartsQ pt ∧
  ∀ p H', Same H H' → H p = none → PrNew C H H' p (sortN pt.letters) (sortN pt.boxes) pt.places (pt.moves.map keptM) pt.ends → Q (.ref p) H'
end
end Tb

set_option linter.all false
namespace Tb
open PySem PySem.Spec PyProof.Rows L2 TL
def optV : Option (List Nat) → V
  | none => .non
  | some x => .str (S x)
end Tb

set_option Elab.async false
set_option linter.all false
set_option maxRecDepth 100000
set_option maxHeartbeats 4000000
namespace Tb
open PySem PySem.Spec PyProof.Rows L2 TL
theorem sp_str : Str.ofString " " = S [32] := by decide +kernel
theorem flat_len (ws : List (List Nat)) : ((ws.map S).map (·.length)).sum = ws.flatten.length := len_fil ws
section
variable {P : Program} {w : World} {K : PySem.W.Frag} {mg : Str → Option Value} {base : Heap}
abbrev sLine : Stmt := topS 27
abbrev sPlaceLine : Stmt := topS 28
abbrev sMoveLine : Stmt := topS 29
theorem scLine : FnScope ["words"] ["words"] (defScope sLine) := ⟨rfl, rfl, rfl, by decide +kernel, rfl, by decide +kernel, by decide +kernel⟩
def spLine : Sp := fun vs H Q _ => ∃ (a : Addr) (ws : List (List Nat)), vs = [.ref a] ∧ H a = some (.lst (txs ws)) ∧ ws.flatten.length + ws.length ≤ 1000000 ∧ Q (.str (S (joinL [32] ws))) H
theorem ok_line {f : Addr} {fd : FuncData} {k : Nat} (F : Fun K "_line" "_line" sLine f fd) : FnOk P w K mg base CX0 (k + 1) f fd ["words"] spLine := by
  refine F.ok scLine (fun vs H Q E h => ?_) (fun cdv A outer s H vs Q E hr h => ?_)
  · obtain ⟨a, ws, rfl, _⟩ := h
    rfl
  · obtain ⟨a, ws, rfl, ha, hl, q⟩ := h
    refine ⟨_, pss_one (ps_ret (pe_join pe_str (pv 0))), ⟨_, rfl⟩, _, rfl, _, a, ws.map S, rfl, rfl, .inl (SqL.of ?_), ?_, ?_⟩
    · rw [ha]
      unfold txs
      rw [List.map_map]
      rfl
    · rw [flat_len, sp_str, len_S, List.length_map]
      show _ + _ * 1 ≤ _
      omega
    · rw [sp_str, join_S]
      exact q
/-! ### a place's line -/
theorem scPlaceLine : FnScope ["place", "end"] ["place", "end"] (defScope sPlaceLine) := ⟨rfl, rfl, rfl, by decide +kernel, rfl, by decide +kernel, by decide +kernel⟩
def placeW : List Nat := [112, 108, 97, 99, 101]
theorem place_str : Str.ofString "place" = S placeW := by decide +kernel
theorem dash_str : Str.ofString "-" = S [45] := by decide +kernel
def placeLine (c : List Nat) (e : Option (List Nat)) : List Nat := joinL [32] ([placeW, c] ++ match e with | none => [] | some f => [if f = [] then [45] else f])
def spPlaceLine : Sp := fun vs H Q _ => ∃ (c : List Nat) (e : Option (List Nat)), vs = [.str (S c), optV e] ∧ c.length ≤ 1000 ∧ (∀ f, e = some f → f.length ≤ 1000) ∧ ∀ H', Same H H' → Q (.str (S (placeLine c e))) H'
theorem ok_placeLine {f : Addr} {fd : FuncData} {k : Nat} (F : Fun K "_place_line" "_place_line" sPlaceLine f fd) (DL : Df P w K mg base (k + 1) "_line" ["words"] spLine) : FnOk P w K mg base CX0 (k + 2) f fd ["place", "end"] spPlaceLine := by
  refine F.ok scPlaceLine (fun vs H Q E h => ?_) (fun cdv A outer s H vs Q E hr h => ?_)
  · obtain ⟨c, e, rfl, _⟩ := h
    rfl
  · obtain ⟨c, e, rfl, hc, he, q⟩ := h
    refine ⟨_, pss_cons (ps_if (pt_cmpR op_isN (pv 1) pe_non (nomark _)) (pss_one (ps_ret (pe_df DL hr (pa_cons (pe_lstS (pa_cons pe_str (pa_cons (pv 0) pa_nil))) pa_nil)))) pss_nil)
      (pss_one (ps_ret (pe_df DL hr (pa_cons (pe_lstS (pa_cons pe_str (pa_cons (pv 0) (pa_cons (pe_ifExp (pt_cmpR op_eq (pv 1) pe_str (nomark _)) pe_str (pv 1)) pa_nil)))) pa_nil)))), ?_⟩
    cases e with
    | none =>
      refine ⟨_, rfl, rfl, _, rfl, iteT ⟨_, rfl, by show 2 ≤ sizeLine; decide, fun a H1 s1 n1 e1 => ⟨a, [placeW, c], rfl, by rw [e1, place_str]; rfl, ?_, q H1 s1⟩⟩⟩
      show (placeW ++ (c ++ [])).length + 2 ≤ _
      rw [List.append_nil, List.length_append]
      show 5 + _ + 2 ≤ _
      omega
    | some g =>
      have hg := he g rfl
      refine ⟨_, rfl, rfl, _, rfl, iteF ⟨_, rfl, _, rfl, rfl, _, rfl, ?_⟩⟩
      have fin : ∀ x : List Nat, x = (if g = [] then [45] else g) → (2 + 1 ≤ sizeLine ∧ New H (.lst [V.str (Str.ofString "place"), .str (S c), .str (S x)]) fun v H1 => spLine [v] H1 Q E0) := by
        intro x hx
        refine ⟨by decide, fun a H1 s1 n1 e1 => ⟨a, [placeW, c, x], rfl, by rw [e1, place_str]; rfl, ?_, ?_⟩⟩
        · have hxl : x.length ≤ 1000 := by
            rw [hx]
            split
            · decide
            · exact hg
          show (placeW ++ (c ++ (x ++ []))).length + 3 ≤ _
          rw [List.append_nil, List.length_append, List.length_append]
          show 5 + _ + 3 ≤ _
          omega
        · have := q H1 s1
          rw [hx]
          exact this
      rw [str_empty]
      by_cases h0 : g = []
      · subst h0
        have : decide (V.str (S []) = V.str (S [])) = true := decide_eq_true rfl
        show (if decide (V.str (S []) = V.str (S [])) = true then _ else _)
        rw [this]
        refine iteT ?_
        rw [dash_str]
        exact fin [45] rfl
      · have : decide (optV (some g) = V.str (S [])) = false := decide_eq_false fun z => h0 (by injection z with z; exact S_inj z)
        rw [this]
        refine iteF ⟨_, rfl, ?_⟩
        exact fin g (by rw [if_neg h0])
/-! ### a move's line -/
theorem eq_str : Str.ofString "=" = S [61] := by decide +kernel
def fillWord (q : List Nat × List Nat) : List Nat := q.1 ++ [61] ++ q.2
def moveLine (a : Nat) (to : List Nat) (fl : Fil) : List Nat := joinL [32] ([a] :: to :: fl.map fillWord)
abbrev nMoveLine : List Str := ["letter", "target", "fillings", "box", "filling"]
theorem scMoveLine : FnScope nMoveLine ["letter", "target", "fillings"] (defScope sMoveLine) := ⟨rfl, rfl, rfl, by decide +kernel, rfl, by decide +kernel, by decide +kernel⟩
def spMoveLine : Sp := fun vs H Q _ => ∃ (a : Nat) (to : List Nat) (fl : Fil) (d : Addr), vs = [.str (S [a]), .str (S to), .ref d] ∧ H d = some (.dK (fkv fl)) ∧ to.length ≤ 1000 ∧ fl.length ≤ 1000 ∧ (∀ q ∈ fl, q.1.length ≤ 1000 ∧ q.2.length ≤ 1000) ∧ (fl.map fillWord).flatten.length ≤ 100000 ∧ ∀ H', Same H H' → Q (.str (S (moveLine a to fl))) H'
theorem ok_moveLine {f : Addr} {fd : FuncData} {k : Nat} (F : Fun K "_move_line" "_move_line" sMoveLine f fd) (DL : Df P w K mg base (k + 1) "_line" ["words"] spLine) : FnOk P w K mg base CX0 (k + 2) f fd ["letter", "target", "fillings"] spMoveLine := by
  refine F.ok scMoveLine (fun vs H Q E h => ?_) (fun cdv A outer s H vs Q E hr h => ?_)
  · obtain ⟨a, to, fl, d, rfl, _⟩ := h
    rfl
  · obtain ⟨a, to, fl, d, rfl, hd, hto, hfl, hq, hw, q⟩ := h
    refine ⟨_, pss_one (ps_ret (pe_df DL hr (pa_cons (pe_op op_catS (pe_lstS (pa_cons (pv 0) (pa_cons (pv 1) pa_nil))) (pe_lock (pe_lc (own := [("box", 3), ("filling", 4)]) (g := gTup K 2 (gCons (gName 3) (gCons (gName 4) gNil))) (tt := tYes) (te := fun σ H Q => tJs [tFmt (tVar 3), tC (.str (Str.ofString "=")), tFmt (tVar 4)] Str.empty σ H fun out H1 => Q (.str out) H1) rfl scMoveLine.nd (pi_items (pv 2)) (blkOk_by (own := [("box", 3), ("filling", 4)]) (N := nMoveLine) (sc := defScope sMoveLine) (by decide +kernel))
        (fun _ _ _ _ _ => pg_tup rfl (pgs_cons (pg_name (i := 3) scMoveLine.nd rfl (.inl rfl)) (pgs_cons (pg_name (i := 4) scMoveLine.nd rfl (.inl rfl)) pgs_nil))) (fun _ _ _ _ _ => pts_nil) (fun _ _ _ _ _ => pe_joined (.cons (pe_fmt (pv 3)) (.cons pe_str (.cons (pe_fmt (pv 4)) .nil))))))) pa_nil))), ?_⟩
    have big : (10000 : Nat) ≤ sizeLine := by decide
    refine ⟨_, rfl, _, rfl, by show 2 ≤ sizeLine; decide, fun L H1 s1 n1 e1 => ?_⟩
    have hd1 := s1 _ _ hd
    have nLd : L ≠ d := fun z => by rw [z, hd1] at e1; cases e1
    refine ⟨d, _, hd1, trivial, fun od => ⟨_, rfl, d, od, fkv fl, rfl, upd_same, fun D nD => ?_⟩⟩
    have nDd : D ≠ d := fun z => by rw [z, upd_same] at nD; cases nD
    have hdl : (upd H1 d (.frz od (.dK (fkv fl)))) d = some (.frz od (.dK (fkv fl))) := upd_same
    generalize hHl : upd H1 d (.frz od (.dK (fkv fl))) = Hl at nD hdl
    refine lc_it (g := gTup K 2 (gCons (gName 3) (gCons (gName 4) gNil))) (tt := tYes) (te := fun σ H Q => tJs [tFmt (tVar 3), tC (.str (Str.ofString "=")), tFmt (tVar 4)] Str.empty σ H fun out H1 => Q (.str out) H1) (vs := [3, 4]) walk_items (fun i Hc => Same Hl Hc ∧ Hc D = some (.lst (txs ((fl.take i).map fillWord)))) ⟨same_upd nD, upd_same⟩ (fun i Hc _ h => h.1 _ _ hdl) ?_ ?_
    · rintro i x Hc Hc' hi ⟨sc, eD⟩ ⟨T1, x1, x2, rfl, nT, rfl, hx1, hx2⟩
      have hx1 : ((fkv fl)[i]?.map fun z => kV z.1) = some x1 := hx1
      have hx2 : (fkv fl)[i]?.map Prod.snd = some x2 := hx2
      have lf : (fkv fl).length = fl.length := List.length_map _
      obtain ⟨c, hc⟩ : ∃ c, fl[i]? = some c := ⟨fl[i]'(by omega), List.getElem?_eq_getElem (by omega)⟩
      have hkv : (fkv fl)[i]? = some (Sum.inr (S c.1), .str (S c.2)) := by
        unfold fkv
        rw [List.getElem?_map, hc]
        rfl
      rw [hkv] at hx1 hx2
      have e1x : x1 = .str (S c.1) := (Option.some.inj hx1).symm
      have e2x : x2 = .str (S c.2) := (Option.some.inj hx2).symm
      subst e1x e2x
      obtain ⟨h1, h2⟩ := hq c (List.mem_of_getElem? hc)
      have sm := same_upd (o := .tup [.str (S c.1), .str (S c.2)]) nT
      refine ⟨T1, _, rfl, SqT.of upd_same, rfl, _, _, rfl, _, _, rfl, rfl, rfl, tYes_if ?_⟩
      have e0 : Str.empty ++ S c.1 = S c.1 := by
        show S [] ++ S c.1 = _
        rw [S_app]
        rfl
      refine ⟨_, rfl, .inl ⟨S c.1, rfl, by rw [len_S]; omega, S c.1, rfl, by rw [e0, len_S]; omega, Str.ofString "=", rfl, by rw [e0, eq_str, S_app, len_S, List.length_append]; show _ + 1 ≤ _; omega, ?_⟩⟩
      refine ⟨_, rfl, .inl ⟨S c.2, rfl, by rw [len_S]; omega, S c.2, rfl, by rw [e0, eq_str, S_app, S_app, len_S, List.length_append, List.length_append]; show _ + 1 + _ ≤ _; omega, ?_⟩⟩
      rw [e0, eq_str, S_app, S_app]
      refine ⟨_, sm _ _ eD, ?_, fun b o eb => ?_, ?_⟩
      · unfold txs
        rw [List.length_map, List.length_map, List.length_take]
        omega
      · rw [upd_ne (ne_of_none eb nD)]
        exact sm _ _ (sc _ _ eb)
      · rw [upd_same, List.take_add_one, hc]
        unfold txs
        simp only [List.map_append]
        rfl
    · rintro Hc ⟨sc, eD⟩
      have lf : (fkv fl).length = fl.length := List.length_map _
      rw [lf, List.take_length] at eD
      have sH : Same H1 (upd Hc d (.dK (fkv fl))) := same_unlock hd1 (by rw [hHl]; exact sc)
      refine ⟨sc _ _ hdl, L, D, _, _, _, rfl, rfl, sH _ _ e1, by rw [upd_ne nDd]; exact eD, ?_, rfl, fun R H4 s4 n4 e4 => ?_⟩
      · unfold txs
        rw [List.length_map, List.length_map]
        show 2 + _ ≤ _
        omega
      · refine ⟨R, [a] :: to :: fl.map fillWord, rfl, by rw [e4]; rfl, ?_, q H4 ((s1.trans sH).trans s4)⟩
        have lm : (fl.map fillWord).length = fl.length := List.length_map _
        rw [List.flatten_cons, List.flatten_cons, List.length_append, List.length_append, List.length_cons, List.length_cons, List.length_cons, lm]
        show 0 + 1 + (to.length + _) + _ ≤ _
        omega
end
end Tb

set_option Elab.async false
set_option linter.all false
set_option maxRecDepth 100000
set_option maxHeartbeats 4000000
namespace Tb
open PySem PySem.Spec PyProof.Rows L2 TL
/-! ### a program's text -/
def lettersW : List Nat := [108, 101, 116, 116, 101, 114, 115]
def boxesW : List Nat := [98, 111, 120, 101, 115]
theorem letters_str : Str.ofString "letters" = S lettersW := by decide +kernel
theorem boxes_str : Str.ofString "boxes" = S boxesW := by decide +kernel
theorem nl_str : Str.ofString "\n" = S [10] := by decide +kernel
def moveLines (ms : List Mv) (c : List Nat) (L : List Nat) : List (List Nat) := L.filterMap fun a => (findM ms c a).map fun m => moveLine a m.to m.fl
def blockW (L : List Nat) (ms : List Mv) (es : Fil) (c : List Nat) : List (List Nat) := placeLine c (getF es c) :: moveLines ms c L
def headW (L B : List Nat) : List (List Nat) := [joinL [32] [lettersW, L], joinL [32] (if B = [] then [boxesW] else [boxesW, B])]
def textW (L B : List Nat) (places : List (List Nat)) (ms : List Mv) (es : Fil) : List Nat := joinL [10] (headW L B ++ places.flatMap (blockW L ms es))
theorem joinL_len (s : List Nat) : ∀ l : List (List Nat), (joinL s l).length ≤ l.flatten.length + l.length * s.length
  | [] => Nat.zero_le _
  | [p] => by simp [joinL]
  | p :: q :: r => by
    have ih := joinL_len s (q :: r)
    show (p ++ (s ++ joinL s (q :: r))).length ≤ _
    rw [List.length_append, List.length_append, List.flatten_cons, List.length_append]
    rw [List.length_cons (a := p), Nat.succ_mul]
    omega
theorem placeLine_len {c : List Nat} {e : Option (List Nat)} (hc : c.length ≤ 8) (he : ∀ f, e = some f → f.length ≤ 1000) : (placeLine c e).length ≤ 1100 := by
  unfold placeLine
  refine Nat.le_trans (joinL_len _ _) ?_
  cases e with
  | none =>
    show (placeW ++ (c ++ [])).length + 2 * 1 ≤ _
    rw [List.append_nil, List.length_append]
    show 5 + _ + _ ≤ _
    omega
  | some f =>
    have hf := he f rfl
    show (placeW ++ (c ++ ((if f = [] then [45] else f) ++ []))).length + 3 * 1 ≤ _
    rw [List.append_nil, List.length_append, List.length_append]
    have : (if f = [] then [45] else f).length ≤ 1000 := by
      split
      · decide
      · exact hf
    show 5 + (_ + _) + _ ≤ _
    omega
theorem moveLine_len {a : Nat} {to : List Nat} {fl : Fil} (ht : to.length ≤ 8) (h1 : fl.length ≤ 6) (h2 : (fl.map fillWord).flatten.length ≤ 2000) : (moveLine a to fl).length ≤ 3000 := by
  unfold moveLine
  refine Nat.le_trans (joinL_len _ _) ?_
  have lm : (fl.map fillWord).length = fl.length := List.length_map _
  rw [List.flatten_cons, List.flatten_cons, List.length_append, List.length_append, List.length_cons, List.length_cons, List.length_cons, lm]
  show 0 + 1 + (to.length + _) + (_ + 1 + 1) * 1 ≤ _
  omega
theorem moveLines_snoc (ms : List Mv) (c l : List Nat) (a : Nat) : moveLines ms c (l ++ [a]) = moveLines ms c l ++ (match findM ms c a with | none => [] | some m => [moveLine a m.to m.fl]) := by
  unfold moveLines
  rw [List.filterMap_append]
  congr 1
  cases h : findM ms c a <;> simp [h]
section
variable {P : Program} {w : World} {K : PySem.W.Frag} {mg : Str → Option Value} {base : Heap}
abbrev nText : List Str := ["self", "lines", "place", "letter", "found", "target", "fillings"]
theorem scText : FnScope nText ["self"] (defScope sText) := ⟨rfl, rfl, rfl, by decide +kernel, rfl, by decide +kernel, by decide +kernel⟩
structure TxOk (L B : List Nat) (places : List (List Nat)) (ms : List Mv) (es : Fil) : Prop where
  l : L.length ≤ 5
  b : B.length ≤ 6
  p : places.length ≤ 50
  c : ∀ x ∈ places, x.length ≤ 8
  e : ∀ c f, getF es c = some f → f.length ≤ 1000
  to : ∀ m ∈ ms, m.to.length ≤ 8
  fl : ∀ m ∈ ms, m.fl.length ≤ 6 ∧ (∀ q ∈ m.fl, q.1.length ≤ 1000 ∧ q.2.length ≤ 1000) ∧ (m.fl.map fillWord).flatten.length ≤ 2000
def spText (C : Addr) : Sp := fun vs H Q _ => ∃ (p : Addr) (L B : List Nat) (places : List (List Nat)) (ms : List Mv) (es : Fil), vs = [.ref p] ∧ PrAt C H p L B places ms es ∧ TxOk L B places ms es ∧ ∀ H', Same H H' → Q (.str (S (textW L B places ms es))) H'
theorem headLen2 (B : List Nat) : (if B = [] then [boxesW] else [boxesW, B]).flatten.length ≤ 5 + B.length ∧ (if B = [] then [boxesW] else [boxesW, B]).length ≤ 2 := by
  by_cases h : B = []
  · rw [if_pos h]
    exact ⟨Nat.le_add_right _ _, Nat.le_succ _⟩
  · rw [if_neg h]
    refine ⟨?_, Nat.le_refl _⟩
    show (boxesW ++ (B ++ [])).length ≤ _
    rw [List.append_nil, List.length_append]
    exact Nat.le_refl _

theorem ok_text {f C : Addr} {fd : FuncData} {k : Nat} (F : Fun K "text" "Program.text" sText f fd) (T : PrTxt K mg C) (DL : Df P w K mg base (k + 1) "_line" ["words"] spLine) (DP : Df P w K mg base (k + 2) "_place_line" ["place", "end"] spPlaceLine) (DM : Df P w K mg base (k + 2) "_move_line" ["letter", "target", "fillings"] spMoveLine)
    (DE : Mth P w K mg base C (k + 1) "end" ["place"] (spEnd C)) (DMo : Mth P w K mg base C (k + 1) "move" ["place", "letter"] (spMove C)) : FnOk P w K mg base CX0 (k + 3) f fd ["self"] (spText C) := by
  refine F.ok scText (fun vs H Q E h => ?_) (fun cdv A outer s H vs Q E hr h => ?_)
  · obtain ⟨p, L, B, places, ms, es, rfl, _⟩ := h
    rfl
  · obtain ⟨p, L, B, places, ms, es, rfl, hp, G, q⟩ := h
    obtain ⟨dx, pl, mv, en, kk, h1, h2, h3, h4, h5⟩ := id hp.ob
    refine ⟨_, (pss_cons (ps_set (i := 1) scText.nd rfl (.inl rfl) (pe_lstS (pa_cons (pe_df DL hr (pa_cons (pe_lstS (pa_cons pe_str (pa_cons (pe_fld (pv 0) rfl) pa_nil))) pa_nil)) (pa_cons (pe_df DL hr (pa_cons (pe_ifExp (pt_truth (pe_fld (pv 0) rfl) (fun _ => rfl)) (pe_lstS (pa_cons pe_str (pa_cons (pe_fld (pv 0) rfl) pa_nil))) (pe_lstS (pa_cons pe_str pa_nil))) pa_nil)) pa_nil)))) (pss_cons (ps_for PassesOwn.never rfl (pi_tup (pe_fld (pv 0) rfl)) (pg_name (i := 2) scText.nd rfl (.inl rfl)) (pss_cons (ps_expr (pe_bm PySem.F.plainAttrs_list PySem.F.slot_list_append PySem.F.type_list_append mt_append (pv 1) (pa_cons (pe_df DP hr (pa_cons (pv 2) (pa_cons (pe_mth DE T.cl hr (pv 0) (pa_cons (pv 2) pa_nil)) pa_nil))) pa_nil))) (pss_one (ps_for PassesOwn.never rfl (pi_str (pe_fld (pv 0) rfl)) (pg_name (i := 3) scText.nd rfl (.inl rfl)) (pss_cons (ps_set (i := 4) scText.nd rfl (.inl rfl) (pe_mth DMo T.cl hr (pv 0) (pa_cons (pv 2) (pa_cons (pv 3) pa_nil)))) (pss_one (ps_if (pt_cmpR op_notN (pv 4) pe_non (nomark _)) (pss_cons (ps_asg (pv 4) (pg_tup rfl (pgs_cons (pg_name (i := 5) scText.nd rfl (.inl rfl)) (pgs_cons (pg_name (i := 6) scText.nd rfl (.inl rfl)) pgs_nil)))) (pss_one (ps_expr (pe_bm PySem.F.plainAttrs_list PySem.F.slot_list_append PySem.F.type_list_append mt_append (pv 1) (pa_cons (pe_df DM hr (pa_cons (pv 3) (pa_cons (pv 5) (pa_cons (pv 6) pa_nil)))) pa_nil))))) pss_nil))))))) (pss_one (ps_ret (pe_join pe_str (pv 1)))))), ?_⟩
    have big : (1000000 : Nat) ≤ sizeLine := by rw [sizeLine_eq]; decide
    have same := fun (H' : Hp) (s' : Same H H') => s' _ _ h1
    -- the head
    refine ⟨_, rfl, p, C, dx, _, _, rfl, h1, T.cl, T.nL, fl_l _ _ _ _ _, by show 2 ≤ sizeLine; omega, fun a1 H1 s1 n1 e1 => ⟨a1, [lettersW, L], rfl, by rw [e1, letters_str]; rfl, ?_, ?_⟩⟩
    · have := G.l
      show (lettersW ++ (L ++ [])).length + 2 ≤ _
      rw [List.append_nil, List.length_append]
      show 7 + _ + 2 ≤ _
      omega
    refine ⟨_, rfl, p, C, dx, _, _, rfl, s1 _ _ h1, T.cl, T.nB, fl_b _ _ _ _ _, _, ⟨by rw [len_S]; have := G.b; omega, rfl⟩, ?_⟩
    have hk : (((S B).length : Int) != 0) = decide (B ≠ []) := by
      rw [len_S]
      cases B with
      | nil => rfl
      | cons x r =>
        rw [decide_eq_true (List.cons_ne_nil _ _), bne_iff_ne]
        rw [List.length_cons]
        omega
    rw [hk]
    have lB := G.b
    by_cases hB : B = []
    · rw [decide_eq_false (fun z => z hB)]
      refine iteF ⟨by show 1 ≤ sizeLine; omega, fun a2 H2 s2 n2 e2 => ⟨a2, [boxesW], rfl, by rw [e2, boxes_str]; rfl, by decide, by show 2 ≤ sizeLine; omega, fun g H3 s3 n3 e3 => ?_⟩⟩
      have e3' : H3 g = some (.lst (txs (headW L B))) := by
        rw [e3]
        unfold headW
        rw [if_pos hB]
        rfl
      have sA := s1.trans s2
      have sB := s3
      have nB := n3
      have e3 := e3'
      have s0 := sA.trans sB
      have nHg : H g = none := sA.free nB
      have up : ∀ {H' : Hp} {o : HO}, Same H H' → Same H (upd H' g o) := fun s' b o eb => by
        rw [upd_ne (ne_of_none eb nHg)]
        exact s' _ _ eb
      refine ⟨_, rfl, p, C, dx, _, _, rfl, s0 _ _ h1, T.cl, T.nP, fl_p _ _ _ _ _, pl, rfl, ⟨_, SqT.of (s0 _ _ h2)⟩, for_it (walk_tup (K := K) (a := pl) (xs := txs places)) (fun i σ H' => ∃ (v2 v3 v4 v5 v6 : Option V) (ls : List (List Nat)), σ = [some (.ref p), some (.ref g), v2, v3, v4, v5, v6] ∧ Same H H' ∧ H' g = some (.lst (txs ls)) ∧ ls = headW L B ++ (places.take i).flatMap (blockW L ms es) ∧ ls.length ≤ 2 + 6 * i ∧ ls.flatten.length ≤ 100 + 20000 * i)
        ⟨none, none, none, none, none, headW L B, rfl, s0, e3, by simp, Nat.le_refl _, ?_⟩ (fun i σ H' _ ⟨_, _, _, _, _, _, _, s', _⟩ => SqT.of (s' _ _ h2)) ?_ ?_⟩
      · have l1 := G.l
        have l2 := G.b
        have j1 := joinL_len [32] [lettersW, L]
        have j2 := joinL_len [32] (if B = [] then [boxesW] else [boxesW, B])
        have k1 : ([lettersW, L] : List (List Nat)).flatten.length = 7 + L.length := by
          show (lettersW ++ (L ++ [])).length = _
          rw [List.append_nil, List.length_append]
          rfl
        have k2 := headLen2 B
        have k3 : ([lettersW, L] : List (List Nat)).length * ([32] : List Nat).length = 2 := rfl
        have k4 : ([32] : List Nat).length = 1 := rfl
        show (joinL [32] [lettersW, L] ++ (joinL [32] (if B = [] then [boxesW] else [boxesW, B]) ++ [])).length ≤ _
        rw [List.append_nil, List.length_append]
        rw [k4, Nat.mul_one] at j2
        omega
      · rintro i x σ H4 H4' hi ⟨v2, v3, v4, v5, v6, ls, rfl, s4, e4, hls, hn, hw⟩ ⟨rfl, hx⟩
        obtain ⟨c, hc, rfl⟩ : ∃ c, places[i]? = some c ∧ x = V.str (S c) := by
          unfold txs at hx
          rw [List.getElem?_map] at hx
          cases z : places[i]? with
          | none =>
            rw [z] at hx
            cases hx
          | some c =>
            rw [z] at hx
            exact ⟨c, rfl, (Option.some.inj hx).symm⟩
        have hcl := G.c c (List.mem_of_getElem? hc)
        have hi50 : i < 50 := by
          have := (List.getElem?_eq_some_iff.mp hc).1
          have := G.p
          omega
        have he := G.e c
        have lpl := placeLine_len hcl he
        have hval : (match getF es c with | none => V.non | some f => .str (S f)) = optV (getF es c) := by cases getF es c <;> rfl
        refine ⟨_, rfl, .inl ⟨rfl, _, SqL.of e4⟩, _, rfl, _, rfl, p, dx, _, rfl, s4 _ _ h1, fl_no _ _ _ _ _ (by decide +kernel), _, rfl, p, c, L, B, places, ms, es, rfl, hp.same s4, c, getF es c, by cases getF es c <;> rfl, by omega, he, fun H5 s5 => ⟨g, _, _, rfl, rfl, s5 _ _ e4, ?_, ?_⟩⟩
        · unfold txs
          rw [List.length_map]
          omega
        have e5 : (upd H5 g (.lst (txs ls ++ [.str (S (placeLine c (getF es c)))]))) g = some (.lst (txs (ls ++ [placeLine c (getF es c)]))) := by
          rw [upd_same]
          unfold txs
          rw [List.map_append]
          rfl
        have s5' := up (o := .lst (txs ls ++ [.str (S (placeLine c (getF es c)))])) (s4.trans s5)
        generalize upd H5 g (.lst (txs ls ++ [.str (S (placeLine c (getF es c)))])) = H5' at e5 s5'
        refine ⟨_, rfl, p, C, dx, _, _, rfl, s5' _ _ h1, T.cl, T.nL, fl_l _ _ _ _ _, S L, rfl, for_it (walk_str (z := S L)) (fun j σ H' => ∃ (v3 v4 v5 v6 : Option V) (l2 : List (List Nat)), σ = [some (.ref p), some (.ref g), some (.str (S c)), v3, v4, v5, v6] ∧ Same H H' ∧ H' g = some (.lst (txs l2)) ∧ l2 = ls ++ [placeLine c (getF es c)] ++ moveLines ms c (L.take j) ∧ l2.length ≤ ls.length + 1 + j ∧ l2.flatten.length ≤ ls.flatten.length + 1100 + 3000 * j)
          ⟨v3, v4, v5, v6, _, rfl, s5', e5, (List.append_nil _).symm, by rw [List.length_append]; exact Nat.le_refl _, by rw [List.flatten_append, List.length_append]; show _ + (placeLine c (getF es c) ++ []).length ≤ _; rw [List.append_nil]; omega⟩ (fun _ _ _ _ _ => trivial) ?_ ?_⟩
        · rintro j x σ H6 H6' hj ⟨w3, w4, w5, w6, l2, rfl, s6, e6, hl2, hn2, hw2⟩ ⟨rfl, a, ha, rfl⟩
          have ha' : L[j]? = some a := by
            rw [show (S L).cps = L.toArray from rfl, List.getElem?_toArray] at ha
            exact ha
          have hj5 : j < 5 := by
            have := (List.getElem?_eq_some_iff.mp ha').1
            have := G.l
            omega
          have et : L.take (j + 1) = L.take j ++ [a] := by
            rw [List.take_add_one, ha']
            rfl
          refine ⟨_, rfl, p, dx, _, rfl, s6 _ _ h1, fl_no _ _ _ _ _ (by decide +kernel), _, rfl, _, rfl, p, c, a, L, B, places, ms, es, rfl, hp.same s6, ?_⟩
          cases hf : findM ms c a with
          | none =>
            intro H7 s7
            refine ⟨_, rfl, rfl, _, rfl, iteF ⟨_, _, _, _, l2, rfl, s6.trans s7, s7 _ _ e6, ?_, by omega, by omega⟩⟩
            rw [hl2, et, moveLines_snoc, hf, List.append_nil]
          | some m =>
            intro t d H7 s7 n7 n8 e7 e8
            have hm : m ∈ ms := by
              unfold findM at hf
              exact List.mem_of_find?_eq_some hf
            obtain ⟨m1, m2, m3⟩ := G.fl m hm
            have m4 := G.to m hm
            have lml := moveLine_len (a := a) m4 m1 m3
            refine ⟨_, rfl, rfl, _, rfl, iteT ⟨_, rfl, t, _, rfl, SqT.of e7, rfl, _, _, rfl, _, _, rfl, rfl, ?_⟩⟩
            refine ⟨_, rfl, .inl ⟨rfl, _, SqL.of (s7 _ _ e6)⟩, _, rfl, _, rfl, _, rfl, a, m.to, m.fl, d, rfl, e8, by omega, by omega, m2, by omega, fun H8 s8 => ⟨g, _, _, rfl, rfl, s8 _ _ (s7 _ _ e6), ?_, ?_⟩⟩
            · unfold txs
              rw [List.length_map]
              omega
            · refine ⟨_, _, _, _, l2 ++ [moveLine a m.to m.fl], rfl, up ((s6.trans s7).trans s8), ?_, ?_, ?_, ?_⟩
              · rw [upd_same]
                unfold txs
                rw [List.map_append]
                rfl
              · rw [hl2, et, moveLines_snoc, hf]
                simp [List.append_assoc]
              · rw [List.length_append]
                show _ + 1 ≤ _
                omega
              · rw [List.flatten_append, List.length_append]
                show _ + (moveLine a m.to m.fl ++ []).length ≤ _
                rw [List.append_nil]
                omega
        · rintro σ H6 ⟨w3, w4, w5, w6, l2, rfl, s6, e6, hl2, hn2, hw2⟩
          have lsz : (S L).cps.size = L.length := rfl
          rw [lsz] at hl2 hn2 hw2
          rw [List.take_length] at hl2
          have lL := G.l
          refine ⟨_, _, _, _, _, l2, rfl, s6, e6, ?_, by omega, by omega⟩
          rw [hl2, hls, List.take_add_one, hc]
          simp [blockW, List.append_assoc]
      · rintro σ H4 ⟨v2, v3, v4, v5, v6, ls, rfl, s4, e4, hls, hn, hw⟩
        have lt' : (txs places).length = places.length := List.length_map _
        have lp := G.p
        rw [lt'] at hls hn hw
        rw [List.take_length] at hls
        refine ⟨⟨_, rfl⟩, _, rfl, _, g, ls.map S, rfl, rfl, .inl (SqL.of ?_), ?_, ?_⟩
        · rw [e4]
          unfold txs
          rw [List.map_map]
          rfl
        · rw [flat_len, nl_str, len_S, List.length_map]
          show _ + _ * 1 ≤ _
          omega
        · rw [nl_str, join_S, hls]
          exact q H4 s4
    · rw [decide_eq_true hB]
      refine iteT ⟨_, rfl, p, C, dx, _, _, rfl, s1 _ _ h1, T.cl, T.nB, fl_b _ _ _ _ _, by show 2 ≤ sizeLine; omega, fun a2 H2 s2 n2 e2 => ⟨a2, [boxesW, B], rfl, by rw [e2, boxes_str]; rfl, ?_, by show 2 ≤ sizeLine; omega, fun g H3 s3 n3 e3 => ?_⟩⟩
      · show (boxesW ++ (B ++ [])).length + 2 ≤ _
        rw [List.append_nil, List.length_append]
        show 5 + _ + 2 ≤ _
        omega
      have e3' : H3 g = some (.lst (txs (headW L B))) := by
        rw [e3]
        unfold headW
        rw [if_neg hB]
        rfl
      have sA := s1.trans s2
      have sB := s3
      have nB := n3
      have e3 := e3'
      have s0 := sA.trans sB
      have nHg : H g = none := sA.free nB
      have up : ∀ {H' : Hp} {o : HO}, Same H H' → Same H (upd H' g o) := fun s' b o eb => by
        rw [upd_ne (ne_of_none eb nHg)]
        exact s' _ _ eb
      refine ⟨_, rfl, p, C, dx, _, _, rfl, s0 _ _ h1, T.cl, T.nP, fl_p _ _ _ _ _, pl, rfl, ⟨_, SqT.of (s0 _ _ h2)⟩, for_it (walk_tup (K := K) (a := pl) (xs := txs places)) (fun i σ H' => ∃ (v2 v3 v4 v5 v6 : Option V) (ls : List (List Nat)), σ = [some (.ref p), some (.ref g), v2, v3, v4, v5, v6] ∧ Same H H' ∧ H' g = some (.lst (txs ls)) ∧ ls = headW L B ++ (places.take i).flatMap (blockW L ms es) ∧ ls.length ≤ 2 + 6 * i ∧ ls.flatten.length ≤ 100 + 20000 * i)
        ⟨none, none, none, none, none, headW L B, rfl, s0, e3, by simp, Nat.le_refl _, ?_⟩ (fun i σ H' _ ⟨_, _, _, _, _, _, _, s', _⟩ => SqT.of (s' _ _ h2)) ?_ ?_⟩
      · have l1 := G.l
        have l2 := G.b
        have j1 := joinL_len [32] [lettersW, L]
        have j2 := joinL_len [32] (if B = [] then [boxesW] else [boxesW, B])
        have k1 : ([lettersW, L] : List (List Nat)).flatten.length = 7 + L.length := by
          show (lettersW ++ (L ++ [])).length = _
          rw [List.append_nil, List.length_append]
          rfl
        have k2 := headLen2 B
        have k3 : ([lettersW, L] : List (List Nat)).length * ([32] : List Nat).length = 2 := rfl
        have k4 : ([32] : List Nat).length = 1 := rfl
        show (joinL [32] [lettersW, L] ++ (joinL [32] (if B = [] then [boxesW] else [boxesW, B]) ++ [])).length ≤ _
        rw [List.append_nil, List.length_append]
        rw [k4, Nat.mul_one] at j2
        omega
      · rintro i x σ H4 H4' hi ⟨v2, v3, v4, v5, v6, ls, rfl, s4, e4, hls, hn, hw⟩ ⟨rfl, hx⟩
        obtain ⟨c, hc, rfl⟩ : ∃ c, places[i]? = some c ∧ x = V.str (S c) := by
          unfold txs at hx
          rw [List.getElem?_map] at hx
          cases z : places[i]? with
          | none =>
            rw [z] at hx
            cases hx
          | some c =>
            rw [z] at hx
            exact ⟨c, rfl, (Option.some.inj hx).symm⟩
        have hcl := G.c c (List.mem_of_getElem? hc)
        have hi50 : i < 50 := by
          have := (List.getElem?_eq_some_iff.mp hc).1
          have := G.p
          omega
        have he := G.e c
        have lpl := placeLine_len hcl he
        have hval : (match getF es c with | none => V.non | some f => .str (S f)) = optV (getF es c) := by cases getF es c <;> rfl
        refine ⟨_, rfl, .inl ⟨rfl, _, SqL.of e4⟩, _, rfl, _, rfl, p, dx, _, rfl, s4 _ _ h1, fl_no _ _ _ _ _ (by decide +kernel), _, rfl, p, c, L, B, places, ms, es, rfl, hp.same s4, c, getF es c, by cases getF es c <;> rfl, by omega, he, fun H5 s5 => ⟨g, _, _, rfl, rfl, s5 _ _ e4, ?_, ?_⟩⟩
        · unfold txs
          rw [List.length_map]
          omega
        have e5 : (upd H5 g (.lst (txs ls ++ [.str (S (placeLine c (getF es c)))]))) g = some (.lst (txs (ls ++ [placeLine c (getF es c)]))) := by
          rw [upd_same]
          unfold txs
          rw [List.map_append]
          rfl
        have s5' := up (o := .lst (txs ls ++ [.str (S (placeLine c (getF es c)))])) (s4.trans s5)
        generalize upd H5 g (.lst (txs ls ++ [.str (S (placeLine c (getF es c)))])) = H5' at e5 s5'
        refine ⟨_, rfl, p, C, dx, _, _, rfl, s5' _ _ h1, T.cl, T.nL, fl_l _ _ _ _ _, S L, rfl, for_it (walk_str (z := S L)) (fun j σ H' => ∃ (v3 v4 v5 v6 : Option V) (l2 : List (List Nat)), σ = [some (.ref p), some (.ref g), some (.str (S c)), v3, v4, v5, v6] ∧ Same H H' ∧ H' g = some (.lst (txs l2)) ∧ l2 = ls ++ [placeLine c (getF es c)] ++ moveLines ms c (L.take j) ∧ l2.length ≤ ls.length + 1 + j ∧ l2.flatten.length ≤ ls.flatten.length + 1100 + 3000 * j)
          ⟨v3, v4, v5, v6, _, rfl, s5', e5, (List.append_nil _).symm, by rw [List.length_append]; exact Nat.le_refl _, by rw [List.flatten_append, List.length_append]; show _ + (placeLine c (getF es c) ++ []).length ≤ _; rw [List.append_nil]; omega⟩ (fun _ _ _ _ _ => trivial) ?_ ?_⟩
        · rintro j x σ H6 H6' hj ⟨w3, w4, w5, w6, l2, rfl, s6, e6, hl2, hn2, hw2⟩ ⟨rfl, a, ha, rfl⟩
          have ha' : L[j]? = some a := by
            rw [show (S L).cps = L.toArray from rfl, List.getElem?_toArray] at ha
            exact ha
          have hj5 : j < 5 := by
            have := (List.getElem?_eq_some_iff.mp ha').1
            have := G.l
            omega
          have et : L.take (j + 1) = L.take j ++ [a] := by
            rw [List.take_add_one, ha']
            rfl
          refine ⟨_, rfl, p, dx, _, rfl, s6 _ _ h1, fl_no _ _ _ _ _ (by decide +kernel), _, rfl, _, rfl, p, c, a, L, B, places, ms, es, rfl, hp.same s6, ?_⟩
          cases hf : findM ms c a with
          | none =>
            intro H7 s7
            refine ⟨_, rfl, rfl, _, rfl, iteF ⟨_, _, _, _, l2, rfl, s6.trans s7, s7 _ _ e6, ?_, by omega, by omega⟩⟩
            rw [hl2, et, moveLines_snoc, hf, List.append_nil]
          | some m =>
            intro t d H7 s7 n7 n8 e7 e8
            have hm : m ∈ ms := by
              unfold findM at hf
              exact List.mem_of_find?_eq_some hf
            obtain ⟨m1, m2, m3⟩ := G.fl m hm
            have m4 := G.to m hm
            have lml := moveLine_len (a := a) m4 m1 m3
            refine ⟨_, rfl, rfl, _, rfl, iteT ⟨_, rfl, t, _, rfl, SqT.of e7, rfl, _, _, rfl, _, _, rfl, rfl, ?_⟩⟩
            refine ⟨_, rfl, .inl ⟨rfl, _, SqL.of (s7 _ _ e6)⟩, _, rfl, _, rfl, _, rfl, a, m.to, m.fl, d, rfl, e8, by omega, by omega, m2, by omega, fun H8 s8 => ⟨g, _, _, rfl, rfl, s8 _ _ (s7 _ _ e6), ?_, ?_⟩⟩
            · unfold txs
              rw [List.length_map]
              omega
            · refine ⟨_, _, _, _, l2 ++ [moveLine a m.to m.fl], rfl, up ((s6.trans s7).trans s8), ?_, ?_, ?_, ?_⟩
              · rw [upd_same]
                unfold txs
                rw [List.map_append]
                rfl
              · rw [hl2, et, moveLines_snoc, hf]
                simp [List.append_assoc]
              · rw [List.length_append]
                show _ + 1 ≤ _
                omega
              · rw [List.flatten_append, List.length_append]
                show _ + (moveLine a m.to m.fl ++ []).length ≤ _
                rw [List.append_nil]
                omega
        · rintro σ H6 ⟨w3, w4, w5, w6, l2, rfl, s6, e6, hl2, hn2, hw2⟩
          have lsz : (S L).cps.size = L.length := rfl
          rw [lsz] at hl2 hn2 hw2
          rw [List.take_length] at hl2
          have lL := G.l
          refine ⟨_, _, _, _, _, l2, rfl, s6, e6, ?_, by omega, by omega⟩
          rw [hl2, hls, List.take_add_one, hc]
          simp [blockW, List.append_assoc]
      · rintro σ H4 ⟨v2, v3, v4, v5, v6, ls, rfl, s4, e4, hls, hn, hw⟩
        have lt' : (txs places).length = places.length := List.length_map _
        have lp := G.p
        rw [lt'] at hls hn hw
        rw [List.take_length] at hls
        refine ⟨⟨_, rfl⟩, _, rfl, _, g, ls.map S, rfl, rfl, .inl (SqL.of ?_), ?_, ?_⟩
        · rw [e4]
          unfold txs
          rw [List.map_map]
          rfl
        · rw [flat_len, nl_str, len_S, List.length_map]
          show _ + _ * 1 ≤ _
          omega
        · rw [nl_str, join_S, hls]
          exact q H4 s4
end
end Tb

set_option Elab.async false
set_option linter.all false
set_option maxRecDepth 100000
set_option maxHeartbeats 2000000
/-! for k, x in enumerate(list, start=c) -/
namespace Tb
open PySem PySem.Spec PyProof.Rows L2
/-- the list at a, each item in a new pair with its count from c on -/
def IteK (K : PySem.W.Frag) (c : Int) (a : Addr) : It :=
  ⟨fun i H => ∃ (xs : List V) (x : V), SqL K H a xs ∧ xs[i]? = some x, fun i H v H' => ∃ T x, v = .ref T ∧ H T = none ∧ H' = upd H T (.tup [.int (c + (i : Int)), x]) ∧ ∀ xs, SqL K H a xs → xs[i]? = some x, fun i H => ∃ xs : List V, SqL K H a xs ∧ xs.length ≤ i⟩
theorem walk_enumK {K : PySem.W.Frag} {c : Int} {a : Addr} {xs : List V} : Walk (IteK K c a) xs.length (fun H => SqL K H a xs) (YPair (fun i => some (.int (c + (i : Int)))) (fun i => xs[i]?)) := by
  refine ⟨fun i _ hi q => ⟨xs, xs[i], q, by simp [hi]⟩, fun _ q => ⟨xs, q, Nat.le_refl _⟩, fun i H v H' _ q y => ?_⟩
  obtain ⟨T, x, h1, h2, h3, h4⟩ := y
  exact ⟨T, _, x, h1, h2, h3, rfl, h4 xs q⟩
theorem turn_enumK {P : Program} {w : World} {K : PySem.W.Frag} {elts : List Expr} {kk : Nat} {tpos : Pos} (c : Int) (a e it : Addr) :
    Turn P w K (.Tuple elts kk tpos) (IteK K c a) [e, it] e (fun i h => (∃ old, IsEnum h e it (c + (i : Int)) old) ∧ h.IsListIter it a i ∧ e ≠ it) where
  mem := by simp
  obj := fun i h st b hb => by
    obtain ⟨⟨old, he⟩, ⟨o, ho, hc, hd⟩, _⟩ := st
    rcases (by simpa using hb : b = e ∨ b = it) with z | z
    · rw [z]
      exact ⟨_, he, fun v q => nomatch q⟩
    · rw [z]
      exact ⟨o, ho, fun v q => by rw [hd] at q; cases q⟩
  keep := fun i h h' st k => ⟨⟨st.1.choose, k e (by simp) _ st.1.choose_spec⟩, st.2.1.at fun o q => k it (by simp) o q, st.2.2⟩
  item := by
    intro X hP hw hK hc i pins s σ H E I hf st hg
    subst hP hw hK
    obtain ⟨⟨old, he⟩, hit, hne⟩ := st
    obtain ⟨xs, x, hq, hx⟩ := hg
    obtain ⟨its, rv, p, hz⟩ := I.list hq
    have hpl : s.heap.IsList a its.toArray := p.isList
    have hai : a ≠ it := fun z => by
      obtain ⟨o1, e1, c1, _⟩ := hpl
      obtain ⟨o2, e2, c2, _⟩ := hit
      rw [z, e2] at e1
      cases e1
      have e3 := c1.symm.trans c2
      injection e3 with e3
      exact absurd e3 (by decide)
    have hel : e < s.heap.objs.size := Heap.lt_size he
    have hil : it < s.heap.objs.size := by obtain ⟨_, q, _⟩ := hit; exact Heap.lt_size q
    have hea : e ≠ a := fun z => by
      obtain ⟨o1, e1, c1, _⟩ := hpl
      rw [← z, he] at e1
      cases e1
      injection c1 with c1
      exact absurd c1 (by decide)
    have hlt : i < its.toArray.size := by
      have := (List.getElem?_eq_some_iff.mp hx).1
      rw [rv.length] at this
      simpa using this
    refine wpAny_pyNext_enum_itemC (Draws.list (A := X.A.in1) (I.ok.hd hc) it a hai its.toArray) he ⟨hit, hpl⟩ hlt hne (by simp [hne, hea]) fun u h' tk hu ho hst' hT hsz hk => ?_
    obtain ⟨u', hu', ru⟩ := rv.get hx
    have euu : u = u' := by
      have hu : its.toArray[i]? = some u := hu
      rw [List.getElem?_toArray, hu'] at hu
      exact (Option.some.inj hu).symm
    subst euu
    refine ⟨_, rfl, wpAny_letOwnedTupleGo_enum (s := { s with heap := h', toks := tk + 1 }) ho fun h'' he' sb => ?_⟩
    have hT2 : h''.get? s.heap.objs.size = some { cls := .type "tuple", data := .seq #[.int (c + (i : Int)) tk, u] } := (sb.2 _ (Nat.ne_of_gt hel)).trans hT
    have new : ObjOk X.prog X.w (upd H s.heap.objs.size (.tup [.int (c + (i : Int)), x])) h'' s.heap.objs.size (.tup [.int (c + (i : Int)), x]) :=
      ⟨by show 2 ≤ sizeLine; decide, [.int (c + (i : Int)) tk, u], .cons ⟨_, rfl⟩ (.cons ru .nil), ⟨_, hT2, rfl, _, rfl⟩⟩
    have I1 : Inv X pins σ (upd H s.heap.objs.size (.tup [.int (c + (i : Int)), x])) { s with heap := h'', toks := tk + 1 } :=
      I.turnedNew (ch := [e, it]) (fun b ob hb q => (sb.2 b (fun z => hb (by simp [z]))).trans (hk b ob (fun z => hb (by simp [z])) (fun z => hb (by simp [z])) q)) hf (Nat.le_refl _) new
    refine ⟨.ref s.heap.objs.size, _, I1, rfl, ⟨_, x, rfl, I.hok.fresh (Nat.le_refl _), rfl, fun ys hy => by rw [I.list_inj hy hq]; exact hx⟩, ⟨⟨u, ?_⟩, hst'.1.at fun o q => (sb.2 it (Ne.symm hne)).trans q, hne⟩, fun b hb => ?_⟩
    · rw [show c + ((i + 1 : Nat) : Int) = c + (i : Int) + 1 by omega]
      exact he'
    · have hb' : b < s.heap.objs.size := by
        rcases (by simpa using hb : b = e ∨ b = it) with z | z
        · exact z ▸ hel
        · exact z ▸ hil
      rw [upd_ne (Nat.ne_of_lt hb')]
      exact (hf b hb).1
  done := by
    intro X hP hw hK hc i pins s σ H E I hf st hg
    subst hP hw hK
    obtain ⟨⟨old, he⟩, hit, hne⟩ := st
    obtain ⟨xs, hq, hx⟩ := hg
    obtain ⟨its, rv, p, hz⟩ := I.list hq
    have hpl : s.heap.IsList a its.toArray := p.isList
    obtain ⟨f0, f1, f2, f3, f4, f5⟩ := hf it (by simp)
    have hl := rv.length
    have hT : s.TypeIs (.ref e) "enumerate" := ⟨_, he, rfl⟩
    unfold pyNext
    refine wpAny_bind (wpAny_attempt (wpAny_callSpecial?_slot (name := Str.ofString "__next__") hT F.slot_enumerate_next (wpAny_call_entry F.slot_enumerate_next hT F.entry_enumerate_next ?_ (F.args_enumerate_next_1 _))))
    show wpAny _ _ (field (.ref e) 2 >>= _) _ _ _
    refine wpAny_bind (wpAny_field he rfl (x := .ref it) rfl (wpAny_bind (wpAny_nextOf_list_end (I.ok.hd hc) hit hpl (by simp; omega) fun h' x eb hx' => ?_)))
    obtain ⟨o, ho, hco⟩ := hx'
    exact wpAny_bind (wpAny_isInstance (T := "StopIteration") (b := true) ⟨o, ho, hco⟩ isSubtype_stop (wpAny_pure ⟨rfl, I.turned (t' := s.toks) (fun b o hb q => eb b o hb q) f0 f1 f3 f4 f5⟩))
  self := fun A i s Q E st h => wpAny_pyIter_enum st.1.choose_spec h
section
variable {M : Model} {A : Around} {E : Value → Shared → Prop} {s : Shared} {env : PySem.Env}
theorem callWith_tyK {pos : Pos} {T : String} {e : Expr} {rest : List Expr} {kws : List Keyword} {Q : Value → Shared → Prop}
    (h : wpAny M A (spliced (backTo pos (starEach (e :: rest) env))) (fun vs s₁ => wpAny M A (evalAll ((backToKw pos (keywordEach kws env)).map (·.2)))
      (fun kvs s₂ => wpAny M A (call (.type T) vs (((backToKw pos (keywordEach kws env)).filterMap (·.1)).zip kvs)) Q E s₂) E s₁) E s)
    (he : backTo pos (starEach (e :: rest) env) = (false, eval e env) :: backTo pos (starEach rest env) := by rfl) (hplain : (backTo pos (starEach (e :: rest) env)).any (·.1) = false := by rfl)
    (hall : (backToKw pos (keywordEach kws env)).all (·.1.isSome) = true := by rfl) (hkw : (backToKw pos (keywordEach kws env)).any (·.1.isNone) = false := by rfl) :
    wpAny M A (callWith pos (.type T) [] (backTo pos (starEach (e :: rest) env)) (backToKw pos (keywordEach kws env))) Q E s := by
  have h2 : wpAny M A (evalArgs (.type T) true (backTo pos (starEach (e :: rest) env)) (backToKw pos (keywordEach kws env))) (fun a s₁ => wpAny M A (call (.type T) ([] ++ a.pos) a.kw) Q E s₁) E s := by
    rw [he] at h ⊢
    exact evalArgs_kwB hall h
  unfold callWith
  refine wpAny_bind (wpAny_holding (wpAny_mono h2 (fun a s₁ h₁ => wpAny_bind (wpAny_standAt ?_)) fun _ _ x => x))
  simp only [hplain, hkw, Bool.or_false]
  exact wpAny_bind (wpAny_pure (wpAny_bind (wpAny_mono h₁ (fun r s₂ hr => wpAny_bind (wpAny_holding (wpAny_point (wpAny_pure hr)))) fun _ _ x => x)))
end
def iEnumK (K : PySem.W.Frag) (ta tk' : TA) : TI := fun σ H R => ta σ H fun vs H1 => tk' σ H1 fun ws H2 => ∃ (a : Addr) (xs : List V) (c : Int), vs = [.ref a] ∧ ws = [.int c] ∧ -(2 ^ 63) ≤ c ∧ c < 2 ^ 63 ∧ SqL K H2 a xs ∧ R (IteK K c a) H2
theorem pi_enumK {X : Cx} {e : Expr} {kws : List Keyword} {ta tk : TA} {p pos tpos : Pos} {elts : List Expr} {kk : Nat} (hg : Gl X "enumerate") (hm : X.mg "enumerate" = none) (ha : PA X [e] ta) (hk : PK X kws tk)
    (hks : (backToKw pos (keywordEach kws X.env)).filterMap (·.1) = [Str.ofString "start"] := by rfl) (he : backTo pos (starEach [e] X.env) = (false, eval e X.env) :: backTo pos (starEach [] X.env) := by rfl) (hplain : (backTo pos (starEach [e] X.env)).any (·.1) = false := by rfl)
    (hall : (backToKw pos (keywordEach kws X.env)).all (·.1.isSome) = true := by rfl) (hkw : (backToKw pos (keywordEach kws X.env)).any (·.1.isNone) = false := by rfl) :
    PI X (.Tuple elts kk tpos) (.Call (.Name "enumerate" p) [e] kws pos) (iEnumK X.K ta tk) := by
  refine ⟨fun pins s σ H R I h => ?_⟩
  refine wpAny_Call_Name_kw (ld_blt I hg hm boot_enumerate ?_)
  refine callWith_tyK (thn (ha.run pos pins s σ H _ I h) fun us s1 ⟨vs, H1, I1, r1, q1⟩ => thn (hk.run pos pins s1 σ H1 _ I1 q1) fun ws s2 ⟨zs, H2, I2, r2, q2⟩ => ?_) he hplain hall hkw
  obtain ⟨a, xs, c, rfl, rfl, c0, c1, hq, q⟩ := q2
  obtain ⟨u, rfl, ru⟩ := r1.one
  obtain ⟨u2, rfl, ru2⟩ := r2.one
  cases ru
  obtain ⟨t, rfl⟩ := ru2
  rw [hks]
  obtain ⟨its, rv, p', hz⟩ := I2.list hq
  refine enum_begins_start (begins_list a its.toArray) p'.isList c0 c1 fun h' hen hit hsz hkp => wpAny_pyIter_enum hen ?_
  have I3 : Inv X pins σ H2 { s2 with heap := h' } := I2.kept (t' := s2.toks) hkp
  refine ⟨s2.heap.objs.size + 1, [s2.heap.objs.size + 1, s2.heap.objs.size], _, _, H2, rfl, I3, turn_enumK c a (s2.heap.objs.size + 1) s2.heap.objs.size, ⟨⟨.none, by rw [show c + ((0 : Nat) : Int) = c by omega]; exact hen⟩, ⟨_, hit, rfl, rfl⟩, Nat.succ_ne_self _⟩, fun b hb => ?_, q⟩
  have hle : s2.heap.objs.size ≤ b := by
    rcases (by simpa using hb : b = s2.heap.objs.size + 1 ∨ b = s2.heap.objs.size) with z | z
    · exact z ▸ Nat.le_succ _
    · exact z ▸ Nat.le_refl _
  exact I2.fpOk hle (I2.hok.fresh hle)
end Tb

set_option linter.all false
namespace Tb
open PySem PySem.Spec PyProof.Rows L2 TL
abbrev sRHead : Stmt := topS 30
abbrev sRLetters : Stmt := topS 31
abbrev sRBoxes : Stmt := topS 32
abbrev sRPlaces : Stmt := topS 33
abbrev sPlSt : Stmt := topS 34
abbrev sMvSt : Stmt := topS 35
abbrev sRFill : Stmt := topS 36
abbrev sLLines : Stmt := topS 48
abbrev sLTried : Stmt := topS 49
abbrev sLHead : Stmt := topS 50
abbrev sLIsName : Stmt := topS 51
abbrev sLIsFill : Stmt := topS 52
abbrev sLIsMove : Stmt := topS 53
abbrev sLDue : Stmt := topS 54
abbrev sLBent : Stmt := topS 55
end Tb

set_option Elab.async false
set_option linter.all false
set_option maxRecDepth 100000
set_option maxHeartbeats 4000000
/-! BadText, and raising it -/
namespace Tb
open PySem PySem.Spec PyProof.Rows L2 TL
abbrev sBtInit : Stmt := subS (topS 3) 0
theorem scBtInit : FnScope ["self", "line"] ["self", "line"] (defScope sBtInit) := ⟨rfl, rfl, rfl, by decide +kernel, rfl, by decide +kernel, by decide +kernel⟩
section
variable {P : Program} {w : World} {K : PySem.W.Frag} {mg : Str → Option Value} {base : Heap}
def spNop : Sp := fun vs H Q _ => ∃ a : Addr, vs = [.ref a] ∧ Q .non H
/-- self.letter = letter of an exception that is being made -/
def spBtInit (K : PySem.W.Frag) : Sp := fun vs H Q _ => ∃ (a C : Addr) (v : V), vs = [.ref a, v] ∧ OexC K C ∧ PySem.W.findIn K (.ref C) "line" = some none ∧ H a = some (exo a C none) ∧ ∀ dx, H dx = none → dx ≠ a → Q .non (upd (upd H dx (exd dx [("line", v)])) a (exo a C (some dx)))
theorem ok_btInit {f : Addr} {fd : FuncData} {k : Nat} (F : Fun K "__init__" "BadText.__init__" sBtInit f fd) : FnOk P w K mg base CX0 (k + 1) f fd ["self", "line"] (spBtInit K) := by
  refine F.ok scBtInit (fun vs H Q E h => ?_) (fun cdv A outer s H vs Q E hr h => ?_)
  · obtain ⟨a, C, v, rfl, _⟩ := h
    rfl
  · obtain ⟨a, C, v, rfl, T, nf, ea, q⟩ := h
    exact ⟨_, pss_one (ps_ost (pv 0) (pv 1)), _, rfl, _, rfl, a, C, rfl, T, nf, .inl ⟨ea, fun dx n ne => q dx n ne⟩⟩
end
/-- what is known of BadText -/
structure BtTxt (P : Program) (w : World) (K : PySem.W.Frag) (mg : Str → Option Value) (base : Heap) (BT : Addr) : Prop where
  ox : OexC K BT
  mgC : mg "BadText" = some (.ref BT)
  nf : PySem.W.findIn K (.ref BT) "line" = some none
  xf : XfC K BT
  mkr : ∃ fI fd, PySem.W.findIn K (.ref BT) "__init__" = some (some (.ref fI)) ∧ PySem.W.typeIn K (.ref fI) = some (.type "function") ∧ FnOk P w K mg base CX0 1 fI fd ["self", "line"] (spBtInit K) ∧ Binds K fd ["self", "line"] []
/-- an exception of BadText that holds v -/
def BtX (BT : Addr) (v : V) (H0 : Hp) (E : XK) : Prop := ∀ d H', Same H0 H' → H0 d = none → H' d = some (.xd [("line", v)]) → E (.ref BT) (some d) H'
section
variable {X : Cx} {BT : Addr} {e : Expr} {te : TE} {p pos pos2 : Pos} {j : Nat} {W : WX}
/-- raise BadText(e) -/
def tRaiseBt (BT : Addr) (W : WX) (te : TE) : TS := fun _ σ H => te σ H fun v H1 => BtX BT v H1 fun cls d H' => W cls d σ H'
theorem ps_raiseBt (hc : X.calm = true) (T : BtTxt X.prog X.w X.K X.mg X.base BT) (hr : Room j X.A) (hj : 2 ≤ j) (tk : Takes X W) (he : PE X e te) (hg : Gl X "BadText" := by rfl)
    (st : starEach (e :: []) X.env = (false, eval e X.env) :: starEach [] X.env := by rfl) (pl : (backTo pos (starEach [] X.env)).any (·.1) = false := by rfl) :
    PS X (.Raise (some (.Call (.Name "BadText" p) [e] [] pos)) none pos2) (tRaiseBt BT W te) := by
  obtain ⟨fI, fd, iC, tI, F, b⟩ := T.mkr
  have r := ps_raise (pos := pos2) hc tk (pmk_oex (p := p) (pos := pos) T.ox iC tI F (hr.mono hj) b .nil pass0 hg T.mgC (pa_cons (PE.mono he) pa_nil st) (by decide) st pl)
  refine ⟨fun pins s σ H D I h => r.run pins s σ H D I ⟨_, h, fun v H1 nl => ⟨by show 1 ≤ 1000; decide, fun a na => ⟨a, BT, v, rfl, T.ox, T.nf, upd_same, fun dx nd ne => ?_⟩⟩⟩⟩
  rw [upd_ne ne] at nd
  refine ⟨rfl, dx, [("line", v)], upd_same, ?_, nd, nl dx _ (fun c o e => ?_) nd upd_same⟩
  · rw [upd_ne ne]
    exact upd_same
  · have c1 := ne_of_none e na
    have c2 := ne_of_none e nd
    rw [upd_ne c2, del_ne c1, upd_ne c1, upd_ne c2, upd_ne c1]
    exact e
end
end Tb

set_option Elab.async false
set_option linter.all false
set_option maxRecDepth 100000
set_option maxHeartbeats 4000000
namespace Tb
open PySem PySem.Spec PyProof.Rows L2 TL
/-! ### the head of a program's text is read -/
theorem iteEq {x : V} {A B : Prop} (h : A) : if decide (x = x) = true then A else B := by
  simp
  exact h
theorem iteEqN {x y : V} {A B : Prop} (n : x ≠ y) (h : B) : if decide (x = y) = true then A else B := by
  simp [n]
  exact h
theorem part_S {a b : List Nat} {s : Nat} (h : s ∉ a) : Txt.partition (S (a ++ [s] ++ b)) (S [s]) = (S a, S [s], S b) := by
  have := TL.partition_app (y := S [s]) (s := s) (S := []) rfl (a := S a) (b := S b) h
  rw [S_app, S_app] at this
  exact this
theorem iteNe {x y : V} {A B : Prop} (n : x ≠ y) (h : A) : if (!decide (x = y)) = true then A else B := by
  simp [n]
  exact h
theorem S_ne {a b : List Nat} (h : a ≠ b) : V.str (S a) ≠ V.str (S b) := fun z => h (S_inj (by injection z))
theorem S_nilstr : Str.ofString "" = S [] := by decide +kernel
section
variable {P : Program} {w : World} {K : PySem.W.Frag} {mg : Str → Option Value} {base : Heap}
def nRL : List Str := ["line", "word", "_", "letters"]
theorem scRL : FnScope ["line", "word", "_", "letters"] ["line"] (defScope sRLetters) := ⟨rfl, rfl, rfl, by decide +kernel, rfl, by decide +kernel, by decide +kernel⟩
def spRL : Sp := fun vs H Q _ => ∃ L : List Nat, vs = [.str (S (lettersW ++ [32] ++ L))] ∧ okLetters L = true ∧ L = sortN L ∧ ∀ H', Same H H' → Q (.str (S L)) H'
theorem ok_rl {f : Addr} {fd : FuncData} {k : Nat} (F : Fun K "_read_letters" "_read_letters" sRLetters f fd) (DL : Df P w K mg base (k + 2) "are_letters" ["thing", "most"] (spAreLetters K)) (mN : ∃ t, mg "MOST_LETTERS" = some (.int 5 t)) (DO : Df P w K mg base (k + 1) "in_order" ["signs"] spInOrder) : FnOk P w K mg base CX0 (k + 3) f fd ["line"] spRL := by
  refine F.ok scRL (fun vs H Q E h => ?_) (fun cdv A outer s H vs Q E hr h => ?_)
  · obtain ⟨L, rfl, _⟩ := h
    rfl
  · obtain ⟨L, rfl, hok, hsort, q⟩ := h
    obtain ⟨tN, mN⟩ := mN
    have l5 : L.length ≤ 5 := by
      unfold okLetters at hok
      simp at hok
      exact hok.2.2.1
    have big : (1000000 : Nat) ≤ sizeLine := by rw [sizeLine_eq]; decide
    refine ⟨_, pss_cons (ps_asg (pe_partition (pv 0) pe_str) (pg_tup rfl (pgs_cons (pg_name (i := 1) scRL.nd rfl (.inl rfl)) (pgs_cons (pg_name (i := 2) scRL.nd rfl (.inl rfl)) (pgs_cons (pg_name (i := 3) scRL.nd rfl (.inl rfl)) pgs_nil)))))
      (pss_cons (ps_if (PW.pt (pw_and (pt_cmpR op_eq (pv 1) pe_str (nomark _)) (pw_and (pt_val (pe_df DL hr (pa_cons (pv 3) (pa_cons (pe_glob (v := .int 5) (by rfl) mN ⟨_, rfl⟩) pa_nil)))) (pw_and1 (pt_cmpR op_eq (pv 3) (pe_df DO hr (pa_cons (pv 3) pa_nil)) (nomark _)))))) (pss_one (ps_ret (pv 3))) pss_nil)
      (pss_one (ps_ret pe_non))), ?_⟩
    refine ⟨_, rfl, ⟨_, rfl⟩, S (lettersW ++ [32] ++ L), Str.ofString " ", rfl, rfl, by decide +kernel, ?_, fun p np => ?_⟩
    · rw [len_S, List.length_append, List.length_append]
      show 7 + 1 + _ ≤ _
      omega
    rw [sp_str, part_S (show 32 ∉ lettersW by decide)]
    have s1 := same_upd (o := .tup [.str (S lettersW), .str (S [32]), .str (S L)]) np
    refine ⟨p, _, rfl, SqT.of upd_same, rfl, _, _, rfl, _, _, rfl, _, _, rfl, rfl, ?_⟩
    refine ⟨_, rfl, rfl, _, rfl, ?_⟩
    rw [letters_str]
    refine iteEq ⟨_, rfl, .inl ⟨L, rfl, by omega, fun H2 s2 => ?_⟩⟩
    rw [hok]
    refine ⟨true, rfl, iteT ⟨_, rfl, ⟨_, rfl, L, rfl, by omega, fun H3 s3 => ⟨rfl, _, rfl, ?_⟩⟩⟩⟩
    rw [← hsort]
    exact iteEq ⟨_, rfl, q _ (s1.trans (s2.trans s3))⟩
/-! ### the boxes -/
def nRB : List Str := ["line", "word", "_", "boxes"]
theorem scRB : FnScope ["line", "word", "_", "boxes"] ["line"] (defScope sRBoxes) := ⟨rfl, rfl, rfl, by decide +kernel, rfl, by decide +kernel, by decide +kernel⟩
def boxLine (B : List Nat) : List Nat := if B = [] then boxesW else boxesW ++ [32] ++ B
def spRB : Sp := fun vs H Q _ => ∃ B : List Nat, vs = [.str (S (boxLine B))] ∧ okBoxes B = true ∧ B = sortN B ∧ ∀ H', Same H H' → Q (.str (S B)) H'
theorem ok_rb {f : Addr} {fd : FuncData} {k : Nat} (F : Fun K "_read_boxes" "_read_boxes" sRBoxes f fd) (DL : Df P w K mg base (k + 2) "_are_boxes" ["thing"] (spAreBoxes K)) (DO : Df P w K mg base (k + 1) "in_order" ["signs"] spInOrder) : FnOk P w K mg base CX0 (k + 3) f fd ["line"] spRB := by
  refine F.ok scRB (fun vs H Q E h => ?_) (fun cdv A outer s H vs Q E hr h => ?_)
  · obtain ⟨L, rfl, _⟩ := h
    rfl
  · obtain ⟨B, rfl, hok, hsort, q⟩ := h
    have l6 : B.length ≤ 6 := by
      unfold okBoxes at hok
      simp at hok
      omega
    have big : (1000000 : Nat) ≤ sizeLine := by rw [sizeLine_eq]; decide
    refine ⟨_, pss_cons (ps_if (pt_cmpR op_eq (pv 0) pe_str (nomark _)) (pss_one (ps_ret pe_str)) pss_nil) (pss_cons (ps_asg (pe_partition (pv 0) pe_str) (pg_tup rfl (pgs_cons (pg_name (i := 1) scRB.nd rfl (.inl rfl)) (pgs_cons (pg_name (i := 2) scRB.nd rfl (.inl rfl)) (pgs_cons (pg_name (i := 3) scRB.nd rfl (.inl rfl)) pgs_nil)))))
      (pss_cons (ps_if (PW.pt (pw_and (pt_cmpR op_eq (pv 1) pe_str (nomark _)) (pw_and (pt_cmpR op_ne (pv 3) pe_str (nomark _)) (pw_and (pt_val (pe_df DL hr (pa_cons (pv 3) pa_nil))) (pw_and1 (pt_cmpR op_eq (pv 3) (pe_df DO hr (pa_cons (pv 3) pa_nil)) (nomark _))))))) (pss_one (ps_ret (pv 3))) pss_nil)
      (pss_one (ps_ret pe_non)))), ?_⟩
    by_cases hB : B = []
    · refine ⟨_, rfl, rfl, _, rfl, ?_⟩
      have e1 : S (boxLine B) = S boxesW := by unfold boxLine; rw [if_pos hB]
      rw [e1, boxes_str]
      refine iteEq ?_
      have := q H (fun _ _ h => h)
      rw [hB] at this
      exact this
    · refine ⟨_, rfl, rfl, _, rfl, ?_⟩
      have e1 : S (boxLine B) = S (boxesW ++ [32] ++ B) := by unfold boxLine; rw [if_neg hB]
      rw [boxes_str]
      refine iteEqN (fun z => ?_) ?_
      · have z2 : boxLine B = boxesW := S_inj (by injection z)
        unfold boxLine at z2
        rw [if_neg hB] at z2
        have := congrArg List.length z2
        rw [List.length_append, List.length_append] at this
        change 5 + 1 + _ = 5 at this
        omega
      refine ⟨_, rfl, ⟨_, rfl⟩, S (boxesW ++ [32] ++ B), Str.ofString " ", by rw [← e1], rfl, by decide +kernel, ?_, fun p np => ?_⟩
      · rw [len_S, List.length_append, List.length_append]
        show 5 + 1 + _ ≤ _
        omega
      rw [sp_str, part_S (show 32 ∉ boxesW by decide)]
      have s1 := same_upd (o := .tup [.str (S boxesW), .str (S [32]), .str (S B)]) np
      refine ⟨p, _, rfl, SqT.of upd_same, rfl, _, _, rfl, _, _, rfl, _, _, rfl, rfl, ?_⟩
      refine ⟨_, rfl, rfl, _, rfl, ?_⟩
      refine iteEq ⟨_, rfl, rfl, _, rfl, ?_⟩
      rw [S_nilstr]
      refine iteNe (S_ne hB) ⟨_, rfl, .inl ⟨B, rfl, by omega, fun H2 s2 => ?_⟩⟩
      rw [hok]
      refine ⟨true, rfl, iteT ⟨_, rfl, ⟨_, rfl, B, rfl, by omega, fun H3 s3 => ⟨rfl, _, rfl, ?_⟩⟩⟩⟩
      rw [← hsort]
      exact iteEq ⟨_, rfl, q _ (s1.trans (s2.trans s3))⟩
end
end Tb

set_option Elab.async false
set_option linter.all false
set_option maxRecDepth 100000
set_option maxHeartbeats 4000000
/-! any text's parts; _read_letters, _read_boxes of any line -/
namespace Tb
open PySem PySem.Spec PyProof.Rows L2 TL
/-! ### a text split at a sign -/
def splL (s : Nat) : List Nat → List (List Nat)
  | [] => [[]]
  | c :: r => if c = s then [] :: splL s r else match splL s r with
    | [] => [[c]]
    | h :: t => (c :: h) :: t
theorem splL_ne (s : Nat) : ∀ cs, splL s cs ≠ []
  | [] => List.cons_ne_nil _ _
  | c :: r => by
    unfold splL
    split
    · exact List.cons_ne_nil _ _
    · split <;> exact List.cons_ne_nil _ _
theorem splL_free (s : Nat) : ∀ cs, ∀ x ∈ splL s cs, s ∉ x
  | [], x, h => by
    cases (List.mem_singleton.mp h)
    exact List.not_mem_nil
  | c :: r, x, h => by
    have ih := splL_free s r
    unfold splL at h
    split at h
    · rcases List.mem_cons.mp h with rfl | h
      · exact List.not_mem_nil
      · exact ih x h
    · rename_i hc
      split at h
      · cases (List.mem_singleton.mp h)
        simp
        exact fun z => hc z.symm
      · rename_i a t e
        rcases List.mem_cons.mp h with rfl | h
        · intro z
          rcases List.mem_cons.mp z with z | z
          · exact hc z.symm
          · exact ih a (by rw [e]; exact List.mem_cons_self) z
        · exact ih x (by rw [e]; exact List.mem_cons_of_mem _ h)
theorem splL_join (s : Nat) : ∀ cs, joinL [s] (splL s cs) = cs
  | [] => rfl
  | c :: r => by
    have ih := splL_join s r
    have ne := splL_ne s r
    unfold splL
    cases e : splL s r with
    | nil => exact absurd e ne
    | cons h t =>
      rw [e] at ih
      split
      · rename_i hc
        rw [hc]
        show [] ++ ([s] ++ joinL [s] (h :: t)) = _
        rw [ih]
        rfl
      · rw [← ih]
        cases t with
        | nil => rfl
        | cons b t => rfl
/-- the parts of what is joined -/
theorem splL_of (s : Nat) : ∀ {ws : List (List Nat)}, ws ≠ [] → (∀ x ∈ ws, s ∉ x) → splL s (joinL [s] ws) = ws := by
  intro ws
  induction ws with
  | nil => exact fun h _ => absurd rfl h
  | cons a t ih =>
    intro _ hf
    have ha := hf a List.mem_cons_self
    have go : ∀ (b : List Nat) (ys : List (List Nat)) (u : List Nat), s ∉ b → splL s u = [] :: ys → splL s (b ++ u) = b :: ys := by
      intro b ys u hb hu
      induction b with
      | nil => exact hu
      | cons c b ihb =>
        have h1 := ihb fun z => hb (List.mem_cons_of_mem _ z)
        show splL s (c :: (b ++ u)) = _
        unfold splL
        rw [if_neg (fun z => hb (by rw [z]; exact List.mem_cons_self)), h1]
    cases t with
    | nil =>
      have := go a [] [] ha rfl
      rw [List.append_nil] at this
      exact this
    | cons b t =>
      have h2 := ih (List.cons_ne_nil _ _) fun x hx => hf x (List.mem_cons_of_mem _ hx)
      show splL s (a ++ ([s] ++ joinL [s] (b :: t))) = _
      refine go a _ _ ha ?_
      show splL s (s :: joinL [s] (b :: t)) = _
      unfold splL
      rw [if_pos rfl, h2]
theorem split_any {s : Nat} (hs : s < 256) (cs : List Nat) : (Txt.split (S cs) (S [s])).map V.str = txs (splL s cs) := by
  have e := TL.split_join (y := S [s]) (s := s) (S := []) rfl (SX.all256 (b := [s]) (by simp [hs])) (parts := (splL s cs).map S) (fun z => splL_ne s cs (List.map_eq_nil_iff.mp z)) (fun p hp => by
    obtain ⟨x, hx, rfl⟩ := List.mem_map.mp hp
    exact splL_free s cs x hx)
  rw [join_S, splL_join] at e
  rw [e]
  unfold txs
  rw [List.map_map]
  rfl
/-! ### a text parted at a sign -/
def pA (s : Nat) : List Nat → List Nat
  | [] => []
  | c :: r => if c = s then [] else c :: pA s r
def pM (s : Nat) (cs : List Nat) : List Nat := if s ∈ cs then [s] else []
def pB (s : Nat) : List Nat → List Nat
  | [] => []
  | c :: r => if c = s then r else pB s r
theorem pA_free (s : Nat) : ∀ cs, s ∉ pA s cs
  | [] => List.not_mem_nil
  | c :: r => by
    unfold pA
    split
    · exact List.not_mem_nil
    · rename_i h
      intro z
      rcases List.mem_cons.mp z with z | z
      · exact h z.symm
      · exact pA_free s r z
theorem part_in {s : Nat} : ∀ {cs : List Nat}, s ∈ cs → pA s cs ++ [s] ++ pB s cs = cs
  | c :: r, h => by
    unfold pA pB
    split
    · rename_i e
      rw [e]
      rfl
    · rename_i e
      have hr : s ∈ r := by
        rcases List.mem_cons.mp h with z | z
        · exact absurd z.symm e
        · exact z
      show c :: (pA s r ++ [s] ++ pB s r) = _
      rw [part_in hr]
theorem pA_out {s : Nat} : ∀ {cs : List Nat}, s ∉ cs → pA s cs = cs
  | [], _ => rfl
  | c :: r, h => by
    unfold pA
    rw [if_neg (fun z => h (by rw [z]; exact List.mem_cons_self)), pA_out fun z => h (List.mem_cons_of_mem _ z)]
theorem pB_out {s : Nat} : ∀ {cs : List Nat}, s ∉ cs → pB s cs = []
  | [], _ => rfl
  | c :: r, h => by
    unfold pB
    rw [if_neg (fun z => h (by rw [z]; exact List.mem_cons_self)), pB_out fun z => h (List.mem_cons_of_mem _ z)]
theorem pA_len (s : Nat) : ∀ cs, (pA s cs).length ≤ cs.length
  | [] => Nat.le_refl _
  | c :: r => by
    unfold pA
    split
    · exact Nat.zero_le _
    · have := pA_len s r
      rw [List.length_cons, List.length_cons]
      omega
theorem pB_len (s : Nat) : ∀ cs, (pB s cs).length ≤ cs.length
  | [] => Nat.le_refl _
  | c :: r => by
    unfold pB
    have := pB_len s r
    split <;> rw [List.length_cons] <;> omega
theorem part_any (s : Nat) (cs : List Nat) : Txt.partition (S cs) (S [s]) = (S (pA s cs), S (pM s cs), S (pB s cs)) := by
  by_cases h : s ∈ cs
  · have e := part_S (b := pB s cs) (pA_free s cs)
    rw [part_in h] at e
    rw [e]
    unfold pM
    rw [if_pos h]
  · rw [show Txt.partition (S cs) (S [s]) = (S cs, S [], S []) from SX.partition_none (List.cons_ne_nil _ _) (TL.par_none1 h), pA_out h, pB_out h]
    unfold pM
    rw [if_neg h]
theorem dec_S (a b : List Nat) : decide (V.str (S a) = V.str (S b)) = decide (a = b) := by
  rw [decide_eq_decide]
  exact ⟨fun z => S_inj (by injection z), fun z => by rw [z]⟩
section
variable {P : Program} {w : World} {K : PySem.W.Frag} {mg : Str → Option Value} {base : Heap}
/-- what the first line tells -/
def rlF (cs : List Nat) : Option (List Nat) := if pA 32 cs = lettersW ∧ okLetters (pB 32 cs) = true ∧ pB 32 cs = sortN (pB 32 cs) then some (pB 32 cs) else none
def vO : Option (List Nat) → V
  | none => .non
  | some x => .str (S x)
def spRLx : Sp := fun vs H Q _ => ∃ cs : List Nat, vs = [.str (S cs)] ∧ cs.length ≤ 1000 ∧ ∀ H', Same H H' → Q (vO (rlF cs)) H'
theorem ok_rlx {f : Addr} {fd : FuncData} {k : Nat} (F : Fun K "_read_letters" "_read_letters" sRLetters f fd) (DL : Df P w K mg base (k + 2) "are_letters" ["thing", "most"] (spAreLetters K)) (DO : Df P w K mg base (k + 1) "in_order" ["signs"] spInOrder) (mN : ∃ t, mg "MOST_LETTERS" = some (.int 5 t)) : FnOk P w K mg base CX0 (k + 3) f fd ["line"] spRLx := by
  obtain ⟨tN, mN⟩ := mN
  refine F.ok scRL (fun vs H Q E h => ?_) (fun cdv A outer s H vs Q E hr h => ?_)
  · obtain ⟨L, rfl, _⟩ := h
    rfl
  · obtain ⟨cs, rfl, hl, q⟩ := h
    have big : (1000000 : Nat) ≤ sizeLine := by rw [sizeLine_eq]; decide
    refine ⟨_, pss_cons (ps_asg (pe_partition (pv 0) pe_str) (pg_tup rfl (pgs_cons (pg_name (i := 1) scRL.nd rfl (.inl rfl)) (pgs_cons (pg_name (i := 2) scRL.nd rfl (.inl rfl)) (pgs_cons (pg_name (i := 3) scRL.nd rfl (.inl rfl)) pgs_nil)))))
      (pss_cons (ps_if (PW.pt (pw_and (pt_cmpR op_eq (pv 1) pe_str (nomark _)) (pw_and (pt_val (pe_df DL hr (pa_cons (pv 3) (pa_cons (pe_glob (v := .int 5) (by rfl) mN ⟨_, rfl⟩) pa_nil)))) (pw_and1 (pt_cmpR op_eq (pv 3) (pe_df DO hr (pa_cons (pv 3) pa_nil)) (nomark _)))))) (pss_one (ps_ret (pv 3))) pss_nil)
      (pss_one (ps_ret pe_non))), ?_⟩
    refine ⟨_, rfl, ⟨_, rfl⟩, S cs, Str.ofString " ", rfl, rfl, by decide +kernel, by rw [len_S]; omega, fun p np => ?_⟩
    rw [sp_str, part_any]
    have s1 := same_upd (o := .tup [.str (S (pA 32 cs)), .str (S (pM 32 cs)), .str (S (pB 32 cs))]) np
    have lB := pB_len 32 cs
    refine ⟨p, _, rfl, SqT.of upd_same, rfl, _, _, rfl, _, _, rfl, _, _, rfl, rfl, ?_⟩
    refine ⟨_, rfl, rfl, _, rfl, ?_⟩
    have no : ∀ {H'}, Same H H' → rlF cs = none → Q V.non H' := fun s' e => by
      have := q _ s'
      rw [e] at this
      exact this
    rw [letters_str, dec_S]
    by_cases h1 : pA 32 cs = lettersW
    · rw [decide_eq_true h1]
      refine iteT ⟨_, rfl, .inl ⟨pB 32 cs, rfl, by omega, fun H2 s2 => ⟨okLetters (pB 32 cs), rfl, ?_⟩⟩⟩
      by_cases h2 : okLetters (pB 32 cs) = true
      · rw [h2]
        have l5 : (pB 32 cs).length ≤ 5 := by
          unfold okLetters at h2
          simp at h2
          exact h2.2.2.1
        refine iteT ⟨_, rfl, _, rfl, pB 32 cs, rfl, by omega, fun H3 s3 => ⟨rfl, _, rfl, ?_⟩⟩
        rw [dec_S]
        by_cases h3 : pB 32 cs = sortN (pB 32 cs)
        · rw [decide_eq_true h3]
          refine iteT ⟨_, rfl, ?_⟩
          have := q _ (s1.trans (s2.trans s3))
          unfold rlF at this
          rw [if_pos ⟨h1, h2, h3⟩] at this
          exact this
        · rw [decide_eq_false h3]
          exact iteF (no (s1.trans (s2.trans s3)) (if_neg fun z => h3 z.2.2))
      · rw [Bool.eq_false_iff.mpr h2]
        exact iteF (no (s1.trans s2) (if_neg fun z => h2 z.2.1))
    · rw [decide_eq_false h1]
      exact iteF (no s1 (if_neg fun z => h1 z.1))
/-! ### the boxes -/
def rbF (cs : List Nat) : Option (List Nat) := if cs = boxesW then some [] else if pA 32 cs = boxesW ∧ pB 32 cs ≠ [] ∧ okBoxes (pB 32 cs) = true ∧ pB 32 cs = sortN (pB 32 cs) then some (pB 32 cs) else none
def spRBx : Sp := fun vs H Q _ => ∃ cs : List Nat, vs = [.str (S cs)] ∧ cs.length ≤ 1000 ∧ ∀ H', Same H H' → Q (vO (rbF cs)) H'
theorem ok_rbx {f : Addr} {fd : FuncData} {k : Nat} (F : Fun K "_read_boxes" "_read_boxes" sRBoxes f fd) (DL : Df P w K mg base (k + 2) "_are_boxes" ["thing"] (spAreBoxes K)) (DO : Df P w K mg base (k + 1) "in_order" ["signs"] spInOrder) : FnOk P w K mg base CX0 (k + 3) f fd ["line"] spRBx := by
  refine F.ok scRB (fun vs H Q E h => ?_) (fun cdv A outer s H vs Q E hr h => ?_)
  · obtain ⟨L, rfl, _⟩ := h
    rfl
  · obtain ⟨cs, rfl, hl, q⟩ := h
    have big : (1000000 : Nat) ≤ sizeLine := by rw [sizeLine_eq]; decide
    refine ⟨_, pss_cons (ps_if (pt_cmpR op_eq (pv 0) pe_str (nomark _)) (pss_one (ps_ret pe_str)) pss_nil) (pss_cons (ps_asg (pe_partition (pv 0) pe_str) (pg_tup rfl (pgs_cons (pg_name (i := 1) scRB.nd rfl (.inl rfl)) (pgs_cons (pg_name (i := 2) scRB.nd rfl (.inl rfl)) (pgs_cons (pg_name (i := 3) scRB.nd rfl (.inl rfl)) pgs_nil)))))
      (pss_cons (ps_if (PW.pt (pw_and (pt_cmpR op_eq (pv 1) pe_str (nomark _)) (pw_and (pt_cmpR op_ne (pv 3) pe_str (nomark _)) (pw_and (pt_val (pe_df DL hr (pa_cons (pv 3) pa_nil))) (pw_and1 (pt_cmpR op_eq (pv 3) (pe_df DO hr (pa_cons (pv 3) pa_nil)) (nomark _))))))) (pss_one (ps_ret (pv 3))) pss_nil)
      (pss_one (ps_ret pe_non)))), ?_⟩
    refine ⟨_, rfl, rfl, _, rfl, ?_⟩
    rw [boxes_str, dec_S]
    by_cases h0 : cs = boxesW
    · rw [decide_eq_true h0]
      refine iteT ?_
      have := q H (fun _ _ h => h)
      unfold rbF at this
      rw [if_pos h0] at this
      rw [S_nilstr]
      exact this
    rw [decide_eq_false h0]
    have e0 : rbF cs = if pA 32 cs = boxesW ∧ pB 32 cs ≠ [] ∧ okBoxes (pB 32 cs) = true ∧ pB 32 cs = sortN (pB 32 cs) then some (pB 32 cs) else none := if_neg h0
    have no : ∀ {H'}, Same H H' → rbF cs = none → Q V.non H' := fun s' e => by
      have := q _ s'
      rw [e] at this
      exact this
    rw [e0] at no
    refine iteF ⟨_, rfl, ⟨_, rfl⟩, S cs, Str.ofString " ", rfl, rfl, by decide +kernel, by rw [len_S]; omega, fun p np => ?_⟩
    rw [sp_str, part_any]
    have s1 := same_upd (o := .tup [.str (S (pA 32 cs)), .str (S (pM 32 cs)), .str (S (pB 32 cs))]) np
    have lB := pB_len 32 cs
    refine ⟨p, _, rfl, SqT.of upd_same, rfl, _, _, rfl, _, _, rfl, _, _, rfl, rfl, ?_⟩
    refine ⟨_, rfl, rfl, _, rfl, ?_⟩
    rw [dec_S]
    by_cases h1 : pA 32 cs = boxesW
    · rw [decide_eq_true h1]
      refine iteT ⟨_, rfl, rfl, _, rfl, ?_⟩
      rw [S_nilstr, dec_S]
      by_cases h2 : pB 32 cs = []
      · rw [decide_eq_true h2]
        exact iteF (no s1 (if_neg fun z => z.2.1 h2))
      rw [decide_eq_false h2]
      refine iteT ⟨_, rfl, .inl ⟨pB 32 cs, rfl, by omega, fun H2 s2 => ⟨okBoxes (pB 32 cs), rfl, ?_⟩⟩⟩
      by_cases h3 : okBoxes (pB 32 cs) = true
      · rw [h3]
        have l6 : (pB 32 cs).length ≤ 6 := by
          unfold okBoxes at h3
          simp at h3
          omega
        refine iteT ⟨_, rfl, _, rfl, pB 32 cs, rfl, by omega, fun H3 s3 => ⟨rfl, _, rfl, ?_⟩⟩
        rw [dec_S]
        by_cases h4 : pB 32 cs = sortN (pB 32 cs)
        · rw [decide_eq_true h4]
          refine iteT ⟨_, rfl, ?_⟩
          have := q _ (s1.trans (s2.trans s3))
          rw [e0, if_pos ⟨h1, h2, h3, h4⟩] at this
          exact this
        · rw [decide_eq_false h4]
          exact iteF (no (s1.trans (s2.trans s3)) (if_neg fun z => h4 z.2.2.2))
      · rw [Bool.eq_false_iff.mpr h3]
        exact iteF (no (s1.trans s2) (if_neg fun z => h3 z.2.2.1))
    · rw [decide_eq_false h1]
      exact iteF (no s1 (if_neg fun z => h1 z.1))
end
end Tb

set_option Elab.async false
set_option linter.all false
set_option maxRecDepth 100000
set_option maxHeartbeats 4000000
namespace Tb
open PySem PySem.Spec PyProof.Rows L2 TL
/-! ### the fillings of a move's line -/
section
variable {P : Program} {w : World} {K : PySem.W.Frag} {mg : Str → Option Value} {base : Heap}
theorem scRF : FnScope ["words", "fillings", "word", "box", "_", "filling"] ["words"] (defScope sRFill) := ⟨rfl, rfl, rfl, by decide +kernel, rfl, by decide +kernel, by decide +kernel⟩
def FlW (fl : Fil) : Prop := (fl.map (·.1)).Nodup ∧ (∀ q ∈ fl, 61 ∉ q.1) ∧ fl.length ≤ 1000 ∧ ∀ q ∈ fl, (fillWord q).length ≤ 100000
def spRF : Sp := fun vs H Q _ => ∃ (a : Addr) (fl : Fil), vs = [.ref a] ∧ H a = some (.lst (txs (fl.map fillWord))) ∧ FlW fl ∧ ∀ p H', Same H H' → H p = none → H' p = some (.dK (fkv fl)) → Q (.ref p) H'
theorem ok_rf {f : Addr} {fd : FuncData} {k : Nat} (F : Fun K "_read_fillings" "_read_fillings" sRFill f fd) : FnOk P w K mg base CX0 (k + 1) f fd ["words"] spRF := by
  refine F.ok scRF (fun vs H Q E h => ?_) (fun cdv A outer s H vs Q E hr h => ?_)
  · obtain ⟨L, fl, rfl, _⟩ := h
    rfl
  · obtain ⟨a, fl, rfl, ha, ⟨nd, ne, hl, hw⟩, q⟩ := h
    have hu := hu_of hr
    have big : (1000000 : Nat) ≤ sizeLine := by rw [sizeLine_eq]; decide
    refine ⟨_, pss_cons (ps_set (i := 1) scRF.nd rfl (.inl rfl) pe_newK)
      (pss_cons (ps_for PassesOwn.never rfl (pi_list (pv 0)) (pg_name (i := 2) scRF.nd rfl (.inl rfl))
        (pss_cons (ps_asg (pe_partition (pv 2) pe_str) (pg_tup rfl (pgs_cons (pg_name (i := 3) scRF.nd rfl (.inl rfl)) (pgs_cons (pg_name (i := 4) scRF.nd rfl (.inl rfl)) (pgs_cons (pg_name (i := 5) scRF.nd rfl (.inl rfl)) pgs_nil)))))
        (pss_one (ps_dput hu (pv 1) (pv 3) (pv 5) rfl))))
      (pss_one (ps_ret (pv 1)))), ?_⟩
    intro u H1 s1 n1 e1
    have ha1 := s1 _ _ ha
    have len : (txs (fl.map fillWord)).length = fl.length := by unfold txs; rw [List.length_map, List.length_map]
    refine ⟨_, rfl, a, rfl, ⟨_, SqL.of ha1⟩, for_it (walk_list (K := K) (a := a) (xs := txs (fl.map fillWord))) (fun i σ H' => ∃ v2 v3 v4 v5, σ = [some (.ref a), some (.ref u), v2, v3, v4, v5] ∧ Same H H' ∧ H' u = some (.dK (fkv (fl.take i))))
      ⟨none, none, none, none, rfl, s1, e1⟩ (fun i σ H' _ ⟨_, _, _, _, _, s', _⟩ => SqL.of (s' _ _ ha)) ?_ ?_⟩
    · rintro i x σ H2 H2' hi ⟨v2, v3, v4, v5, rfl, s2, e2⟩ ⟨rfl, hx⟩
      obtain ⟨qf, hq, rfl⟩ : ∃ qf, fl[i]? = some qf ∧ x = V.str (S (fillWord qf)) := by
        unfold txs at hx
        rw [List.map_map, List.getElem?_map] at hx
        cases z : fl[i]? with
        | none => rw [z] at hx; cases hx
        | some qf =>
          rw [z] at hx
          exact ⟨qf, rfl, (Option.some.inj hx).symm⟩
      have hm := List.mem_of_getElem? hq
      refine ⟨_, rfl, ⟨_, rfl⟩, S (fillWord qf), Str.ofString "=", rfl, rfl, by decide +kernel, ?_, fun p np => ?_⟩
      · rw [len_S]
        have := hw qf hm
        omega
      rw [eq_str, show S (fillWord qf) = S (qf.1 ++ [61] ++ qf.2) from rfl, part_S (ne qf hm)]
      refine ⟨p, _, rfl, SqT.of upd_same, rfl, _, _, rfl, _, _, rfl, _, _, rfl, rfl, ?_⟩
      have pu : p ≠ u := fun z => by rw [z, e2] at np; cases np
      have e3 : (upd H2' p (.tup [.str (S qf.1), .str (S [61]), .str (S qf.2)])) u = some (.dK (fkv (fl.take i))) := by rw [upd_ne pu.symm]; exact e2
      refine ⟨_, rfl, _, rfl, _, rfl, u, _, rfl, DPut.k (k := Sum.inr (S qf.1)) e3 ?_, ?_⟩
      · unfold fkv
        rw [List.length_map, List.length_take]
        exact Nat.lt_of_le_of_lt (Nat.min_le_right _ _) (by omega)
      · have et : fl.take (i + 1) = fl.take i ++ [qf] := by
          rw [List.take_add_one, hq]
          rfl
        refine ⟨_, _, _, _, rfl, ?_, ?_⟩
        · intro b o eb
          rw [upd_ne (ne_of_none eb n1), upd_ne]
          · exact s2 _ _ eb
          · exact fun z => by rw [z] at eb; rw [s2 _ _ eb] at np; cases np
        · rw [upd_same, fkv_put, et]
          intro z
          have h1 : ((fl.take (i + 1)).map (·.1)).Nodup := ((List.take_sublist _ _).map _).nodup nd
          rw [et, List.map_append, List.nodup_append] at h1
          exact h1.2.2 _ z _ (List.mem_singleton.mpr rfl) rfl
    · rintro σ H2 ⟨v2, v3, v4, v5, rfl, s2, e2⟩
      rw [len] at e2
      rw [List.take_length] at e2
      exact ⟨_, rfl, q u H2 s2 n1 e2⟩
end
end Tb

set_option Elab.async false
set_option linter.all false
set_option maxRecDepth 100000
set_option maxHeartbeats 4000000
namespace Tb
open PySem PySem.Spec PyProof.Rows L2 TL
/-! ### a line that tells a place -/
theorem iteNeF {x : V} {A B : Prop} (h : B) : if (!decide (x = x)) = true then A else B := by
  simp
  exact h
section
variable {P : Program} {w : World} {K : PySem.W.Frag} {mg : Str → Option Value} {base : Heap}
theorem scPS : FnScope ["words", "places", "boxes"] ["words", "places", "boxes"] (defScope sPlSt) := ⟨rfl, rfl, rfl, by decide +kernel, rfl, by decide +kernel, by decide +kernel⟩
def placeWords (c : List Nat) (e : Option (List Nat)) : List (List Nat) := [placeW, c] ++ match e with | none => [] | some f => [if f = [] then [45] else f]
def EndW (B : List Nat) (e : Option (List Nat)) : Prop := ∀ f, e = some f → isFill f B = true ∧ f.length ≤ 1000 ∧ f ≠ [45]
def spPS : Sp := fun vs H Q _ => ∃ (a b : Addr) (B : List Nat) (ps ws : List (List Nat)), vs = [.ref a, .ref b, .str (S B)] ∧ H a = some (.lst (txs ws)) ∧ H b = some (.lst (txs ps)) ∧ (∀ b ∈ B, isLow b = false) ∧
  ((∃ c e, ws = placeWords c e ∧ isName c = true ∧ c.length ≤ 1000 ∧ c ∉ ps ∧ EndW B e ∧ ps.length < 50 ∧ ∀ H', Same H H' → Q (.bl true) H') ∨ (∃ x r, ws = x :: r ∧ x ≠ placeW ∧ ∀ H', Same H H' → Q (.bl false) H'))
theorem ok_ps {f : Addr} {fd : FuncData} {k : Nat} (F : Fun K "_place_stands" "_place_stands" sPlSt f fd) (DN : Df P w K mg base (k + 2) "is_name" ["thing"] (spIsName K)) (DF : Df P w K mg base (k + 2) "is_filling" ["thing", "boxes"] (spIsFilling K)) (ml : mg "len" = none) (mN : ∃ t, mg "MOST_PLACES" = some (.int 50 t)) : FnOk P w K mg base CX0 (k + 3) f fd ["words", "places", "boxes"] spPS := by
  obtain ⟨tN, mN⟩ := mN
  refine F.ok scPS (fun vs H Q E h => ?_) (fun cdv A outer s H vs Q E hr h => ?_)
  · obtain ⟨a, b, B, ps, ws, rfl, _⟩ := h
    rfl
  · obtain ⟨a, b, B, ps, ws, rfl, ha, hb, hlow, h⟩ := h
    refine ⟨_, pss_cons (ps_if (PW.pt (pw_or (pt_cmpR op_ne (pe_ix ix_list (pv 0) pe_int (fun _ _ => rfl)) pe_str (nomark _)) (pw_or (pt_not (pt_chain op_le op_le pe_int (pe_callB call_lenS (by rfl) ml PySem.boot_len (pa_cons (pv 0) pa_nil)) pe_int)) (pw_or1 (pt_cmpR op_eq (pe_callB call_lenS (by rfl) ml PySem.boot_len (pa_cons (pv 1) pa_nil)) (pe_glob (v := .int 50) (by rfl) mN ⟨_, rfl⟩) (nomark _)))))) (pss_one (ps_ret pe_bl)) pss_nil)
      (pss_cons (ps_if (PW.pt (pw_or (pt_not (pt_val (pe_df DN hr (pa_cons (pe_ix ix_list (pv 0) pe_int (fun _ _ => rfl)) pa_nil)))) (pw_or1 (pt_cmpR op_in_seq (pe_ix ix_list (pv 0) pe_int (fun _ _ => rfl)) (pv 1) (by rfl))))) (pss_one (ps_ret pe_bl)) pss_nil)
      (pss_one (ps_ret (pe_or (pe_cmpR op_eq (pe_callB call_lenS (by rfl) ml PySem.boot_len (pa_cons (pv 0) pa_nil)) pe_int (nomark _)) (pe_or (pe_cmpR op_eq (pe_ix ix_list (pv 0) pe_int (fun _ _ => rfl)) pe_str (nomark _)) (pe_one (pe_and (pe_cmpR op_ne (pe_ix ix_list (pv 0) pe_int (fun _ _ => rfl)) pe_str (nomark _)) (pe_one (pe_df DF hr (pa_cons (pe_ix ix_list (pv 0) pe_int (fun _ _ => rfl)) (pa_cons (pv 2) pa_nil)))))))))))
      , ?_⟩
    have big : (1000000 : Nat) ≤ sizeLine := by rw [sizeLine_eq]; decide
    rcases h with ⟨c, e, rfl, hn, hc, hcp, he, hp, q⟩ | ⟨x, r, rfl, hx, q⟩
    · have hb' : decide (V.int ((txs ps).length : Int) = V.int 50) = false := by
        refine decide_eq_false fun z => ?_
        have e1 : (txs ps).length = ps.length := by unfold txs; rw [List.length_map]
        rw [e1] at z
        injection z with z
        omega
      have hin : inV (.str (S c)) (txs ps) = false := by
        unfold txs
        rw [inV_S]
        exact decide_eq_false hcp
      have all : (txs ps).all flatV = true := by
        unfold txs
        rw [List.all_map, List.all_eq_true]
        exact fun _ _ => rfl
      cases e with
      | none =>
        refine ⟨_, rfl, a, txs [placeW, c], 0, .str (S placeW), rfl, rfl, SqL.of ha, rfl, rfl, _, rfl, ?_⟩
        rw [place_str]
        refine iteNeF ?_
        refine ⟨_, rfl, a, txs [placeW, c], rfl, .inl (SqL.of ha), _, _, rfl, rfl, true, rfl, iteT ⟨_, _, rfl, rfl, true, rfl, iteF ?_⟩⟩
        refine ⟨_, rfl, b, txs ps, rfl, .inl (SqL.of hb), rfl, _, rfl, ?_⟩
        rw [hb']
        refine iteF ?_
        refine ⟨_, rfl, a, txs [placeW, c], 1, .str (S c), rfl, rfl, SqL.of ha, rfl, .inl ⟨c, rfl, hc, fun H1 s1 => ⟨true, by rw [hn], iteF ?_⟩⟩⟩
        refine ⟨_, rfl, a, txs [placeW, c], 1, .str (S c), rfl, rfl, SqL.of (s1 _ _ ha), rfl, _, rfl, b, txs ps, rfl, .inl (SqL.of (s1 _ _ hb)), rfl, all, _, rfl, ?_⟩
        rw [hin]
        refine iteF ?_
        refine ⟨_, rfl, a, txs [placeW, c], rfl, .inl (SqL.of (s1 _ _ ha)), rfl, true, rfl, iteT (q _ s1)⟩
      | some f =>
        obtain ⟨hf, hfl, hfd⟩ := he f rfl
        have ha : H a = some (.lst (txs [placeW, c, if f = [] then [45] else f])) := ha
        generalize hg : (if f = [] then [45] else f) = g at ha
        refine ⟨_, rfl, a, txs [placeW, c, g], 0, .str (S placeW), rfl, rfl, SqL.of ha, rfl, rfl, _, rfl, ?_⟩
        rw [place_str]
        refine iteNeF ?_
        refine ⟨_, rfl, a, txs [placeW, c, g], rfl, .inl (SqL.of ha), _, _, rfl, rfl, true, rfl, iteT ⟨_, _, rfl, rfl, true, rfl, iteF ?_⟩⟩
        refine ⟨_, rfl, b, txs ps, rfl, .inl (SqL.of hb), rfl, _, rfl, ?_⟩
        rw [hb']
        refine iteF ?_
        refine ⟨_, rfl, a, txs [placeW, c, g], 1, .str (S c), rfl, rfl, SqL.of ha, rfl, .inl ⟨c, rfl, hc, fun H1 s1 => ⟨true, by rw [hn], iteF ?_⟩⟩⟩
        refine ⟨_, rfl, a, txs [placeW, c, g], 1, .str (S c), rfl, rfl, SqL.of (s1 _ _ ha), rfl, _, rfl, b, txs ps, rfl, .inl (SqL.of (s1 _ _ hb)), rfl, all, _, rfl, ?_⟩
        rw [hin]
        refine iteF ?_
        refine ⟨_, rfl, a, txs [placeW, c, g], rfl, .inl (SqL.of (s1 _ _ ha)), rfl, false, rfl, iteF ?_⟩
        refine ⟨_, rfl, a, txs [placeW, c, g], 2, .str (S g), rfl, rfl, SqL.of (s1 _ _ ha), rfl, rfl, decide (g = [45]), ?_, ?_⟩
        · rw [dash_str]
          congr 1
          rw [decide_eq_decide]
          exact ⟨fun z => S_inj (by injection z), fun z => by rw [z]⟩
        by_cases hz : g = [45]
        · rw [decide_eq_true hz]
          exact iteT (q _ s1)
        · rw [decide_eq_false hz]
          refine iteF ?_
          have fne : f ≠ [] := fun z => hz (by rw [← hg, if_pos z])
          have gf : g = f := by rw [← hg, if_neg fne]
          refine ⟨_, rfl, a, txs [placeW, c, g], 2, .str (S g), rfl, rfl, SqL.of (s1 _ _ ha), rfl, rfl, true, ?_, iteT ?_⟩
          · rw [S_nilstr]
            have := S_ne (show g ≠ [] from gf ▸ fne)
            rw [decide_eq_false this]
            rfl
          · refine ⟨_, rfl, a, txs [placeW, c, g], 2, .str (S g), rfl, rfl, SqL.of (s1 _ _ ha), rfl, _, rfl, .inl ⟨g, B, rfl, by rw [gf]; exact hfl, hlow, fun H2 s2 => ?_⟩⟩
            rw [gf, hf]
            exact q _ (s1.trans s2)
    · refine ⟨_, rfl, a, txs (x :: r), 0, .str (S x), rfl, rfl, SqL.of ha, atI_nat (j := 0) rfl, rfl, _, rfl, ?_⟩
      rw [place_str]
      refine iteNe (S_ne hx) (iteT (q _ (fun _ _ h => h)))
end
end Tb

set_option Elab.async false
set_option linter.all false
set_option maxRecDepth 100000
set_option maxHeartbeats 4000000
/-! lists of texts compared; _read_fillings, _place_stands of any words -/
namespace Tb
open PySem PySem.Spec PyProof.Rows L2 TL
/-! ### == and != of lists of texts -/
def dTx (l : List (List Nat)) : List PyData := l.map fun x => .str (S x)
theorem dTx_all {K : PySem.W.Frag} {H : Hp} : ∀ l : List (List Nat), DpAll K H (txs l) (dTx l)
  | [] => .nil
  | x :: l => .cons (.str _) (dTx_all l)
theorem dTx_lst {K : PySem.W.Frag} {H : Hp} {a : Addr} {l : List (List Nat)} (h : H a = some (.lst (txs l))) : Dp K H (.ref a) (.list (dTx l)) := .lst (SqL.of h) (dTx_all l)
theorem eqv_dTx : ∀ a b : List (List Nat), PyData.eqvAll (dTx a) (dTx b) = decide (a = b)
  | [], [] => rfl
  | [], y :: b => rfl
  | x :: a, [] => rfl
  | x :: a, y :: b => by
    show (S x == S y && PyData.eqvAll (dTx a) (dTx b)) = _
    rw [eqv_dTx a b, show (S x == S y) = decide (x = y) from SX.S_beq_eq, Bool.eq_iff_iff, Bool.and_eq_true, decide_eq_true_iff, decide_eq_true_iff, decide_eq_true_iff, List.cons.injEq]
/-- texts of true signs -/
def Uni (l : List (List Nat)) : Prop := ∀ x ∈ l, ∀ c ∈ x, c < 1114112
theorem canLay_dTx : ∀ l : List (List Nat), Uni l → PyData.canLayAll0 (dTx l) = true
  | [], _ => rfl
  | x :: l, h => by
    show (PyData.strOk (S x) && PyData.canLayAll0 (dTx l)) = true
    rw [canLay_dTx l fun y hy => h y (List.mem_cons_of_mem _ hy), Bool.and_true]
    unfold PyData.strOk
    rw [show (S x).cps = x.toArray from rfl, List.all_toArray, List.all_eq_true]
    exact fun c hc => decide_eq_true (h x List.mem_cons_self c hc)
theorem depth_dTx : ∀ l : List (List Nat), PyData.depthAll (dTx l) ≤ 1
  | [] => Nat.zero_le _
  | x :: l => by
    show max (PyData.depth (.str (S x))) (PyData.depthAll (dTx l)) ≤ 1
    exact Nat.max_le.mpr ⟨Nat.le_succ_of_le (Nat.le_of_eq rfl), depth_dTx l⟩
theorem shaped_dTx {l : List (List Nat)} (h : Uni l) : SeqAt.shaped (.list (dTx l)) = true := by
  unfold SeqAt.shaped
  rw [Bool.and_eq_true]
  refine ⟨canLay_dTx l h, decide_eq_true ?_⟩
  show PyData.depthAll (dTx l) + 1 ≤ 64
  have := depth_dTx l
  omega
/-! ### the fillings that words tell -/
def putF (fl : Fil) (k v : List Nat) : Fil := if k ∈ fl.map (·.1) then setF fl k v else fl ++ [(k, v)]
theorem fkv_putF (fl : Fil) (k v : List Nat) : fkv (putF fl k v) = putK (fkv fl) (Sum.inr (S k)) (.str (S v)) := by
  unfold putF
  by_cases h : k ∈ fl.map (·.1)
  · rw [if_pos h, put_fkv v h]
  · rw [if_neg h, fkv_put v h]
def fillF (ws : List (List Nat)) : Fil := ws.foldl (fun fl w => putF fl (pA 61 w) (pB 61 w)) []
theorem fillF_snoc (ws : List (List Nat)) (w : List Nat) : fillF (ws ++ [w]) = putF (fillF ws) (pA 61 w) (pB 61 w) := by
  unfold fillF
  rw [List.foldl_append]
  rfl
theorem setF_len (hf : Fil) (h f : List Nat) : (setF hf h f).length = hf.length := List.length_map _
theorem putF_len (fl : Fil) (k v : List Nat) : (putF fl k v).length ≤ fl.length + 1 := by
  unfold putF
  split
  · rw [setF_len]
    exact Nat.le_succ _
  · rw [List.length_append]
    exact Nat.le_refl _
theorem fillF_len (ws : List (List Nat)) : (fillF ws).length ≤ ws.length := by
  suffices h : ∀ n, ∀ ws : List (List Nat), ws.length = n → (fillF ws).length ≤ ws.length from h _ ws rfl
  intro n
  induction n with
  | zero =>
    intro ws h
    rw [List.length_eq_zero_iff.mp h]
    exact Nat.le_refl _
  | succ n ih =>
    intro ws h
    obtain ⟨r, w, rfl⟩ : ∃ r w, ws = r ++ [w] := ⟨ws.dropLast, ws.getLast (by intro z; rw [z] at h; cases h), (List.dropLast_concat_getLast _).symm⟩
    rw [List.length_append] at h
    rw [fillF_snoc, List.length_append]
    have h1 := putF_len (fillF r) (pA 61 w) (pB 61 w)
    have h2 := ih r (Nat.succ.inj h)
    simp only [List.length_singleton]
    omega
section
variable {P : Program} {w : World} {K : PySem.W.Frag} {mg : Str → Option Value} {base : Heap}
def spRFx : Sp := fun vs H Q _ => ∃ (a : Addr) (ws : List (List Nat)), vs = [.ref a] ∧ H a = some (.lst (txs ws)) ∧ ws.length ≤ 1000 ∧ (∀ x ∈ ws, x.length ≤ 100000) ∧ ∀ p H', Same H H' → H p = none → H' p = some (.dK (fkv (fillF ws))) → Q (.ref p) H'
theorem ok_rfx {f : Addr} {fd : FuncData} {k : Nat} (F : Fun K "_read_fillings" "_read_fillings" sRFill f fd) : FnOk P w K mg base CX0 (k + 1) f fd ["words"] spRFx := by
  refine F.ok scRF (fun vs H Q E h => ?_) (fun cdv A outer s H vs Q E hr h => ?_)
  · obtain ⟨L, fl, rfl, _⟩ := h
    rfl
  · obtain ⟨a, ws, rfl, ha, hl, hw, q⟩ := h
    have hu := hu_of hr
    have big : (1000000 : Nat) ≤ sizeLine := by rw [sizeLine_eq]; decide
    refine ⟨_, pss_cons (ps_set (i := 1) scRF.nd rfl (.inl rfl) pe_newK)
      (pss_cons (ps_for PassesOwn.never rfl (pi_list (pv 0)) (pg_name (i := 2) scRF.nd rfl (.inl rfl))
        (pss_cons (ps_asg (pe_partition (pv 2) pe_str) (pg_tup rfl (pgs_cons (pg_name (i := 3) scRF.nd rfl (.inl rfl)) (pgs_cons (pg_name (i := 4) scRF.nd rfl (.inl rfl)) (pgs_cons (pg_name (i := 5) scRF.nd rfl (.inl rfl)) pgs_nil)))))
        (pss_one (ps_dput hu (pv 1) (pv 3) (pv 5) rfl))))
      (pss_one (ps_ret (pv 1)))), ?_⟩
    intro u H1 s1 n1 e1
    have ha1 := s1 _ _ ha
    have len : (txs ws).length = ws.length := List.length_map _
    refine ⟨_, rfl, a, rfl, ⟨_, SqL.of ha1⟩, for_it (walk_list (K := K) (a := a) (xs := txs ws)) (fun i σ H' => ∃ v2 v3 v4 v5, σ = [some (.ref a), some (.ref u), v2, v3, v4, v5] ∧ Same H H' ∧ H' u = some (.dK (fkv (fillF (ws.take i)))))
      ⟨none, none, none, none, rfl, s1, e1⟩ (fun i σ H' _ ⟨_, _, _, _, _, s', _⟩ => SqL.of (s' _ _ ha)) ?_ ?_⟩
    · rintro i x σ H2 H2' hi ⟨v2, v3, v4, v5, rfl, s2, e2⟩ ⟨rfl, hx⟩
      obtain ⟨wd, hq, rfl⟩ : ∃ wd, ws[i]? = some wd ∧ x = V.str (S wd) := by
        unfold txs at hx
        rw [List.getElem?_map] at hx
        cases z : ws[i]? with
        | none => rw [z] at hx; cases hx
        | some wd =>
          rw [z] at hx
          exact ⟨wd, rfl, (Option.some.inj hx).symm⟩
      have hm := List.mem_of_getElem? hq
      refine ⟨_, rfl, ⟨_, rfl⟩, S wd, Str.ofString "=", rfl, rfl, by decide +kernel, ?_, fun p np => ?_⟩
      · rw [len_S]
        have := hw wd hm
        omega
      rw [eq_str, part_any]
      refine ⟨p, _, rfl, SqT.of upd_same, rfl, _, _, rfl, _, _, rfl, _, _, rfl, rfl, ?_⟩
      have pu : p ≠ u := fun z => by rw [z, e2] at np; cases np
      have e3 : (upd H2' p (.tup [.str (S (pA 61 wd)), .str (S (pM 61 wd)), .str (S (pB 61 wd))])) u = some (.dK (fkv (fillF (ws.take i)))) := by rw [upd_ne pu.symm]; exact e2
      refine ⟨_, rfl, _, rfl, _, rfl, u, _, rfl, DPut.k (k := Sum.inr (S (pA 61 wd))) e3 ?_, ?_⟩
      · unfold fkv
        rw [List.length_map]
        have h1 := fillF_len (ws.take i)
        have h2 : (ws.take i).length ≤ ws.length := by rw [List.length_take]; exact Nat.min_le_right _ _
        omega
      · have et : ws.take (i + 1) = ws.take i ++ [wd] := by
          rw [List.take_add_one, hq]
          rfl
        refine ⟨_, _, _, _, rfl, ?_, ?_⟩
        · intro b o eb
          rw [upd_ne (ne_of_none eb n1), upd_ne]
          · exact s2 _ _ eb
          · exact fun z => by rw [z] at eb; rw [s2 _ _ eb] at np; cases np
        · rw [upd_same, et, fillF_snoc, fkv_putF]
    · rintro σ H2 ⟨v2, v3, v4, v5, rfl, s2, e2⟩
      rw [len] at e2
      rw [List.take_length] at e2
      exact ⟨_, rfl, q u H2 s2 n1 e2⟩
/-! ### a line that tells a place, or does not -/
def wd (ws : List (List Nat)) (i : Nat) : List Nat := ws.getD i []
theorem wd_at {ws : List (List Nat)} {i : Nat} (h : i < ws.length) : (txs ws)[i]? = some (.str (S (wd ws i))) := by
  unfold txs wd
  rw [List.getElem?_map, List.getD_eq_getElem?_getD, List.getElem?_eq_getElem h]
  rfl
theorem wd_mem {ws : List (List Nat)} {i : Nat} (h : i < ws.length) : wd ws i ∈ ws := by
  unfold wd
  rw [List.getD_eq_getElem?_getD, List.getElem?_eq_getElem h]
  exact List.getElem_mem h
def PlS (ws ps : List (List Nat)) (B : List Nat) : Prop := wd ws 0 = placeW ∧ (2 ≤ ws.length ∧ ws.length ≤ 3) ∧ ps.length ≠ 50 ∧ isName (wd ws 1) = true ∧ wd ws 1 ∉ ps ∧ (ws.length = 2 ∨ wd ws 2 = [45] ∨ (wd ws 2 ≠ [] ∧ isFill (wd ws 2) B = true))
instance (ws ps : List (List Nat)) (B : List Nat) : Decidable (PlS ws ps B) := by unfold PlS; infer_instance
def spPSx : Sp := fun vs H Q _ => ∃ (a b : Addr) (B : List Nat) (ps ws : List (List Nat)), vs = [.ref a, .ref b, .str (S B)] ∧ H a = some (.lst (txs ws)) ∧ H b = some (.lst (txs ps)) ∧ ws ≠ [] ∧ (∀ x ∈ ws, x.length ≤ 1000) ∧ (∀ b ∈ B, isLow b = false) ∧
  ∀ H', Same H H' → Q (.bl (decide (PlS ws ps B))) H'
theorem ok_psx {f : Addr} {fd : FuncData} {k : Nat} (F : Fun K "_place_stands" "_place_stands" sPlSt f fd) (DN : Df P w K mg base (k + 2) "is_name" ["thing"] (spIsName K)) (DF : Df P w K mg base (k + 2) "is_filling" ["thing", "boxes"] (spIsFilling K)) (ml : mg "len" = none) (mN : ∃ t, mg "MOST_PLACES" = some (.int 50 t)) : FnOk P w K mg base CX0 (k + 3) f fd ["words", "places", "boxes"] spPSx := by
  obtain ⟨tN, mN⟩ := mN
  refine F.ok scPS (fun vs H Q E h => ?_) (fun cdv A outer s H vs Q E hr h => ?_)
  · obtain ⟨a, b, B, ps, ws, rfl, _⟩ := h
    rfl
  · obtain ⟨a, b, B, ps, ws, rfl, ha, hb, hne, hwl, hlow, q⟩ := h
    refine ⟨_, pss_cons (ps_if (PW.pt (pw_or (pt_cmpR op_ne (pe_ix ix_list (pv 0) pe_int (fun _ _ => rfl)) pe_str (nomark _)) (pw_or (pt_not (pt_chain op_le op_le pe_int (pe_callB call_lenS (by rfl) ml PySem.boot_len (pa_cons (pv 0) pa_nil)) pe_int)) (pw_or1 (pt_cmpR op_eq (pe_callB call_lenS (by rfl) ml PySem.boot_len (pa_cons (pv 1) pa_nil)) (pe_glob (v := .int 50) (by rfl) mN ⟨_, rfl⟩) (nomark _)))))) (pss_one (ps_ret pe_bl)) pss_nil)
      (pss_cons (ps_if (PW.pt (pw_or (pt_not (pt_val (pe_df DN hr (pa_cons (pe_ix ix_list (pv 0) pe_int (fun _ _ => rfl)) pa_nil)))) (pw_or1 (pt_cmpR op_in_seq (pe_ix ix_list (pv 0) pe_int (fun _ _ => rfl)) (pv 1) (by rfl))))) (pss_one (ps_ret pe_bl)) pss_nil)
      (pss_one (ps_ret (pe_or (pe_cmpR op_eq (pe_callB call_lenS (by rfl) ml PySem.boot_len (pa_cons (pv 0) pa_nil)) pe_int (nomark _)) (pe_or (pe_cmpR op_eq (pe_ix ix_list (pv 0) pe_int (fun _ _ => rfl)) pe_str (nomark _)) (pe_one (pe_and (pe_cmpR op_ne (pe_ix ix_list (pv 0) pe_int (fun _ _ => rfl)) pe_str (nomark _)) (pe_one (pe_df DF hr (pa_cons (pe_ix ix_list (pv 0) pe_int (fun _ _ => rfl)) (pa_cons (pv 2) pa_nil)))))))))))
      , ?_⟩
    have big : (1000000 : Nat) ≤ sizeLine := by rw [sizeLine_eq]; decide
    have no : ∀ {H'}, Same H H' → ¬ PlS ws ps B → Q (.bl false) H' := fun s' z => by
      have := q _ s'
      rw [decide_eq_false z] at this
      exact this
    have yes : ∀ {H'}, Same H H' → PlS ws ps B → Q (.bl true) H' := fun s' z => by
      have := q _ s'
      rw [decide_eq_true z] at this
      exact this
    have rf : Same H H := fun _ _ h => h
    have lw : (txs ws).length = ws.length := List.length_map _
    have lp : (txs ps).length = ps.length := List.length_map _
    have l0 : 0 < ws.length := List.length_pos_iff.mpr hne
    refine ⟨_, rfl, a, txs ws, 0, .str (S (wd ws 0)), rfl, rfl, SqL.of ha, atI_nat (j := 0) (wd_at l0), rfl, _, rfl, ?_⟩
    rw [place_str, dec_S]
    by_cases c0 : wd ws 0 = placeW
    case neg =>
      rw [decide_eq_false c0]
      exact iteT (no rf fun z => c0 z.1)
    rw [decide_eq_true c0]
    refine iteF ⟨_, rfl, a, txs ws, rfl, .inl (SqL.of ha), _, _, rfl, rfl, ?_⟩
    by_cases c1 : 2 ≤ ws.length
    case neg =>
      refine ⟨false, ?_, iteF ⟨false, rfl, iteT (no rf fun z => c1 z.2.1.1)⟩⟩
      rw [lw]
      exact congrArg V.bl (decide_eq_false (by omega))
    refine ⟨true, ?_, iteT ?_⟩
    · rw [lw]
      exact congrArg V.bl (decide_eq_true (by omega))
    refine ⟨_, _, rfl, rfl, decide (ws.length ≤ 3), ?_, ?_⟩
    · rw [lw]
      refine congrArg V.bl ?_
      rw [decide_eq_decide]
      omega
    by_cases c2 : ws.length ≤ 3
    case neg =>
      rw [decide_eq_false c2]
      exact iteT (no rf fun z => c2 z.2.1.2)
    rw [decide_eq_true c2]
    refine iteF ⟨_, rfl, b, txs ps, rfl, .inl (SqL.of hb), rfl, decide (ps.length = 50), ?_, ?_⟩
    · rw [lp]
      refine congrArg V.bl ?_
      rw [decide_eq_decide]
      exact ⟨fun z => by injection z with z; omega, fun z => by rw [z]; rfl⟩
    by_cases c3 : ps.length = 50
    · rw [decide_eq_true c3]
      exact iteT (no rf fun z => z.2.2.1 c3)
    rw [decide_eq_false c3]
    refine iteF ⟨_, rfl, a, txs ws, 1, .str (S (wd ws 1)), rfl, rfl, SqL.of ha, atI_nat (j := 1) (wd_at (by omega)), .inl ⟨wd ws 1, rfl, hwl _ (wd_mem (by omega)), fun H1 s1 => ⟨isName (wd ws 1), rfl, ?_⟩⟩⟩
    by_cases c4 : isName (wd ws 1) = true
    case neg =>
      rw [Bool.eq_false_iff.mpr c4]
      exact iteT (no s1 fun z => c4 z.2.2.2.1)
    rw [c4]
    have all : (txs ps).all flatV = true := by
      unfold txs
      rw [List.all_map, List.all_eq_true]
      exact fun _ _ => rfl
    refine iteF ⟨_, rfl, a, txs ws, 1, .str (S (wd ws 1)), rfl, rfl, SqL.of (s1 _ _ ha), atI_nat (j := 1) (wd_at (by omega)), _, rfl, b, txs ps, rfl, .inl (SqL.of (s1 _ _ hb)), rfl, all, decide (wd ws 1 ∈ ps), ?_, ?_⟩
    · unfold txs
      rw [inV_S]
      rfl
    by_cases c5 : wd ws 1 ∈ ps
    · rw [decide_eq_true c5]
      exact iteT (no s1 fun z => z.2.2.2.2.1 c5)
    rw [decide_eq_false c5]
    have base : wd ws 0 = placeW ∧ (2 ≤ ws.length ∧ ws.length ≤ 3) ∧ ps.length ≠ 50 ∧ isName (wd ws 1) = true ∧ wd ws 1 ∉ ps := ⟨c0, ⟨c1, c2⟩, c3, c4, c5⟩
    have fin : ∀ {H'}, Same H H' → ∀ c : Bool, (c = true ↔ (ws.length = 2 ∨ wd ws 2 = [45] ∨ (wd ws 2 ≠ [] ∧ isFill (wd ws 2) B = true))) → Q (.bl c) H' := fun s' c z => by
      cases c with
      | true => exact yes s' ⟨c0, ⟨c1, c2⟩, c3, c4, c5, z.mp rfl⟩
      | false => exact no s' fun y => Bool.false_ne_true (z.mpr y.2.2.2.2.2)
    refine iteF ⟨_, rfl, a, txs ws, rfl, .inl (SqL.of (s1 _ _ ha)), rfl, decide (ws.length = 2), ?_, ?_⟩
    · rw [lw]
      refine congrArg V.bl ?_
      rw [decide_eq_decide]
      exact ⟨fun z => by injection z with z; omega, fun z => by rw [z]; rfl⟩
    by_cases c6 : ws.length = 2
    · rw [decide_eq_true c6]
      exact iteT (fin s1 true (by simp [c6]))
    rw [decide_eq_false c6]
    have at2 : (txs ws)[2]? = some (.str (S (wd ws 2))) := wd_at (by omega)
    have fin2 : ∀ {H'}, Same H H' → ∀ c : Bool, (c = true ↔ (wd ws 2 = [45] ∨ (wd ws 2 ≠ [] ∧ isFill (wd ws 2) B = true))) → Q (.bl c) H' := fun s' c z => fin s' c (by rw [z]; simp [c6])
    refine iteF ⟨_, rfl, a, txs ws, 2, .str (S (wd ws 2)), rfl, rfl, SqL.of (s1 _ _ ha), atI_nat (j := 2) at2, rfl, decide (wd ws 2 = [45]), ?_, ?_⟩
    · rw [dash_str, dec_S]
    by_cases c7 : wd ws 2 = [45]
    · rw [decide_eq_true c7]
      exact iteT (fin2 s1 true (by simp [c7]))
    rw [decide_eq_false c7]
    refine iteF ⟨_, rfl, a, txs ws, 2, .str (S (wd ws 2)), rfl, rfl, SqL.of (s1 _ _ ha), atI_nat (j := 2) at2, rfl, !decide (wd ws 2 = []), ?_, ?_⟩
    · rw [S_nilstr, dec_S]
    by_cases c8 : wd ws 2 = []
    · rw [decide_eq_true c8]
      exact iteF (fin2 s1 false (by simp [c8]))
    rw [decide_eq_false c8]
    refine iteT ⟨_, rfl, a, txs ws, 2, .str (S (wd ws 2)), rfl, rfl, SqL.of (s1 _ _ ha), atI_nat (j := 2) at2, _, rfl, .inl ⟨wd ws 2, B, rfl, hwl _ (wd_mem (by omega)), hlow, fun H2 s2 => ?_⟩⟩
    exact fin2 (s1.trans s2) _ (by simp [c7, c8])
end
end Tb

set_option Elab.async false
set_option linter.all false
set_option maxRecDepth 100000
set_option maxHeartbeats 2000000
/-! list(d.values()); a != b of two lists of equal plain things -/
namespace Tb
open PySem PySem.Spec PyProof.Rows L2 TL
section
variable {X : Cx}
def rListV : List V → Hp → VK → Prop := fun xs H Q => ∃ p d kvs, xs = [.ref p] ∧ H p = some (valsO p d) ∧ H d = some (.dK kvs) ∧ ∀ q, H q = none → Q (.ref q) (upd H q (.lst (kvs.map Prod.snd)))
theorem call_listV (hc : X.calm = true) : CallR X (.type "list") rListV := by
  intro pins s σ H xs us Q I r h
  obtain ⟨p, d, kvs, e, hp, hk, q⟩ := h
  subst e
  obtain ⟨u, eu, rx⟩ := vals1 r
  subst eu
  obtain rfl : u = Value.ref p := rx
  have hv : s.heap.IsValuesView p d := (show ObjOk X.prog X.w H s.heap p (valsO p d) from I.hok p _ hp).1
  obtain ⟨z, lo, vs, rk, hd⟩ := (show ObjOk X.prog X.w H s.heap d (.dK kvs) from I.hok d _ hk)
  obtain ⟨ep, hat⟩ := hd.dictAt
  have hl : kvs.length = vs.length := Paired.length rk
  refine PySem.W.kdl_call (PySem.W.kdl_values (knd := mixKind X.prog X.w) (kvs := vs) (ep := ep)) (I.ok.hd hc) ⟨hv, hat⟩ (by rw [← hl]; exact z) fun h' tk acc' c' hkeep hS hacc => ?_
  refine ⟨.ref s.heap.objs.size, upd H s.heap.objs.size (.lst (kvs.map Prod.snd)), I.laid hkeep (Nat.le_refl _) (show ObjOk X.prog X.w _ _ _ (.lst (kvs.map Prod.snd)) from ⟨?_, acc'.toList, c', ?_, ?_⟩), rfl, q _ (I.hok.fresh (Nat.le_refl _))⟩
  · rw [List.length_map]; exact z
  · have el : acc'.toList.length = acc'.size := by simp
    refine vals_of_at (by rw [List.length_map, el, hacc.1, hl]) fun j x w h1 h2 => ?_
    obtain ⟨k, hky⟩ := hacc.2 j w (by rw [← Array.getElem?_toList]; exact h2)
    obtain ⟨x', h3, h4⟩ := KV.at' rk hky
    rw [List.getElem?_map, h3] at h1
    cases h1
    exact h4
  · rw [Array.toArray_toList]; exact hS
/-- xs != ys: of equal plain things -/
def rNeSame (K : PySem.W.Frag) : R2 := fun x y H Q => ∃ a b xs, x = .ref a ∧ y = .ref b ∧ SqL K H a xs ∧ SqL K H b xs ∧ xs.all flatB = true ∧ Q (.bl false) H
theorem op_neSame (hu : X.A.units + 1 < cLine) : OpR X (compareOp .NotEq) (rNeSame X.K) := by
  intro pins s σ H x y v u Q I rx ry h
  obtain ⟨a, b, xs, rfl, rfl, ha, hb, hf, q⟩ := h
  cases (show v = Value.ref a from rx)
  cases (show u = Value.ref b from ry)
  obtain ⟨us, r1, p1, _⟩ := I.list ha
  obtain ⟨ws, r2, p2, _⟩ := I.list hb
  have hsz : us.toArray.size = ws.toArray.size := by
    rw [List.size_toArray, List.size_toArray, ← r1.length, ← r2.length]
  refine SeqAt.RcNeAt.lists (A := X.A) (s := s) (e := fun _ => true) p1.isList p2.isList hsz (by omega) (fun j h1 h2 => ?_) X.prog X.w _ _ ⟨.bl false, H, I, ?_, q⟩
  · rw [List.size_toArray] at h1 h2
    have hj : j < xs.length := by rw [r1.length]; exact h1
    obtain ⟨u1, e1, q1⟩ := r1.get (List.getElem?_eq_getElem hj)
    obtain ⟨u2, e2, q2⟩ := r2.get (List.getElem?_eq_getElem hj)
    rw [List.getElem?_eq_getElem h1] at e1
    rw [List.getElem?_eq_getElem h2] at e2
    have z1 := Option.some.inj e1
    have z2 := Option.some.inj e2
    simp only [List.getElem_toArray]
    rw [z1, z2]
    exact eqAt_same q1 q2 (List.all_eq_true.mp hf _ (List.getElem_mem hj))
  · rw [show (List.range us.toArray.size).all (fun _ => true) = true from List.all_eq_true.mpr fun _ _ => rfl]
    rfl
end
end Tb

set_option Elab.async false
set_option linter.all false
set_option maxRecDepth 100000
set_option maxHeartbeats 4000000
namespace Tb
open PySem PySem.Spec PyProof.Rows L2 TL
/-! ### a line that tells a move -/
theorem cutV_drop2 (xs : List V) : cutV xs (some 2) none = xs.drop 2 := by
  unfold cutV
  rw [show (some (2 : Int)) = some ((2 : Nat) : Int) from rfl, HT.sIx_nat, HT.sIx_none]
  rcases Nat.lt_or_ge 2 xs.length with h | h
  · rw [Nat.min_eq_left (Nat.le_of_lt h)]
    exact List.take_of_length_le (by rw [List.length_drop]; exact Nat.le_refl _)
  · rw [Nat.min_eq_right h, List.drop_of_length_le (Nat.le_refl _), List.drop_of_length_le h, List.take_nil]
structure MvL (L B : List Nat) (m : Mv) : Prop where
  lt : m.lt ∈ L
  to : isName m.to = true
  tl : m.to.length ≤ 1000
  one : Ones m.fl
  srt : sortN (m.fl.map fun q => q.1.headD 0) = m.fl.map fun q => q.1.headD 0
  ne : ∀ q ∈ m.fl, q.2 ≠ []
  ok : okFils m.fl B = true
  w : FlW m.fl
  l6 : m.fl.length < 64
  fl : (m.fl.map (·.2)).flatten.length ≤ 1000
def moveWords (m : Mv) : List (List Nat) := [m.lt] :: m.to :: m.fl.map fillWord
section
variable {P : Program} {w : World} {K : PySem.W.Frag} {mg : Str → Option Value} {base : Heap}
theorem scMS : FnScope ["words", "letters", "boxes", "last", "fillings"] ["words", "letters", "boxes", "last"] (defScope sMvSt) := ⟨rfl, rfl, rfl, by decide +kernel, rfl, by decide +kernel, by decide +kernel⟩
def spMS : Sp := fun vs H Q _ => ∃ (a : Addr) (L B last : List Nat) (m : Mv), vs = [.ref a, .str (S L), .str (S B), .str (S last)] ∧ H a = some (.lst (txs (moveWords m))) ∧ MvL L B m ∧ L.length ≤ 1000 ∧ B.length ≤ 1000 ∧ (∀ b ∈ B, isLow b = false) ∧ last < [m.lt] ∧ ∀ H', Same H H' → Q (.bl true) H'
theorem ok_ms {f : Addr} {fd : FuncData} {k : Nat} (F : Fun K "_move_stands" "_move_stands" sMvSt f fd) (DN : Df P w K mg base (k + 2) "is_name" ["thing"] (spIsName K)) (DR : Df P w K mg base (k + 1) "_read_fillings" ["words"] spRF) (DF : Df P w K mg base (k + 3) "_are_fillings" ["thing", "boxes"] spAreFillings) (ml : mg "len" = none) (mL : mg "list" = none) (mS : mg "sorted" = none) : FnOk P w K mg base CX0 (k + 4) f fd ["words", "letters", "boxes", "last"] spMS := by
  refine F.ok scMS (fun vs H Q E h => ?_) (fun cdv A outer s H vs Q E hr h => ?_)
  · obtain ⟨a, L, B, last, m, rfl, _⟩ := h
    rfl
  · obtain ⟨a, L, B, last, m, rfl, ha, G, hL, hB, hlow, hlast, q⟩ := h
    have hu := hu_of hr
    have big : (1000000 : Nat) ≤ sizeLine := by rw [sizeLine_eq]; decide
    refine ⟨_, pss_cons (ps_if (PW.pt (pw_or (pt_cmpR op_lt (pe_callB call_lenS (by rfl) ml PySem.boot_len (pa_cons (pv 0) pa_nil)) pe_int (nomark _)) (pw_or (pt_cmpR op_notIn_seq (pe_ix ix_list (pv 0) pe_int (fun _ _ => rfl)) (pe_callTy (call_listStr rfl) (by rfl) mL (by decide +kernel) (pa_cons (pv 1) pa_nil)) (by rfl)) (pw_or (pt_cmpR op_le_str (pe_ix ix_list (pv 0) pe_int (fun _ _ => rfl)) (pv 3) (nomark _)) (pw_or1 (pt_not (pt_val (pe_df DN hr (pa_cons (pe_ix ix_list (pv 0) pe_int (fun _ _ => rfl)) pa_nil))))))))) (pss_one (ps_ret pe_bl)) pss_nil)
      (pss_cons (ps_set (i := 4) scMS.nd rfl (.inl rfl) (pe_df DR hr (pa_cons (pe_slice sl_listS (pv 0) (po_some pe_int) po_none) pa_nil)))
      (pss_cons (ps_if (PW.pt (pw_or (pt_cmpR (op_neSame hu) (pe_callTy (call_list_dK rfl) (by rfl) mL (by decide +kernel) (pa_cons (pv 4) pa_nil)) (pe_callB (call_sortedD rfl) (by rfl) mS (by decide +kernel) (pa_cons (pv 4) pa_nil)) (nomark _)) (pw_or1 (pt_cmpR op_ne (pe_callB call_lenD (by rfl) ml PySem.boot_len (pa_cons (pv 4) pa_nil)) (pe_callB call_lenS (by rfl) ml PySem.boot_len (pa_cons (pe_slice sl_listS (pv 0) (po_some pe_int) po_none) pa_nil)) (nomark _))))) (pss_one (ps_ret pe_bl)) pss_nil)
      (pss_one (ps_ret (pe_and (pe_cmpR op_notIn_seq pe_str (pe_callTy (call_listV rfl) (by rfl) mL (by decide +kernel) (pa_cons (pe_bm0 PySem.F.plainAttrs_dict PySem.F.slot_dict_values PySem.F.type_dict_values mt_vals (pv 4)) pa_nil)) (by rfl)) (pe_one (pe_df DF hr (pa_cons (pv 4) (pa_cons (pv 2) pa_nil))))))))), ?_⟩
    have lmw : (txs (moveWords m)).length = 2 + m.fl.length := by
      unfold txs moveWords
      rw [List.length_map, List.length_cons, List.length_cons, List.length_map]
      omega
    have cut : cutV (txs (moveWords m)) (some 2) none = txs (m.fl.map fillWord) := by
      rw [cutV_drop2]
      rfl
    have lfw : (txs (m.fl.map fillWord)).length = m.fl.length := by
      unfold txs
      rw [List.length_map, List.length_map]
    refine ⟨_, rfl, a, txs (moveWords m), rfl, .inl (SqL.of ha), _, _, rfl, rfl, false, ?_, iteF ?_⟩
    · show V.bl (decide (((txs (moveWords m)).length : Int) < 2)) = _
      rw [lmw, decide_eq_false (show ¬ (((2 + m.fl.length : Nat) : Int) < 2) by omega)]
    refine ⟨_, rfl, a, txs (moveWords m), 0, .str (S [m.lt]), rfl, rfl, SqL.of ha, atI_nat (j := 0) rfl, _, rfl, L, rfl, hL, fun l1 H1 s1 n1 e1 => ⟨l1, sgs L, rfl, .inl (SqL.of e1), rfl, ?_, false, ?_, iteF ?_⟩⟩
    · unfold sgs
      rw [List.all_map, List.all_eq_true]
      exact fun _ _ => rfl
    · rw [sgs_txs]
      unfold txs
      rw [inV_S, decide_eq_true (List.mem_map.mpr ⟨m.lt, G.lt, rfl⟩)]
      rfl
    refine ⟨_, rfl, a, txs (moveWords m), 0, .str (S [m.lt]), rfl, rfl, SqL.of (s1 _ _ ha), atI_nat (j := 0) rfl, _, rfl, S [m.lt], S last, rfl, rfl, false, ?_, iteF ?_⟩
    · rw [show (S last).cps.toList = last from rfl, show (S [m.lt]).cps.toList = [m.lt] from rfl, decide_eq_true hlast]
      rfl
    refine ⟨_, rfl, a, txs (moveWords m), 1, .str (S m.to), rfl, rfl, SqL.of (s1 _ _ ha), atI_nat (j := 1) rfl, .inl ⟨m.to, rfl, G.tl, fun H2 s2 => ⟨true, by rw [G.to], iteF ?_⟩⟩⟩
    have s02 := s1.trans s2
    refine ⟨_, rfl, _, rfl, a, txs (moveWords m), rfl, SqL.of (s02 _ _ ha), fun c1 H3 s3 n3 e3 => ⟨c1, m.fl, rfl, by rw [← cut]; exact e3, G.w, fun d H4 s4 n4 e4 => ?_⟩⟩
    have s04 := s02.trans (s3.trans s4)
    -- the keys
    have hks : (fkv m.fl).map (·.1) = ((m.fl.map fun q => q.1.headD 0).map fun b => S [b]).map Sum.inr := by
      have h1 : (fkv m.fl).map (·.1) = (m.fl.map (·.1)).map fun c => (Sum.inr (S c) : Key) := by
        unfold fkv
        rw [List.map_map, List.map_map]
        rfl
      rw [h1, heads_keys G.one]
      simp only [List.map_map]
      rfl
    have hkv : (fkv m.fl).map (fun kv => kV kv.1) = sgs (m.fl.map fun q => q.1.headD 0) := by
      rw [keys_fkv, heads_keys G.one, ← sgs_txs]
    refine ⟨_, rfl, d, fkv m.fl, rfl, e4, fun q1 nq1 => ?_⟩
    have s5 := same_upd (o := .lst ((fkv m.fl).map fun kv => kV kv.1)) nq1
    have e5 : (upd H4 q1 (.lst ((fkv m.fl).map fun kv => kV kv.1))) q1 = some (.lst (sgs (m.fl.map fun q => q.1.headD 0))) := by rw [upd_same, hkv]
    have d5 := s5 _ _ e4
    generalize upd H4 q1 (.lst ((fkv m.fl).map fun kv => kV kv.1)) = H5 at s5 e5 d5
    refine ⟨_, rfl, d, fkv m.fl, _, rfl, .inl d5, hks, by rw [List.length_map, List.length_map]; exact G.l6, fun ys q2 hp hs nq2 => ?_⟩
    have ey := sorted_signs hp hs
    rw [G.srt] at ey
    have ey2 : ys.map V.str = sgs (m.fl.map fun q => q.1.headD 0) := by
      rw [ey]
      unfold sgs
      rw [List.map_map]
      rfl
    have s6 := same_upd (o := .lst (ys.map V.str)) nq2
    have e6 : (upd H5 q2 (.lst (ys.map V.str))) q2 = some (.lst (sgs (m.fl.map fun q => q.1.headD 0))) := by rw [upd_same, ey2]
    have e56 := s6 _ _ e5
    have d6 := s6 _ _ d5
    generalize upd H5 q2 (.lst (ys.map V.str)) = H6 at s6 e6 e56 d6
    have s06 := s04.trans (s5.trans s6)
    refine ⟨q1, q2, _, rfl, rfl, SqL.of e56, SqL.of e6, ?_, false, rfl, iteF ?_⟩
    · unfold sgs
      rw [List.all_map, List.all_eq_true]
      exact fun _ _ => rfl
    refine ⟨_, rfl, d, fkv m.fl, rfl, d6, _, rfl, _, rfl, a, txs (moveWords m), rfl, SqL.of (s06 _ _ ha), fun c2 H7 s7 n7 e7 => ?_⟩
    have s07 := s06.trans s7
    have d7 := s7 _ _ d6
    refine ⟨c2, txs (m.fl.map fillWord), rfl, .inl (SqL.of (by rw [← cut]; exact e7)), rfl, false, ?_, iteF ?_⟩
    · rw [lfw, show (fkv m.fl).length = m.fl.length from List.length_map _]
      simp
    have tyd : tyV K "dict" (.ref d) H7 := .inr (.inr (.inl ⟨rfl, .inl ⟨_, d7⟩⟩))
    refine ⟨_, rfl, tyd, d, fkv m.fl, rfl, rfl, d7, fun v8 n8 => ?_⟩
    have s8 := same_upd (o := valsO v8 d) n8
    have e8 : (upd H7 v8 (valsO v8 d)) v8 = some (valsO v8 d) := upd_same
    have d8 := s8 _ _ d7
    generalize upd H7 v8 (valsO v8 d) = H8 at s8 e8 d8
    refine ⟨v8, d, fkv m.fl, rfl, e8, d8, fun q9 n9 => ?_⟩
    have s9 := same_upd (o := .lst ((fkv m.fl).map Prod.snd)) n9
    have e9 : (upd H8 q9 (.lst ((fkv m.fl).map Prod.snd))) q9 = some (.lst (txs (m.fl.map (·.2)))) := by rw [upd_same, vals_fkv]
    have d9 := s9 _ _ d8
    generalize upd H8 q9 (.lst ((fkv m.fl).map Prod.snd)) = H9 at s9 e9 d9
    have s09 := s07.trans (s8.trans s9)
    refine ⟨q9, txs (m.fl.map (·.2)), rfl, .inl (SqL.of e9), rfl, ?_, true, ?_, iteT ?_⟩
    · unfold txs
      rw [List.all_map, List.all_eq_true]
      exact fun _ _ => rfl
    · rw [S_nilstr]
      unfold txs
      rw [inV_S, decide_eq_false]
      · rfl
      · intro z
        obtain ⟨x, hx, e⟩ := List.mem_map.mp z
        exact G.ne x hx e
    · refine ⟨_, rfl, _, rfl, d, m.fl, B, rfl, d9, G.w.2.2.1, G.fl, hB, hlow, fun H' s' => ?_⟩
      rw [G.ok]
      exact q _ (s09.trans s')
end
end Tb

set_option Elab.async false
set_option linter.all false
set_option maxRecDepth 100000
set_option maxHeartbeats 4000000
namespace Tb
open PySem PySem.Spec PyProof.Rows L2 TL
/-! ### lines, as what they tell -/
inductive Ln where
  | pl (c : List Nat) (e : Option (List Nat))
  | mv (m : Mv)
def Ln.words : Ln → List (List Nat)
  | .pl c e => placeWords c e
  | .mv m => moveWords m
def Ln.line (d : Ln) : List Nat := joinL [32] d.words
def Ln.pls : Ln → List (List Nat)
  | .pl c _ => [c]
  | .mv _ => []
def Ln.mvs : Ln → List Mv
  | .pl _ _ => []
  | .mv m => [m]
def Ln.ens : Ln → Fil
  | .pl c (some f) => [(c, f)]
  | _ => []
def plOf (ds : List Ln) : List (List Nat) := ds.flatMap Ln.pls
def mvOf (ds : List Ln) : List Mv := ds.flatMap Ln.mvs
def enOf (ds : List Ln) : Fil := ds.flatMap Ln.ens
def Ln.last : Ln → List Nat
  | .pl _ _ => []
  | .mv m => [m.lt]
def lastOf (ds : List Ln) : List Nat := match ds.getLast? with
  | some d => d.last
  | none => []
theorem plOf_snoc (ds : List Ln) (d : Ln) : plOf (ds ++ [d]) = plOf ds ++ d.pls := by unfold plOf; simp
theorem mvOf_snoc (ds : List Ln) (d : Ln) : mvOf (ds ++ [d]) = mvOf ds ++ d.mvs := by unfold mvOf; simp
theorem enOf_snoc (ds : List Ln) (d : Ln) : enOf (ds ++ [d]) = enOf ds ++ d.ens := by unfold enOf; simp
theorem lastOf_snoc (ds : List Ln) (d : Ln) : lastOf (ds ++ [d]) = d.last := by unfold lastOf; simp
/-- a line that can stand where it stands -/
def LnOk (L B : List Nat) (all pre : List Ln) (d : Ln) : Prop := (d.line.length ≤ 100000) ∧ (∀ x ∈ d.words, 32 ∉ x) ∧ (plOf pre).length ≤ 50 ∧ (mvOf pre).length ≤ 1000 ∧ match d with
  | .pl c e => isName c = true ∧ c.length ≤ 1000 ∧ c ∉ plOf pre ∧ c ∉ (enOf pre).map (·.1) ∧ (enOf pre).length ≤ 1000 ∧ EndW B e ∧ (plOf pre).length < 50
  | .mv m => MvL L B m ∧ (plOf pre).getLast? = some m.pl ∧ lastOf pre < [m.lt] ∧ m.key ∉ (mvOf pre).map Mv.key ∧ m.to ∈ plOf all ∧ [m.lt] ≠ placeW
def LnsOk (L B : List Nat) (ds : List Ln) : Prop := ∀ i d, ds[i]? = some d → LnOk L B ds (ds.take i) d
/-! ### the objects that are filled -/
structure RPb (Hb : Hp) (g1 g2 g3 g4 : Addr) : Prop where
  h1 : Hb g1 = some (.lst [])
  h2 : Hb g2 = some (.dT [])
  h3 : Hb g3 = some (.dK [])
  h4 : Hb g4 = some (.lst [])
  n14 : g1 ≠ g4
theorem refs_inj : ∀ {a b : List Addr}, a.map V.ref = b.map V.ref → a = b
  | [], [], _ => rfl
  | [], _ :: _, h => by cases h
  | _ :: _, [], h => by cases h
  | x :: a, y :: b, h => by
    rw [List.map_cons, List.map_cons] at h
    injection h with h1 h2
    injection h1 with h1
    rw [h1, refs_inj h2]
/-- a lead: a new pair -/
def LdAt (H : Hp) (t : Addr) (c : List Nat) : Prop := ∃ n : Int, H t = some (.tup [.int n, .str (S c)])
structure RPg (Hb H : Hp) (g1 g2 g3 g4 : Addr) (ps : List (List Nat)) (ms : List Mv) (es : Fil) (ls : List (List Nat)) : Prop where
  old : ∀ b o, Hb b = some o → b ≠ g1 → b ≠ g2 → b ≠ g3 → b ≠ g4 → H b = some o
  l1 : H g1 = some (.lst (txs ps))
  m : ∃ kk, H g2 = some (.dT kk) ∧ Paired (MvNew Hb H) kk ms
  e : H g3 = some (.dK (fkv es))
  le : ∃ ts : List Addr, H g4 = some (.lst (ts.map V.ref)) ∧ Paired (LdAt H) ts ls
theorem MvNew.same {H0 H H' : Hp} (s : Same H H') {kv : List Key × V} {m : Mv} (h : MvNew H0 H kv m) : MvNew H0 H' kv m := by
  obtain ⟨e, t, d, a, b, c, n⟩ := h
  exact ⟨e, t, d, a, s _ _ b, s _ _ c, n⟩
/-- one object changes: none that a move or a lead is made of -/
theorem MvNew.upd {H0 H : Hp} {g : Addr} {o : HO} {kv : List Key × V} {m : Mv} (h : MvNew H0 H kv m) (ht : ∀ xs, H g ≠ some (.tup xs)) (h0 : H0 g ≠ none) : MvNew H0 (upd H g o) kv m := by
  obtain ⟨e, t, d, a, b, c, n⟩ := h
  refine ⟨e, t, d, a, ?_, ?_, n⟩
  · rw [upd_ne (fun z => ht _ (z ▸ b))]
    exact b
  · rw [upd_ne (fun z => h0 (by rw [← z]; exact n))]
    exact c
theorem LdAt.same {H H' : Hp} (s : Same H H') {t : Addr} {c : List Nat} (h : LdAt H t c) : LdAt H' t c := by
  obtain ⟨n, e⟩ := h
  exact ⟨n, s _ _ e⟩
theorem LdAt.upd {H : Hp} {g : Addr} {o : HO} {t : Addr} {c : List Nat} (h : LdAt H t c) (ht : ∀ xs, H g ≠ some (.tup xs)) : LdAt (upd H g o) t c := by
  obtain ⟨n, e⟩ := h
  refine ⟨n, ?_⟩
  rw [upd_ne (fun z => ht _ (z ▸ e))]
  exact e
section
variable {Hb H H' : Hp} {g1 g2 g3 g4 : Addr} {ps : List (List Nat)} {ms : List Mv} {es : Fil} {ls : List (List Nat)}
theorem RPg.same (h : RPg Hb H g1 g2 g3 g4 ps ms es ls) (s : Same H H') : RPg Hb H' g1 g2 g3 g4 ps ms es ls where
  old := fun b o e n1 n2 n3 n4 => s _ _ (h.old b o e n1 n2 n3 n4)
  l1 := s _ _ h.l1
  m := let ⟨kk, e, p⟩ := h.m; ⟨kk, s _ _ e, Paired.mono (fun _ _ z => z.same s) p⟩
  e := s _ _ h.e
  le := let ⟨ts, e, p⟩ := h.le; ⟨ts, s _ _ e, Paired.mono (fun _ _ z => z.same s) p⟩
theorem RPg.start (b : RPb Hb g1 g2 g3 g4) : RPg Hb Hb g1 g2 g3 g4 [] [] [] [] :=
  ⟨fun _ _ e _ _ _ _ => e, b.h1, ⟨[], b.h2, .nil⟩, b.h3, ⟨[], b.h4, .nil⟩⟩
theorem RPg.n12 (h : RPg Hb H g1 g2 g3 g4 ps ms es ls) : g1 ≠ g2 := fun z => by
  obtain ⟨kk, e, _⟩ := h.m
  rw [← z, h.l1] at e
  cases e
theorem RPg.n13 (h : RPg Hb H g1 g2 g3 g4 ps ms es ls) : g1 ≠ g3 := fun z => by
  have e := h.e
  rw [← z, h.l1] at e
  cases e
theorem RPg.n23 (h : RPg Hb H g1 g2 g3 g4 ps ms es ls) : g2 ≠ g3 := fun z => by
  obtain ⟨kk, e1, _⟩ := h.m
  have e := h.e
  rw [← z, e1] at e
  cases e
theorem RPg.n24 (h : RPg Hb H g1 g2 g3 g4 ps ms es ls) : g2 ≠ g4 := fun z => by
  obtain ⟨kk, e1, _⟩ := h.m
  obtain ⟨ts, e, _⟩ := h.le
  rw [← z, e1] at e
  cases e
theorem RPg.n34 (h : RPg Hb H g1 g2 g3 g4 ps ms es ls) : g3 ≠ g4 := fun z => by
  obtain ⟨ts, e, _⟩ := h.le
  rw [← z, h.e] at e
  cases e
/-- a place is put -/
theorem RPg.place (b : RPb Hb g1 g2 g3 g4) (h : RPg Hb H g1 g2 g3 g4 ps ms es ls) (c : List Nat) : RPg Hb (upd H g1 (.lst (txs ps ++ [.str (S c)]))) g1 g2 g3 g4 (ps ++ [c]) ms es ls where
  old := fun b o e n1 n2 n3 n4 => by rw [upd_ne n1]; exact h.old b o e n1 n2 n3 n4
  l1 := by rw [upd_same]; unfold txs; rw [List.map_append]; rfl
  m := by
    obtain ⟨kk, e, p⟩ := h.m
    refine ⟨kk, by rw [upd_ne h.n12.symm]; exact e, Paired.mono (fun _ _ z => z.upd (fun xs z => ?_) (fun z => ?_)) p⟩
    · rw [h.l1] at z
      cases z
    · rw [b.h1] at z
      cases z
  e := by rw [upd_ne h.n13.symm]; exact h.e
  le := by
    obtain ⟨ts, e, p⟩ := h.le
    refine ⟨ts, by rw [upd_ne b.n14.symm]; exact e, Paired.mono (fun _ _ z => z.upd fun xs z => ?_) p⟩
    rw [h.l1] at z
    cases z
/-- an end is put -/
theorem RPg.end' (b : RPb Hb g1 g2 g3 g4) (h : RPg Hb H g1 g2 g3 g4 ps ms es ls) (c f : List Nat) (hc : c ∉ es.map (·.1)) : RPg Hb (upd H g3 (.dK (putK (fkv es) (Sum.inr (S c)) (.str (S f))))) g1 g2 g3 g4 ps ms (es ++ [(c, f)]) ls where
  old := fun b o e n1 n2 n3 n4 => by rw [upd_ne n3]; exact h.old b o e n1 n2 n3 n4
  l1 := by rw [upd_ne h.n13]; exact h.l1
  m := by
    obtain ⟨kk, e, p⟩ := h.m
    refine ⟨kk, by rw [upd_ne h.n23]; exact e, Paired.mono (fun _ _ z => z.upd (fun xs z => ?_) (fun z => ?_)) p⟩
    · rw [h.e] at z
      cases z
    · rw [b.h3] at z
      cases z
  e := by rw [upd_same, fkv_put f hc]
  le := by
    obtain ⟨ts, e, p⟩ := h.le
    refine ⟨ts, by rw [upd_ne h.n34.symm]; exact e, Paired.mono (fun _ _ z => z.upd fun xs z => ?_) p⟩
    rw [h.e] at z
    cases z
theorem keys_new {H0 H : Hp} : ∀ {kvs : List (List Key × V)} {ms : List Mv}, Paired (MvNew H0 H) kvs ms → kvs.map (·.1) = ms.map Mv.key
  | _, _, .nil => rfl
  | _, _, .cons h t => by
    rw [List.map_cons, List.map_cons, keys_new t, h.1]
/-- a move is put -/
theorem RPg.move (b : RPb Hb g1 g2 g3 g4) (h : RPg Hb H g1 g2 g3 g4 ps ms es ls) (m : Mv) (hm : m.key ∉ ms.map Mv.key) {t d : Addr} (ht : H t = some (.tup [.str (S m.to), .ref d])) (hd : H d = some (.dK (fkv m.fl))) (nd : Hb d = none) {kk : List (List Key × V)} (hk : H g2 = some (.dT kk)) :
    RPg Hb (upd H g2 (.dT (putK kk m.key (.ref t)))) g1 g2 g3 g4 ps (ms ++ [m]) es ls where
  old := fun b o e n1 n2 n3 n4 => by rw [upd_ne n2]; exact h.old b o e n1 n2 n3 n4
  l1 := by rw [upd_ne h.n12]; exact h.l1
  m := by
    obtain ⟨kk', e, p⟩ := h.m
    rw [hk] at e
    cases e
    have kn : m.key ∉ kk.map (·.1) := by rw [keys_new p]; exact hm
    refine ⟨kk ++ [(m.key, .ref t)], by rw [upd_same, putK_end _ kn], ?_⟩
    have up : ∀ kv m', MvNew Hb H kv m' → MvNew Hb (upd H g2 (.dT (putK kk m.key (.ref t)))) kv m' := fun kv m' z => z.upd (fun xs z => by rw [hk] at z; cases z) (fun z => by rw [b.h2] at z; cases z)
    exact (Paired.mono up p).snoc (up _ _ ⟨rfl, t, d, rfl, ht, hd, nd⟩)
  e := by rw [upd_ne h.n23.symm]; exact h.e
  le := by
    obtain ⟨ts, e, p⟩ := h.le
    refine ⟨ts, by rw [upd_ne h.n24.symm]; exact e, Paired.mono (fun _ _ z => z.upd fun xs z => ?_) p⟩
    rw [hk] at z
    cases z
/-- a lead is put -/
theorem RPg.lead (b : RPb Hb g1 g2 g3 g4) (h : RPg Hb H g1 g2 g3 g4 ps ms es ls) (c : List Nat) {T : Addr} (hT : LdAt H T c) {ts : List Addr} (hl : H g4 = some (.lst (ts.map V.ref))) :
    RPg Hb (upd H g4 (.lst (ts.map V.ref ++ [.ref T]))) g1 g2 g3 g4 ps ms es (ls ++ [c]) where
  old := fun b o e n1 n2 n3 n4 => by rw [upd_ne n4]; exact h.old b o e n1 n2 n3 n4
  l1 := by rw [upd_ne b.n14]; exact h.l1
  m := by
    obtain ⟨kk, e, p⟩ := h.m
    refine ⟨kk, by rw [upd_ne h.n24]; exact e, Paired.mono (fun _ _ z => z.upd (fun xs z => ?_) (fun z => ?_)) p⟩
    · rw [hl] at z
      cases z
    · rw [b.h4] at z
      cases z
  e := by rw [upd_ne h.n34]; exact h.e
  le := by
    obtain ⟨ts', e, p⟩ := h.le
    rw [hl] at e
    injection e with e
    injection e with e
    have : ts = ts' := refs_inj e
    subst this
    have up : ∀ t c', LdAt H t c' → LdAt (upd H g4 (.lst (ts.map V.ref ++ [.ref T]))) t c' := fun t c' z => z.upd fun xs z => by rw [hl] at z; cases z
    exact ⟨ts ++ [T], by rw [upd_same, List.map_append]; rfl, (Paired.mono up p).snoc (up _ _ hT)⟩
end
end Tb

set_option Elab.async false
set_option linter.all false
set_option maxRecDepth 100000
set_option maxHeartbeats 4000000
namespace Tb
open PySem PySem.Spec PyProof.Rows L2 TL
theorem RPg.free {Hb H : Hp} {g1 g2 g3 g4 : Addr} {ps : List (List Nat)} {ms : List Mv} {es : Fil} {ls : List (List Nat)} (h : RPg Hb H g1 g2 g3 g4 ps ms es ls) {x : Addr} (n : H x = none) : Hb x = none := by
  cases z : Hb x with
  | none => rfl
  | some o =>
    exfalso
    have h1 : x ≠ g1 := fun e => by rw [e, h.l1] at n; cases n
    have h2 : x ≠ g2 := fun e => by rw [e, h.m.choose_spec.1] at n; cases n
    have h3 : x ≠ g3 := fun e => by rw [e, h.e] at n; cases n
    have h4 : x ≠ g4 := fun e => by rw [e, h.le.choose_spec.1] at n; cases n
    rw [h.old x o z h1 h2 h3 h4] at n
    cases n
theorem mem_mvOf {ds : List Ln} {m : Mv} (h : m ∈ mvOf ds) : ∃ i : Nat, ds[i]? = some (Ln.mv m) := by
  obtain ⟨d, hd, hm⟩ := List.mem_flatMap.mp h
  cases d with
  | pl c e => cases hm
  | mv m' =>
    cases (List.mem_singleton.mp hm)
    exact List.mem_iff_getElem?.mp hd
theorem split_line {ws : List (List Nat)} (hne : ws ≠ []) (h : ∀ x ∈ ws, 32 ∉ x) : (Txt.split (S (joinL [32] ws)) (S [32])).map V.str = txs ws := by
  have e := TL.split_join (y := S [32]) (s := 32) (S := []) rfl (by decide +kernel) (parts := ws.map S) (fun z => hne (List.map_eq_nil_iff.mp z)) (fun p hp => by
    obtain ⟨x, hx, rfl⟩ := List.mem_map.mp hp
    exact h x hx)
  rw [join_S] at e
  rw [e]
  unfold txs
  rw [List.map_map]
  rfl
theorem Ln.words_ne (d : Ln) : d.words ≠ [] := by
  cases d with
  | pl c e =>
    show placeWords c e ≠ []
    unfold placeWords
    exact List.cons_ne_nil _ _
  | mv m => exact List.cons_ne_nil _ _
theorem take_succ {α : Type} {l : List α} {i : Nat} {x : α} (h : l[i]? = some x) : l.take (i + 1) = l.take i ++ [x] := by
  rw [List.take_add_one, h]
  rfl
theorem txs_len (l : List (List Nat)) : (txs l).length = l.length := by unfold txs; rw [List.length_map]
section
variable {P : Program} {w : World} {K : PySem.W.Frag} {mg : Str → Option Value} {base : Heap}
theorem scRP : FnScope ["lines", "letters", "boxes", "places", "moves", "ends", "leads", "last", "number", "line", "words", "target"] ["lines", "letters", "boxes"] (defScope sRPlaces) := ⟨rfl, rfl, rfl, by decide +kernel, rfl, by decide +kernel, by decide +kernel⟩
def spRP : Sp := fun vs H Q _ => ∃ (a : Addr) (L B : List Nat) (l1 l2 : List Nat) (ds : List Ln), vs = [.ref a, .str (S L), .str (S B)] ∧ H a = some (.lst (txs (l1 :: l2 :: ds.map Ln.line))) ∧ LnsOk L B ds ∧ L.length ≤ 1000 ∧ B.length ≤ 1000 ∧ (∀ b ∈ B, isLow b = false) ∧ ds.length ≤ 1000 ∧
  ∀ p tp tm te Hb H' kk, Same H Hb → Same H H' → H' p = some (.tup [.ref tp, .ref tm, .ref te]) → H' tp = some (.lst (txs (plOf ds))) → H' tm = some (.dT kk) → Paired (MvNew Hb H') kk (mvOf ds) → H' te = some (.dK (fkv (enOf ds))) → Q (.ref p) H'
theorem ok_rp {f : Addr} {fd : FuncData} {k : Nat} (F : Fun K "_read_places" "_read_places" sRPlaces f fd) (DPS : Df P w K mg base (k + 3) "_place_stands" ["words", "places", "boxes"] spPS) (DMS : Df P w K mg base (k + 4) "_move_stands" ["words", "letters", "boxes", "last"] spMS) (DRF : Df P w K mg base (k + 1) "_read_fillings" ["words"] spRF) (ml : mg "len" = none) (me : mg "enumerate" = none) : FnOk P w K mg base CX0 (k + 5) f fd ["lines", "letters", "boxes"] spRP := by
  refine F.ok scRP (fun vs H Q E h => ?_) (fun cdv A outer s H vs Q E hr h => ?_)
  · obtain ⟨a, L, B, l1, l2, ds, rfl, _⟩ := h
    rfl
  · obtain ⟨a, L, B, l1, l2, ds, rfl, ha, ok, hL, hB, hlow, hd, q⟩ := h
    have hu := hu_of hr
    have big : (1000000 : Nat) ≤ sizeLine := by rw [sizeLine_eq]; decide
    refine ⟨_, pss_cons (ps_set (i := 3) scRP.nd rfl (.inl rfl) (pe_lstS pa_nil))
      (pss_cons (ps_set (i := 4) scRP.nd rfl (.inl rfl) pe_newT)
      (pss_cons (ps_set (i := 5) scRP.nd rfl (.inl rfl) pe_newK)
      (pss_cons (ps_set (i := 6) scRP.nd rfl (.inl rfl) (pe_lstS pa_nil))
      (pss_cons (ps_set (i := 7) scRP.nd rfl (.inl rfl) pe_str)
      (pss_cons (ps_for PassesOwn.never rfl (pi_enumK (by rfl) me (pa_cons (pe_slice sl_listS (pv 0) (po_some pe_int) po_none) pa_nil) (pk_cons pe_int pk_nil)) (pg_tup rfl (pgs_cons (pg_name (i := 8) scRP.nd rfl (.inl rfl)) (pgs_cons (pg_name (i := 9) scRP.nd rfl (.inl rfl)) pgs_nil)))
        (pss_cons (ps_set (i := 10) scRP.nd rfl (.inl rfl) (pe_split (pv 9) pe_str))
        (pss_one (ps_if (pt_val (pe_df DPS hr (pa_cons (pv 10) (pa_cons (pv 3) (pa_cons (pv 2) pa_nil)))))
          (pss_cons (ps_expr (pe_bm PySem.F.plainAttrs_list PySem.F.slot_list_append PySem.F.type_list_append mt_append (pv 3) (pa_cons (pe_ix ix_list (pv 10) pe_int (fun _ _ => rfl)) pa_nil)))
          (pss_cons (ps_if (pt_cmpR op_eq (pe_callB call_lenS (by rfl) ml PySem.boot_len (pa_cons (pv 10) pa_nil)) pe_int (nomark _)) (pss_one (ps_dput hu (pv 5) (pe_ix ix_list (pv 10) pe_int (fun _ _ => rfl)) (pe_ifExp (pt_cmpR op_eq (pe_ix ix_list (pv 10) pe_int (fun _ _ => rfl)) pe_str (nomark _)) pe_str (pe_ix ix_list (pv 10) pe_int (fun _ _ => rfl))) rfl)) pss_nil)
          (pss_one (ps_set (i := 7) scRP.nd rfl (.inl rfl) pe_str))))
          (pss_one (ps_if (PW.pt (pw_and (pt_truth (pv 3) (fun _ => rfl)) (pw_and1 (pt_val (pe_df DMS hr (pa_cons (pv 10) (pa_cons (pv 1) (pa_cons (pv 2) (pa_cons (pv 7) pa_nil)))))))))
            (pss_cons (ps_dput hu (pv 4) (pe_tupS (pa_cons (pe_ix ix_list (pv 3) (pe_un un_neg pe_int) (fun _ _ => rfl)) (pa_cons (pe_ix ix_list (pv 10) pe_int (fun _ _ => rfl)) pa_nil))) (pe_tupS (pa_cons (pe_ix ix_list (pv 10) pe_int (fun _ _ => rfl)) (pa_cons (pe_df DRF hr (pa_cons (pe_slice sl_listS (pv 10) (po_some pe_int) po_none) pa_nil)) pa_nil))) rfl)
            (pss_cons (ps_expr (pe_bm PySem.F.plainAttrs_list PySem.F.slot_list_append PySem.F.type_list_append mt_append (pv 6) (pa_cons (pe_tupS (pa_cons (pv 8) (pa_cons (pe_ix ix_list (pv 10) pe_int (fun _ _ => rfl)) pa_nil))) pa_nil)))
            (pss_one (ps_set (i := 7) scRP.nd rfl (.inl rfl) (pe_ix ix_list (pv 10) pe_int (fun _ _ => rfl))))))
            (pss_one ps_dead)))))))
      (pss_cons (ps_for PassesOwn.never rfl (pi_list (pv 6)) (pg_tup rfl (pgs_cons (pg_name (i := 8) scRP.nd rfl (.inl rfl)) (pgs_cons (pg_name (i := 11) scRP.nd rfl (.inl rfl)) pgs_nil)))
        (pss_one (ps_if (pt_cmpR op_notIn_seq (pv 11) (pv 3) (by rfl)) (pss_one ps_dead) pss_nil)))
      (pss_one (ps_ret (pe_tupS (pa_cons (pv 3) (pa_cons (pv 4) (pa_cons (pv 5) pa_nil)))))))))))), ?_⟩
    refine ⟨by show 0 ≤ sizeLine; omega, fun g1 H1 s1 n1 e1 => ?_⟩
    intro g2 H2 s2 n2 e2
    intro g3 H3 s3 n3 e3
    refine ⟨by show 0 ≤ sizeLine; omega, fun g4 H4 s4 n4 e4 => ?_⟩
    have s04 := s1.trans (s2.trans (s3.trans s4))
    refine ⟨_, rfl, _, rfl, a, _, rfl, SqL.of (s04 _ _ ha), fun c1 H5 s5 n5 e5 => ?_⟩
    have e5' : H5 c1 = some (.lst (txs (ds.map Ln.line))) := by rw [e5, cutV_drop2]; rfl
    have s05 := s04.trans s5
    have bb : RPb H5 g1 g2 g3 g4 := ⟨(s2.trans (s3.trans (s4.trans s5))) _ _ e1, (s3.trans (s4.trans s5)) _ _ e2, (s4.trans s5) _ _ e3, s5 _ _ e4, ne_of_none ((s2.trans s3) _ _ e1) n4⟩
    have c1g1 : c1 ≠ g1 := (ne_of_none ((s2.trans (s3.trans s4)) _ _ e1) n5).symm
    have c1g2 : c1 ≠ g2 := (ne_of_none ((s3.trans s4) _ _ e2) n5).symm
    have c1g3 : c1 ≠ g3 := (ne_of_none (s4 _ _ e3) n5).symm
    have c1g4 : c1 ≠ g4 := (ne_of_none e4 n5).symm
    have old : ∀ {H' : Hp} {ps ms es ls}, RPg H5 H' g1 g2 g3 g4 ps ms es ls → Same H H' := fun r b o e => by
      refine r.old b o (s05 _ _ e) (ne_of_none e n1) (ne_of_none (s1 _ _ e) n2) (ne_of_none ((s1.trans s2) _ _ e) n3) (ne_of_none ((s1.trans (s2.trans s3)) _ _ e) n4)
    refine ⟨c1, _, 3, rfl, rfl, by decide, by decide, SqL.of e5', for_it (walk_enumK (K := K) (c := 3) (a := c1) (xs := txs (ds.map Ln.line))) (fun i σ H' => ∃ v8 v9 v10 v11, σ = [some (.ref a), some (.str (S L)), some (.str (S B)), some (.ref g1), some (.ref g2), some (.ref g3), some (.ref g4), some (.str (S (lastOf (ds.take i)))), v8, v9, v10, v11] ∧
        RPg H5 H' g1 g2 g3 g4 (plOf (ds.take i)) (mvOf (ds.take i)) (enOf (ds.take i)) ((mvOf (ds.take i)).map (·.to)))
      ⟨none, none, none, none, by rw [S_nilstr]; rfl, RPg.start bb⟩ (fun i σ H' _ ⟨_, _, _, _, _, r⟩ => SqL.of (r.old _ _ e5' c1g1 c1g2 c1g3 c1g4)) ?_ ?_⟩
    · rintro i x σ H6 H6' hi ⟨v8, v9, v10, v11, rfl, r6⟩ ⟨T, x1, y, rfl, nT, rfl, hx, hy⟩
      cases (Option.some.inj hx)
      obtain ⟨d, hd', rfl⟩ : ∃ d, ds[i]? = some d ∧ y = V.str (S d.line) := by
        have hy : (txs (ds.map Ln.line))[i]? = some y := hy
        unfold txs at hy
        rw [List.map_map, List.getElem?_map] at hy
        cases z : ds[i]? with
        | none => rw [z] at hy; cases hy
        | some d =>
          rw [z] at hy
          exact ⟨d, rfl, (Option.some.inj hy).symm⟩
      have okd := ok i d hd'
      have et := take_succ hd'
      refine ⟨T, _, rfl, SqT.of upd_same, rfl, _, _, rfl, _, _, rfl, rfl, ?_⟩
      have r7 := r6.same (same_upd (o := .tup [.int (3 + (i : Int)), .str (S d.line)]) nT)
      generalize upd H6 T (.tup [.int (3 + (i : Int)), .str (S d.line)]) = H7 at r7
      obtain ⟨hlen, hsp, h50, hm1, okd⟩ := okd
      refine ⟨_, rfl, ⟨_, rfl⟩, S d.line, Str.ofString " ", rfl, rfl, by decide +kernel, by rw [len_S]; omega, fun p np => ?_⟩
      rw [sp_str, show S d.line = S (joinL [32] d.words) from rfl, split_line d.words_ne hsp]
      have s8 := same_upd (o := .lst (txs d.words)) np
      have e8 : (upd H7 p (.lst (txs d.words))) p = some (.lst (txs d.words)) := upd_same
      have r8 := r7.same s8
      have pg1 : p ≠ g1 := (ne_of_none r7.l1 np).symm
      have pg3 : p ≠ g3 := (ne_of_none r7.e np).symm
      have pg2 : p ≠ g2 := (ne_of_none r7.m.choose_spec.1 np).symm
      have pg4 : p ≠ g4 := (ne_of_none r7.le.choose_spec.1 np).symm
      generalize upd H7 p (.lst (txs d.words)) = H8 at s8 e8 r8
      cases d with
      | pl c e =>
        obtain ⟨o1, o2, o3, o4, o5, o6, o7⟩ := okd
        refine ⟨_, rfl, _, rfl, _, rfl, p, g1, B, plOf (ds.take i), placeWords c e, rfl, e8, r8.l1, hlow, .inl ⟨c, e, rfl, o1, o2, o3, o6, o7, fun H9 s9 => ⟨true, rfl, iteT ?_⟩⟩⟩
        have r9 := r8.same s9
        have e9 := s9 _ _ e8
        refine ⟨_, rfl, .inl ⟨rfl, _, SqL.of r9.l1⟩, ⟨_, rfl, p, txs (placeWords c e), 1, .str (S c), rfl, rfl, SqL.of e9, atI_nat (j := 1) rfl, g1, _, _, rfl, rfl, r9.l1, by rw [txs_len]; omega, ?_⟩⟩
        have r10 := r9.place bb c
        have e10 : (upd H9 g1 (.lst (txs (plOf (ds.take i)) ++ [.str (S c)]))) p = some (.lst (txs (placeWords c e))) := by rw [upd_ne pg1]; exact e9
        generalize upd H9 g1 (.lst (txs (plOf (ds.take i)) ++ [.str (S c)])) = H10 at r10 e10
        have fin : ∀ {H' : Hp} {σ' : L2.St}, σ' = [some (.ref a), some (.str (S L)), some (.str (S B)), some (.ref g1), some (.ref g2), some (.ref g3), some (.ref g4), some (.str (Str.ofString "")), some (.int (3 + (i : Int))), some (.str (S (Ln.pl c e).line)), some (.ref p), v11] → RPg H5 H' g1 g2 g3 g4 (plOf (ds.take i) ++ [c]) (mvOf (ds.take i)) (enOf (ds.take i) ++ (Ln.pl c e).ens) ((mvOf (ds.take i)).map (·.to)) →
            ∃ v8 v9 v10 v11, σ' = [some (.ref a), some (.str (S L)), some (.str (S B)), some (.ref g1), some (.ref g2), some (.ref g3), some (.ref g4), some (.str (S (lastOf (ds.take (i + 1))))), v8, v9, v10, v11] ∧
              RPg H5 H' g1 g2 g3 g4 (plOf (ds.take (i + 1))) (mvOf (ds.take (i + 1))) (enOf (ds.take (i + 1))) ((mvOf (ds.take (i + 1))).map (·.to)) := by
          intro H' σ' e1 r
          rw [et, plOf_snoc, mvOf_snoc, enOf_snoc, lastOf_snoc]
          refine ⟨_, _, _, _, by rw [e1, S_nilstr]; rfl, ?_⟩
          rw [show (Ln.pl c e).mvs = [] from rfl, List.append_nil]
          exact r
        cases e with
        | none =>
          refine ⟨_, rfl, p, txs [placeW, c], rfl, .inl (SqL.of e10), rfl, false, rfl, iteF ?_⟩
          exact fin rfl (by rw [show (Ln.pl c none).ens = [] from rfl, List.append_nil]; exact r10)
        | some f =>
          obtain ⟨hf, hfl, hfd⟩ := o6 f rfl
          have e10 : H10 p = some (.lst (txs [placeW, c, if f = [] then [45] else f])) := e10
          generalize hg : (if f = [] then [45] else f) = g at e10
          refine ⟨_, rfl, p, txs [placeW, c, g], rfl, .inl (SqL.of e10), rfl, true, rfl, iteT ?_⟩
          refine ⟨_, rfl, p, txs [placeW, c, g], 2, .str (S g), rfl, rfl, SqL.of e10, rfl, rfl, decide (g = [45]), ?_, ?_⟩
          · rw [dash_str]
            congr 1
            rw [decide_eq_decide]
            exact ⟨fun z => S_inj (by injection z), fun z => by rw [z]⟩
          have put : ∀ v, v = V.str (S f) → ∃ a_1 H4, V.ref g3 = V.ref a_1 ∧ DPut H10 a_1 (V.str (S c)) v H4 ∧ RPg H5 H4 g1 g2 g3 g4 (plOf (ds.take i) ++ [c]) (mvOf (ds.take i)) (enOf (ds.take i) ++ (Ln.pl c (some f)).ens) ((mvOf (ds.take i)).map (·.to)) := by
            intro v ev
            rw [ev]
            refine ⟨g3, _, rfl, DPut.k (k := Sum.inr (S c)) r10.e ?_, ?_⟩
            · unfold fkv
              rw [List.length_map]
              omega
            · exact r10.end' bb c f o4
          by_cases hz : g = [45]
          · rw [decide_eq_true hz]
            have fe : f = [] := by
              by_cases z : f = []
              · exact z
              · rw [if_neg z] at hg
                exact absurd (hg.trans hz) hfd
            refine iteT ⟨_, rfl, _, rfl, p, txs [placeW, c, g], 1, .str (S c), rfl, rfl, SqL.of e10, rfl, ?_⟩
            obtain ⟨a1, H11, x1, x2, x3⟩ := put (.str (Str.ofString "")) (by rw [fe, S_nilstr])
            exact ⟨a1, H11, x1, x2, fin rfl x3⟩
          · rw [decide_eq_false hz]
            have fe : f = g := by
              by_cases z : f = []
              · rw [if_pos z] at hg
                exact absurd hg.symm hz
              · rw [if_neg z] at hg
                exact hg
            refine iteF ⟨_, rfl, p, txs [placeW, c, g], 2, .str (S g), rfl, rfl, SqL.of e10, rfl, _, rfl, _, rfl, p, txs [placeW, c, g], 1, .str (S c), rfl, rfl, SqL.of e10, rfl, ?_⟩
            obtain ⟨a1, H11, x1, x2, x3⟩ := put (.str (S g)) (by rw [fe])
            exact ⟨a1, H11, x1, x2, fin rfl x3⟩
      | mv m =>
        obtain ⟨o1, o2, o3, o4, o5, o6⟩ := okd
        have cutw : cutV (txs (moveWords m)) (some 2) none = txs (m.fl.map fillWord) := by
          rw [cutV_drop2]
          rfl
        have ply : ∃ pre, plOf (ds.take i) = pre ++ [m.pl] := List.getLast?_eq_some_iff.mp o2
        obtain ⟨pre, hpre⟩ := ply
        refine ⟨_, rfl, _, rfl, _, rfl, p, g1, B, plOf (ds.take i), moveWords m, rfl, e8, r8.l1, hlow, .inr ⟨[m.lt], _, rfl, o6, fun H9 s9 => ⟨false, rfl, iteF ?_⟩⟩⟩
        have r9 := r8.same s9
        have e9 := s9 _ _ e8
        refine ⟨_, rfl, true, .inl ⟨_, SqL.of r9.l1, ?_⟩, iteT ⟨_, rfl, _, rfl, _, rfl, _, rfl, p, L, B, lastOf (ds.take i), m, rfl, e9, o1, hL, hB, hlow, o3, fun H10 s10 => ⟨true, rfl, iteT ?_⟩⟩⟩
        · rw [hpre]
          unfold txs
          rw [List.map_append]
          simp
        have r10 := r9.same s10
        have e10 := s10 _ _ e9
        refine ⟨_, rfl, p, txs (moveWords m), 1, .str (S m.to), rfl, rfl, SqL.of e10, atI_nat (j := 1) rfl, _, rfl, _, rfl, p, txs (moveWords m), rfl, SqL.of e10, fun c2 H11 s11 n11 e11 => ⟨c2, m.fl, rfl, by rw [← cutw]; exact e11, o1.w, fun fd H12 s12 n12 e12 => ⟨by show 2 ≤ sizeLine; omega, fun t H13 s13 n13 e13 => ?_⟩⟩⟩
        have s1013 := (s11.trans s12).trans s13
        have r13 := r10.same s1013
        have e13p := s1013 _ _ e10
        have d13 := s13 _ _ e12
        refine ⟨_, rfl, _, rfl, ⟨1, rfl, g1, txs (plOf (ds.take i)), -1, .str (S m.pl), rfl, rfl, SqL.of r13.l1, ?_, ?_⟩⟩
        · rw [hpre]
          unfold txs
          rw [List.map_append]
          exact atI_last _ _
        refine ⟨_, rfl, p, txs (moveWords m), 0, .str (S [m.lt]), rfl, rfl, SqL.of e13p, atI_nat (j := 0) rfl, by show 2 ≤ sizeLine; omega, fun kt H14 s14 n14 e14 => ?_⟩
        have r14 := r13.same s14
        obtain ⟨kk, hkk, hpk⟩ := r14.m
        have ndb : H5 fd = none := (r10.same s11).free n12
        refine ⟨g2, _, rfl, DPut.t (k := m.key) hkk e14 ?_, ?_⟩
        · rw [Paired.length hpk]
          omega
        have r15 := r14.move bb m o4 (s14 _ _ e13) (s14 _ _ d13) ndb hkk
        have e15 : (upd H14 g2 (.dT (putK kk m.key (.ref t)))) p = some (.lst (txs (moveWords m))) := by rw [upd_ne pg2]; exact s14 _ _ e13p
        generalize upd H14 g2 (.dT (putK kk m.key (.ref t))) = H15 at r15 e15
        obtain ⟨ts, hts, hpt⟩ := r15.le
        refine ⟨_, rfl, .inl ⟨rfl, _, SqL.of hts⟩, ⟨_, rfl, _, rfl, p, txs (moveWords m), 1, .str (S m.to), rfl, rfl, SqL.of e15, atI_nat (j := 1) rfl, by show 2 ≤ sizeLine; omega, fun T2 H16 s16 n16 e16 => ⟨g4, _, _, rfl, rfl, s16 _ _ hts, ?_, ?_⟩⟩⟩
        · rw [List.length_map, Paired.length hpt, List.length_map]
          omega
        have r17 := (r15.same s16).lead bb m.to ⟨_, e16⟩ (s16 _ _ hts)
        have e17 : (upd H16 g4 (.lst (ts.map V.ref ++ [.ref T2]))) p = some (.lst (txs (moveWords m))) := by rw [upd_ne pg4]; exact s16 _ _ e15
        refine ⟨_, rfl, p, txs (moveWords m), 0, .str (S [m.lt]), rfl, rfl, SqL.of e17, atI_nat (j := 0) rfl, ?_⟩
        rw [et, plOf_snoc, mvOf_snoc, enOf_snoc, lastOf_snoc]
        refine ⟨_, _, _, _, rfl, ?_⟩
        rw [show (Ln.mv m).pls = [] from rfl, show (Ln.mv m).ens = [] from rfl, List.append_nil, List.append_nil, List.map_append]
        exact r17
    · rintro σ H6 ⟨v8, v9, v10, v11, rfl, r6⟩
      have ld : (txs (ds.map Ln.line)).length = ds.length := by rw [txs_len, List.length_map]
      rw [ld, List.take_length] at r6
      obtain ⟨ts, hts, hpt⟩ := r6.le
      refine ⟨_, rfl, g4, rfl, ⟨_, SqL.of hts⟩, for_it (walk_list (K := K) (a := g4) (xs := ts.map V.ref)) (fun i σ H' => ∃ v7 v8 v9 v10 v11, σ = [some (.ref a), some (.str (S L)), some (.str (S B)), some (.ref g1), some (.ref g2), some (.ref g3), some (.ref g4), v7, v8, v9, v10, v11] ∧ Same H6 H')
        ⟨_, _, _, _, _, rfl, fun _ _ e => e⟩ (fun i σ H' _ ⟨_, _, _, _, _, _, s'⟩ => SqL.of (s' _ _ hts)) ?_ ?_⟩
      · rintro i x σ H7 H7' hi ⟨v7, v8, v9, v10, v11, rfl, s7⟩ ⟨rfl, hx⟩
        rw [List.getElem?_map] at hx
        cases z : ts[i]? with
        | none => rw [z] at hx; cases hx
        | some T =>
          rw [z] at hx
          cases (Option.some.inj hx)
          obtain ⟨c, hc, n, eT⟩ := paired_get2 hpt z
          obtain ⟨m, hm, rfl⟩ := List.mem_map.mp (List.mem_of_getElem? hc)
          obtain ⟨j, hj⟩ := mem_mvOf hm
          have hin := (ok j _ hj).2.2.2.2.2.2.2.2.1
          refine ⟨T, _, rfl, SqT.of (s7 _ _ eT), rfl, _, _, rfl, _, _, rfl, rfl, ?_⟩
          refine ⟨_, rfl, _, rfl, g1, txs (plOf ds), rfl, .inl (SqL.of (s7 _ _ r6.l1)), rfl, ?_, false, ?_, iteF ?_⟩
          · unfold txs
            rw [List.all_map, List.all_eq_true]
            exact fun _ _ => rfl
          · unfold txs
            rw [inV_S, decide_eq_true hin]
            rfl
          · exact ⟨_, _, _, _, _, rfl, s7⟩
      · rintro σ H7 ⟨v7, v8, v9, v10, v11, rfl, s7⟩
        obtain ⟨kk, hkk, hpk⟩ := r6.m
        refine ⟨_, rfl, _, rfl, _, rfl, by show 3 ≤ sizeLine; omega, fun p H8 s8 n8 e8 => ?_⟩
        have s := s7.trans s8
        exact q p g1 g2 g3 H5 H8 kk s05 ((old r6).trans s) e8 (s _ _ r6.l1) (s _ _ hkk) (Paired.mono (fun _ _ z => z.same s) hpk) (s _ _ r6.e)
end
end Tb

set_option Elab.async false
set_option linter.all false
set_option maxRecDepth 100000
set_option maxHeartbeats 2000000
/-! tuples that hold dicts: == and != -/
namespace PySem.SeqAt
open AutoSeq1 (wpAny_loadPart')
open MeetsSeq MeetsSeq2 MeetsSeq3 SeqRoads2
section
variable {prog : Program} {w : World}
theorem tuple_neIn (l b : Addr) (items items2 : Array Value) (n n2 : Nat) (dd dd2 : Option Addr) (sl sl2 : Array (Option Value)) (e : Nat → Bool) :
    MeetsIn prog w (Builtin.«tuple.__ne__» ⟨[.ref l, .ref b], []⟩)
      (fun A R s => s.heap.get? l = some { cls := .type "tuple", dict := dd, data := .seq items n, slots := sl } ∧ s.heap.get? b = some { cls := .type "tuple", dict := dd2, data := .seq items2 n2, slots := sl2 } ∧
        (∀ j (h1 : j < items.size) (h2 : j < items2.size), EqIn prog w A.in1 s items[j] items2[j] (e j)) ∧
        R (.ok (.ret (.bool (!((List.range (min items.size items2.size)).all e && items.size == items2.size))))) s) :=
  .of_wp fun A R s h => by
    obtain ⟨hp, g, d, tk, os⟩ := s; obtain ⟨hl, hb, he, h⟩ := h
    have f2 := AutoSeq1.sub_tuple_tuple
    have hZ : (items.toList.zip items2.toList).length = min items.size items2.size := by simp
    wp_walk using wpAny_loadPart' hl, wpAny_loadPart' hb, wpAny_forIn_list _ (fun rest b s' => b.1 = none ∧ s' = ⟨hp, g, d, tk, os⟩ ∧ ∃ i, rest = (items.toList.zip items2.toList).drop i ∧
      R (.ok (.ret (.bool (!(((List.range (min items.size items2.size)).drop i).all e && items.size == items2.size))))) ⟨hp, g, d, tk, os⟩) _
    case turn =>
      rintro ⟨y, x⟩ rest b s' ⟨hb', rfl, i, hz, hR⟩
      have hlt : i < (items.toList.zip items2.toList).length := by
        rcases Nat.lt_or_ge i (items.toList.zip items2.toList).length with h' | h'
        · exact h'
        · rw [List.drop_of_length_le h'] at hz; cases hz
      have hm : i < min items.size items2.size := hZ ▸ hlt
      have h1 : i < items.size := Nat.lt_of_lt_of_le hm (Nat.min_le_left _ _)
      have h2 : i < items2.size := Nat.lt_of_lt_of_le hm (Nat.min_le_right _ _)
      rw [List.drop_eq_getElem_cons hlt] at hz
      injection hz with hyx hrest
      have hy : y = items[i] := by have := congrArg Prod.fst hyx; simpa using this
      have hx : x = items2[i] := by have := congrArg Prod.snd hyx; simpa using this
      subst hy hx
      have hd : (List.range (min items.size items2.size)).drop i = i :: (List.range (min items.size items2.size)).drop (i + 1) := by simp [List.drop_eq_getElem_cons, hm]
      rw [hd, List.all_cons] at hR
      refine wpAny_bind (he i h1 h2 _ _ ?_)
      cases hy : e i with
      | true =>
        rw [hy] at hR
        wp_walk
        exact ⟨rfl, rfl, i + 1, hrest, by simpa using hR⟩
      | false =>
        rw [hy] at hR
        wp_walk
        exact ⟨_, rfl, by simpa using hR⟩
    case fin =>
      rintro ⟨b1, b2⟩ s' ⟨hb', rfl, i, hz, hR⟩
      simp only at hb'
      subst hb'
      have hge : min items.size items2.size ≤ i := by
        rcases Nat.lt_or_ge i (items.toList.zip items2.toList).length with h' | h'
        · rw [List.drop_eq_getElem_cons h'] at hz; cases hz
        · exact hZ ▸ h'
      rw [List.drop_of_length_le (by simpa using hge)] at hR
      wp_walk
      exact ⟨_, rfl, by simpa [Builtin.Tuple.tupleCompareSizes, bne] using hR⟩
    case h =>
      exact ⟨rfl, rfl, 0, rfl, by simpa using h⟩
end
section
variable {prog : Program} {w : World} {A : Around} {s : Shared}
theorem rneIn_tuples {E : Value → Shared → Prop} {l b : Addr} {items items2 : Array Value} {e : Nat → Bool} {Q : Value → Shared → Prop} (hl : s.heap.IsTuple l items) (hb : s.heap.IsTuple b items2) (hu : A.units < cLine)
    (he : ∀ j (h1 : j < items.size) (h2 : j < items2.size), EqIn prog w A.in1 s items[j] items2[j] (e j)) (h : Q (.bool (!((List.range (min items.size items2.size)).all e && items.size == items2.size))) s) :
    wpAny (model prog w) A (richCompare .NotEq (.ref l) (.ref b)) Q E s := by
  obtain ⟨⟨cls, dd, data, sl⟩, ho, hc, n, hd⟩ := id hl
  obtain ⟨⟨cls2, dd2, data2, sl2⟩, ho2, hc2, n2, hd2⟩ := id hb
  simp only at hc hd hc2 hd2
  subst hc hd hc2 hd2
  exact wpAny_richCompare_same_room (T := "tuple") (op := .NotEq) ⟨_, ho, rfl⟩ ⟨_, ho2, rfl⟩ F.slot_tuple_ne (call_meetsIn F.slot_tuple_ne ⟨_, ho, rfl⟩ F.entry_tuple_ne (F.args_tuple_ne_2 _ _) (tuple_neIn l b items items2 n n2 dd dd2 sl sl2 e)
    ⟨ho, ho2, he, show Value.bool (!((List.range (min items.size items2.size)).all e && items.size == items2.size)) ≠ Value.notImplemented ∧ Q (.bool (!((List.range (min items.size items2.size)).all e && items.size == items2.size))) s from ⟨(fun x => nomatch x), h⟩⟩) hu
end
end PySem.SeqAt
namespace PySem.W
open PySem PySem.Calls PyProof.Rows PyProof.V PySem.Spec
section
variable {prog : Program} {w : World} {A : Around} {E : Value → Shared → Prop} {s : Shared}
theorem ne_tuplesT {n : Nat} {l l' : Addr} {vs vs' : Array Value} {e : Nat → Bool} {Q : Value → Shared → Prop} (hl : s.heap.IsTuple l vs) (hl' : s.heap.IsTuple l' vs')
    (t : ∀ j (h1 : j < vs.size) (h2 : j < vs'.size), EqTree prog w s n vs[j] vs'[j] (e j)) (hu : A.units + (n + 1) < cLine) (h : Q (.bool (!((List.range (min vs.size vs'.size)).all e && vs.size == vs'.size))) s) :
    wpAny (model prog w) A (compareOp .NotEq (.ref l) (.ref l')) Q E s :=
  SeqAt.rneIn_tuples hl hl' (by omega) (fun j h1 h2 => (t j h1 h2).at A.in1 (by show A.units + 1 + _ < cLine; omega)) h
end
end PySem.W

set_option Elab.async false
set_option linter.all false
set_option maxRecDepth 100000
set_option maxHeartbeats 2000000
/-! data at any depth, dicts among them, that are equal -/
namespace Tb
open PySem PySem.Spec PyProof.Rows L2
/-- x and y are equal, and this is seen at most n deep -/
inductive DEq (H : Hp) : Nat → V → V → Prop
  | flat {n : Nat} {x : V} : flatB x = true → DEq H n x x
  | tup {n : Nat} {a b : Addr} {xs ys : List V} : Rd H a (.tup xs) → Rd H b (.tup ys) → xs.length = ys.length → (∀ (j : Nat) (x y : V), xs[j]? = some x → ys[j]? = some y → DEq H n x y) → DEq H (n + 1) (.ref a) (.ref b)
  | lst {n : Nat} {a b : Addr} {xs ys : List V} : Rd H a (.lst xs) → Rd H b (.lst ys) → xs.length = ys.length → (∀ (j : Nat) (x y : V), xs[j]? = some x → ys[j]? = some y → DEq H n x y) → DEq H (n + 1) (.ref a) (.ref b)
  | dK {n : Nat} {a b : Addr} {ks ls : List (Key × V)} : Rd H a (.dK ks) → Rd H b (.dK ls) → ks.length = ls.length → (∀ p ∈ ks, (valV ls p.1).isSome = true) → (∀ (p : Key × V) (y : V), p ∈ ks → valV ls p.1 = some y → DEq H n p.2 y) → DEq H (n + 1) (.ref a) (.ref b)
theorem DEq.two {H : Hp} {n : Nat} {a b : Addr} {x1 x2 y1 y2 : V} (ha : Rd H a (.tup [x1, x2])) (hb : Rd H b (.tup [y1, y2])) (h1 : DEq H n x1 y1) (h2 : DEq H n x2 y2) : DEq H (n + 1) (.ref a) (.ref b) :=
  .tup ha hb rfl fun j x y e1 e2 => by
    match j, e1, e2 with
    | 0, e1, e2 => cases e1; cases e2; exact h1
    | 1, e1, e2 => cases e1; cases e2; exact h2
section
variable {X : Cx} {pins : List (Addr × Obj)} {σ : L2.St} {H : Hp} {s : Shared}
theorem ix_of {xs : List V} {its : List Value} (r : Vals xs its) {j : Nat} (h : j < its.toArray.size) : ∃ x, xs[j]? = some x ∧ RelV x its.toArray[j] := by
  have h' : j < xs.length := by rw [r.length]; simpa using h
  obtain ⟨u, hu, ru⟩ := r.get (List.getElem?_eq_getElem h')
  have : its.toArray[j] = u := by
    have e : its[j]? = some its.toArray[j] := by simp at h ⊢
    rw [e] at hu
    exact Option.some.inj hu
  exact ⟨_, List.getElem?_eq_getElem h', by rw [this]; exact ru⟩
theorem all_true (n : Nat) : ((List.range n).all fun _ => true) = true := by simp
theorem DEq.tree (I : Inv X pins σ H s) {n : Nat} {x y : V} (t : DEq H n x y) : ∀ {v u : Value}, RelV x v → RelV y u → PySem.W.EqTree X.prog X.w s n v u true := by
  induction t with
  | flat hf => exact fun rx ry => .leaf fun A _ => eqAt_same rx ry hf
  | @tup n a b xs ys ha hb hl hx ih =>
    intro v u rx ry
    obtain rfl : v = Value.ref a := rx
    obtain rfl : u = Value.ref b := ry
    by_cases hab : a = b
    · rw [hab]
      exact .same
    obtain ⟨_, its, r1, p1⟩ := (show ObjOk X.prog X.w H s.heap a (.tup xs) from ha.ok I.hok)
    obtain ⟨_, its2, r2, p2⟩ := (show ObjOk X.prog X.w H s.heap b (.tup ys) from hb.ok I.hok)
    have q := PySem.W.EqTree.tuples (prog := X.prog) (w := X.w) (s := s) (n := n) (e := fun _ => true) hab (show s.heap.IsTuple a its.toArray from p1) (show s.heap.IsTuple b its2.toArray from p2) fun j h1 h2 => by
      obtain ⟨x, e1, rx⟩ := ix_of r1 h1
      obtain ⟨y, e2, ry⟩ := ix_of r2 h2
      exact ih j x y e1 e2 rx ry
    have hs : (its.toArray.size == its2.toArray.size) = true := by
      rw [List.size_toArray, List.size_toArray, ← r1.length, ← r2.length, hl]
      exact beq_self_eq_true _
    rw [all_true, hs] at q
    exact q
  | @lst n a b xs ys ha hb hl hx ih =>
    intro v u rx ry
    obtain rfl : v = Value.ref a := rx
    obtain rfl : u = Value.ref b := ry
    by_cases hab : a = b
    · rw [hab]
      exact .same
    obtain ⟨_, its, n1, r1, e1⟩ := (show ObjOk X.prog X.w H s.heap a (.lst xs) from ha.ok I.hok)
    obtain ⟨_, its2, n2, r2, e2⟩ := (show ObjOk X.prog X.w H s.heap b (.lst ys) from hb.ok I.hok)
    have hs : its.toArray.size = its2.toArray.size := by
      rw [List.size_toArray, List.size_toArray, ← r1.length, ← r2.length, hl]
    have q := PySem.W.EqTree.lists (prog := X.prog) (w := X.w) (s := s) (n := n) (e := fun _ => true) hab ⟨_, e1, rfl, _, rfl⟩ ⟨_, e2, rfl, _, rfl⟩ hs fun j h1 h2 => by
      obtain ⟨x, e1, rx⟩ := ix_of r1 h1
      obtain ⟨y, e2, ry⟩ := ix_of r2 h2
      exact ih j x y e1 e2 rx ry
    rw [all_true] at q
    exact q
  | @dK n a b ks ls ha hb hl hx _ ih =>
    intro v u rx ry
    obtain rfl : v = Value.ref a := rx
    obtain rfl : u = Value.ref b := ry
    by_cases hab : a = b
    · rw [hab]
      exact .same
    obtain ⟨_, ya, va, ra, da⟩ := dk_rd I.hok ha
    obtain ⟨_, yb, vb, rb, db⟩ := dk_rd I.hok hb
    have hit : ∀ k v, (k, v) ∈ va → ∃ p ∈ ks, p.1 = k ∧ RelV p.2 v := by
      intro k v hm
      obtain ⟨j, e1⟩ := List.mem_iff_getElem?.mp hm
      have hlt : j < ks.length := by rw [ra.length]; exact (List.getElem?_eq_some_iff.mp e1).1
      obtain ⟨q, hq, h1, h2⟩ := LiI.paired_get (show Paired _ ks va from ra) (List.getElem?_eq_getElem hlt)
      rw [e1] at hq
      obtain rfl := Option.some.inj hq
      exact ⟨ks[j], List.getElem_mem hlt, h1, h2⟩
    have q := PySem.W.EqTree.dicts (prog := X.prog) (w := X.w) (s := s) (knd := mixKind X.prog X.w) (n := n) (e := fun _ => true) hab ya yb da db fun k v z hm hv => by
      obtain ⟨p, hp, e1, r1⟩ := hit k v hm
      obtain ⟨y, hy⟩ := Option.isSome_iff_exists.mp (hx p hp)
      have rr : RelO (some y) (valueAt vb p.1) := by rw [← hy]; exact rb.val _
      obtain ⟨z', hz, rz⟩ := rr.some_of
      rw [e1, hv] at hz
      obtain rfl := Option.some.inj hz
      exact ih p y hp hy r1 rz
    have hs : (va.length == vb.length) = true := by
      rw [← ra.length, ← rb.length, hl]
      exact beq_self_eq_true _
    have h2 : (va.all fun p => (valueAt vb p.1).isSome && true) = true := by
      rw [List.all_eq_true]
      rintro ⟨k, v⟩ hm
      obtain ⟨p, hp, e1, r1⟩ := hit k v hm
      obtain ⟨y, hy⟩ := Option.isSome_iff_exists.mp (hx p hp)
      have rr : RelO (some y) (valueAt vb p.1) := by rw [← hy]; exact rb.val _
      obtain ⟨z', hz, rz⟩ := rr.some_of
      rw [e1] at hz
      show ((valueAt vb k).isSome && true) = true
      rw [hz]
      rfl
    rw [hs, h2] at q
    exact q
/-- == and != of two tuples that are equal -/
def rEqT : R2 := fun x y H Q => ∃ n a b xs ys, x = .ref a ∧ y = .ref b ∧ Rd H a (.tup xs) ∧ Rd H b (.tup ys) ∧ n ≤ 60 ∧ xs.length = ys.length ∧ (∀ (j : Nat) (x y : V), xs[j]? = some x → ys[j]? = some y → DEq H n x y) ∧ Q (.bl true) H
def rNeT : R2 := fun x y H Q => ∃ n a b xs ys, x = .ref a ∧ y = .ref b ∧ Rd H a (.tup xs) ∧ Rd H b (.tup ys) ∧ n ≤ 60 ∧ xs.length = ys.length ∧ (∀ (j : Nat) (x y : V), xs[j]? = some x → ys[j]? = some y → DEq H n x y) ∧ Q (.bl false) H
theorem op_eqT (hu : X.A.units + 64 < cLine) : OpR X (compareOp .Eq) rEqT := by
  intro pins s σ H x y v u Q I rx ry h
  obtain ⟨n, a, b, xs, ys, rfl, rfl, ha, hb, hn, hl, t, q⟩ := h
  obtain rfl : v = Value.ref a := rx
  obtain rfl : u = Value.ref b := ry
  obtain ⟨_, its, r1, p1⟩ := (show ObjOk X.prog X.w H s.heap a (.tup xs) from ha.ok I.hok)
  obtain ⟨_, its2, r2, p2⟩ := (show ObjOk X.prog X.w H s.heap b (.tup ys) from hb.ok I.hok)
  refine PySem.W.eq_tuplesT (n := n) (e := fun _ => true) (show s.heap.IsTuple a its.toArray from p1) (show s.heap.IsTuple b its2.toArray from p2) (fun j h1 h2 => ?_) (by omega) (fin_bl I q ?_)
  · obtain ⟨x, e1, rx⟩ := ix_of r1 h1
    obtain ⟨y, e2, ry⟩ := ix_of r2 h2
    exact (t j x y e1 e2).tree I rx ry
  · rw [all_true, List.size_toArray, List.size_toArray, ← r1.length, ← r2.length, hl]
    simp
theorem op_neT (hu : X.A.units + 64 < cLine) : OpR X (compareOp .NotEq) rNeT := by
  intro pins s σ H x y v u Q I rx ry h
  obtain ⟨n, a, b, xs, ys, rfl, rfl, ha, hb, hn, hl, t, q⟩ := h
  obtain rfl : v = Value.ref a := rx
  obtain rfl : u = Value.ref b := ry
  obtain ⟨_, its, r1, p1⟩ := (show ObjOk X.prog X.w H s.heap a (.tup xs) from ha.ok I.hok)
  obtain ⟨_, its2, r2, p2⟩ := (show ObjOk X.prog X.w H s.heap b (.tup ys) from hb.ok I.hok)
  refine PySem.W.ne_tuplesT (n := n) (e := fun _ => true) (show s.heap.IsTuple a its.toArray from p1) (show s.heap.IsTuple b its2.toArray from p2) (fun j h1 h2 => ?_) (by omega) (fin_bl I q ?_)
  · obtain ⟨x, e1, rx⟩ := ix_of r1 h1
    obtain ⟨y, e2, ry⟩ := ix_of r2 h2
    exact (t j x y e1 e2).tree I rx ry
  · rw [all_true, List.size_toArray, List.size_toArray, ← r1.length, ← r2.length, hl]
    simp
end
end Tb

set_option Elab.async false
set_option linter.all false
set_option maxRecDepth 100000
set_option maxHeartbeats 4000000
/-! a == b of two dicts whose keys are tuples, equal -/
namespace PySem.W
open PySem PySem.Calls PyProof.Rows PyProof.V PySem.Spec
open PySem.SeqAt (EqIn EqAt rcIn_lists rcIn_tuples)
section
variable {prog : Program} {w : World} {K : Type} [DecidableEq K] {knd : HeapKind prog w K} {A : Around} {E : Value → Shared → Prop} {s : Shared}
theorem keqH_samePairs {nm : String} {a b : Addr} {ka kb : List (K × Addr × Value)} {Q : Bool → Shared → Prop} (hu : knd.room A) (ha : (a == sysModules) = false) (hb : (b == sysModules) = false)
    (da : s.heap.DictOfH knd a ka) (db : s.heap.DictOfH knd b kb) (hl : ka.length = kb.length) (hits : ∀ x ∈ ka, ∃ q : Addr × Value, (x.1, q) ∈ kb ∧ EqIn prog w A s x.2.2 q.2 true) (h : Q true s) :
    wpAny (model prog w) A (Builtin.Dict.samePairs nm a b) Q E s := by
  obtain ⟨oa, es, ep, hoa, _, hda, hea, hia, hna⟩ := da
  obtain ⟨ob, es', ep', hob, _, hdb, heb, hib, hnb⟩ := db
  have hla : es.size = ka.length := size_of_entries hea
  have hlb : es'.size = kb.length := size_of_entries heb
  unfold Builtin.Dict.samePairs Builtin.Dict.showsAll
  rw [if_neg (show ¬ (a == sysModules) = true by rw [ha]; exact Bool.false_ne_true), if_neg (show ¬ (b == sysModules) = true by rw [hb]; exact Bool.false_ne_true)]
  refine wpAny_bind (wpAny_pure (wpAny_bind (wpAny_pure ?_)))
  refine wpAny_bind (wpAny_dictEntries hoa hda ?_)
  dsimp only
  refine wpAny_bind (wpAny_dictEntries hob hdb ?_)
  have hsz : es.size = es'.size := by rw [hla, hlb, hl]
  rw [if_neg (by rw [hsz]; simp)]
  refine wpAny_bind (wpAny_dictEpoch hoa hda ?_)
  refine wpAny_bind ?_
  rw [Std.Legacy.Range.forIn_eq_forIn_range']
  simp only [Std.Legacy.Range.size, Nat.sub_zero, Nat.add_sub_cancel, Nat.div_one]
  refine wpAny_forIn_list _
    (fun rest q s' => s' = s ∧ q = (none, ()) ∧ ∃ i, rest = List.range' i (es.size - i) ∧ i ≤ es.size)
    _ ?_ ?_ _ _ ⟨rfl, rfl, 0, by simp, Nat.zero_le _⟩
  · rintro x rest q s' ⟨rfl, rfl, i, hr, hi⟩
    have hlt : i < es.size := by
      rcases Nat.lt_or_ge i es.size with h | h
      · exact h
      · rw [Nat.sub_eq_zero_of_le h] at hr; simp at hr
    obtain ⟨rfl, hrest⟩ : x = i ∧ rest = List.range' (i + 1) (es.size - (i + 1)) := by
      have e : es.size - i = (es.size - (i + 1)) + 1 := by omega
      rw [e, List.range'_succ] at hr
      injection hr with h1 h2
      exact ⟨h1, h2⟩
    refine wpAny_bind (wpAny_dictEntries hoa hda ?_)
    have hlt' : x < ka.length := by rw [← hla]; exact hlt
    rw [entry_at hea x, List.getElem?_eq_getElem hlt']
    obtain ⟨k, p, hkv⟩ : ∃ k p, ka[x] = (k, p) := ⟨_, _, rfl⟩
    have hmem : (k, p) ∈ ka := by rw [← hkv]; exact List.getElem_mem hlt'
    rw [hkv]
    obtain ⟨q, hq, heq⟩ := hits _ hmem
    obtain ⟨j, hj⟩ := List.mem_iff_getElem?.mp hq
    show wpAny _ _ (holding [(entryOfKey knd (k, p)).key, (entryOfKey knd (k, p)).val] _ >>= _) _ _ _
    refine wpAny_bind (wpAny_holding (wpAny_bind (wpAny_dictFind_heap (k := k) hu (hia _ hmem) hob hdb heb hib hnb (fun hno => absurd hj (hno j q)) fun j' p' hj' => ?_)))
    have hep : p' = q := by
      have e1 : j' = j := idxH_unique hnb hj' hj
      rw [e1, hj] at hj'
      injection hj' with hj'
      injection hj' with _ e2
      exact e2.symm
    subst hep
    refine wpAny_bind (wpAny_dictEntries hob hdb ?_)
    rw [entry_at heb j', hj']
    refine wpAny_holding (heq _ _ ?_)
    show wpAny _ _ (if (!true) = true then _ else _) _ _ _
    rw [if_neg (by decide)]
    refine wpAny_bind (wpAny_dictEpoch hoa hda ?_)
    rw [if_neg (by simp)]
    exact wpAny_pure ⟨rfl, rfl, x + 1, hrest, hlt⟩
  · rintro q s' ⟨rfl, rfl, i, hr, hi⟩
    exact wpAny_pure h
theorem keqH_eq {a b : Addr} {ka kb : List (K × Addr × Value)} {Q : Value → Shared → Prop} (hr : knd.room A.in1) (ha : (a == sysModules) = false) (hb : (b == sysModules) = false)
    (da : s.heap.DictOfH knd a ka) (db : s.heap.DictOfH knd b kb) (hu : A.units < cLine) (hl : ka.length = kb.length) (hits : ∀ x ∈ ka, ∃ q : Addr × Value, (x.1, q) ∈ kb ∧ EqIn prog w A.in1 s x.2.2 q.2 true) (h : Q (.bool true) s) :
    wpAny (model prog w) A (compareOp .Eq (.ref a) (.ref b)) Q E s := by
  refine wpAny_richCompare_same_room (op := .Eq) da.typeIs db.typeIs PySem.F.slot_dict_eq (wpAny_call_entry PySem.F.slot_dict_eq da.typeIs PySem.F.entry_dict_eq ?_ (PySem.F.args_dict_eq_2 _ _)) hu
  show wpAny _ _ (Builtin.Dict.dictSlotArgs "__eq__" ⟨[.ref a, .ref b], []⟩ >>= _) _ _ s
  refine wpAny_bind ?_
  unfold Builtin.Dict.dictSlotArgs
  refine wpAny_bind (wpAny_notOrdered_dict da.typeIs ?_)
  show wpAny _ _ (pure (Value.ref a, Value.ref b)) _ _ s
  refine wpAny_pure ?_
  refine wpAny_bind (wpAny_isInstance (T := "dict") db.typeIs PySem.F.sub_dict_dict ?_)
  simp only [Bool.not_true, Bool.false_eq_true, if_false]
  refine wpAny_bind (wpAny_pure (wpAny_bind (wpAny_pure ?_)))
  refine wpAny_bind (keqH_samePairs hr ha hb da db hl hits ?_)
  refine wpAny_pure ⟨_, rfl, ?_, ?_⟩
  · exact fun x => nomatch x
  · simpa using h
end
end PySem.W
namespace Tb
open PySem PySem.Spec PyProof.Rows L2
theorem atKey_mem {κ : Type} [DecidableEq κ] {xs : List (κ × Addr × Value)} {k : κ} {p : Addr × Value} (h : atKey xs k = some p) : (k, p) ∈ xs := by
  unfold atKey at h
  obtain ⟨x, hx, rfl⟩ := Option.map_eq_some_iff.mp h
  have h1 := List.find?_some hx
  have h2 := List.mem_of_find?_eq_some hx
  obtain ⟨k', p'⟩ := x
  have e : k' = k := by simpa using h1
  rw [← e]
  exact h2
section
variable {X : Cx} {pins : List (Addr × Obj)} {σ : L2.St} {H : Hp} {s : Shared}
/-- a == b, two dicts whose keys are tuples, equal -/
def rEqDT : R2 := fun x y H Q => ∃ a b ks ls n, x = .ref a ∧ y = .ref b ∧ H a = some (.dT ks) ∧ H b = some (.dT ls) ∧ n ≤ 50 ∧ ks.length = ls.length ∧ (∀ p ∈ ks, ∃ y, valV ls p.1 = some y ∧ DEq H n p.2 y) ∧ Q (.bl true) H
theorem op_eqDT (hu : X.A.units + 64 < cLine) : OpR X (compareOp .Eq) rEqDT := by
  intro pins s σ H x y v u Q I rx ry h
  obtain ⟨a, b, ks, ls, n, rfl, rfl, ha, hb, hn, hl, t, q⟩ := h
  obtain rfl : v = Value.ref a := rx
  obtain rfl : u = Value.ref b := ry
  obtain ⟨za, sa, xa, ra, da⟩ := dt_of I.hok ha
  obtain ⟨zb, sb, xb, rb, db⟩ := dt_of I.hok hb
  have la : ks.length = xa.length := Paired.length ra
  have lb : ls.length = xb.length := Paired.length rb
  refine PySem.W.keqH_eq (tupleKind_room_in1 (by omega)) sa sb da db (by omega) (by rw [← la, ← lb, hl]) (fun z hz => ?_) (fin_bl I q rfl)
  obtain ⟨j, hj⟩ := List.mem_iff_getElem?.mp hz
  have hlt : j < ks.length := by rw [la]; exact (List.getElem?_eq_some_iff.mp hj).1
  obtain ⟨z', hz', h1, h2, h3⟩ := LiI.paired_get (show Paired _ ks xa from ra) (List.getElem?_eq_getElem hlt)
  rw [hj] at hz'
  obtain rfl := Option.some.inj hz'
  obtain ⟨y, hy, hd⟩ := t ks[j] (List.getElem_mem hlt)
  have rr : RelO (some y) ((atKey xb ks[j].1).map (·.2)) := by rw [← hy]; exact rb.val _
  obtain ⟨w', hw, rw'⟩ := rr.some_of
  obtain ⟨p, hp, hp2⟩ := Option.map_eq_some_iff.mp hw
  subst hp2
  refine ⟨p, by rw [← h1]; exact atKey_mem hp, ?_⟩
  exact (hd.tree I h3 rw').at X.A.in1 (by show X.A.units + 1 + n < cLine; omega)
end
end Tb

set_option Elab.async false
set_option linter.all false
set_option maxRecDepth 100000
set_option maxHeartbeats 4000000
namespace Tb
open PySem PySem.Spec PyProof.Rows L2 TL
section
variable {P : Program} {w : World} {K : PySem.W.Frag} {mg : Str → Option Value} {base : Heap}
/-! ### the first two lines -/
theorem scRH : FnScope ["lines", "letters", "boxes"] ["lines"] (defScope sRHead) := ⟨rfl, rfl, rfl, by decide +kernel, rfl, by decide +kernel, by decide +kernel⟩
def spRH : Sp := fun vs H Q _ => ∃ (a : Addr) (L B : List Nat) (l3 : List Nat) (r : List (List Nat)), vs = [.ref a] ∧ H a = some (.lst (txs ((lettersW ++ [32] ++ L) :: boxLine B :: l3 :: r))) ∧ okLetters L = true ∧ L = sortN L ∧ okBoxes B = true ∧ B = sortN B ∧
  ∀ p H', Same H H' → H' p = some (.tup [.str (S L), .str (S B)]) → Q (.ref p) H'
theorem ok_rh {f : Addr} {fd : FuncData} {k : Nat} (F : Fun K "_read_head" "_read_head" sRHead f fd) (DL : Df P w K mg base (k + 3) "_read_letters" ["line"] spRL) (DB : Df P w K mg base (k + 3) "_read_boxes" ["line"] spRB) (ml : mg "len" = none) : FnOk P w K mg base CX0 (k + 4) f fd ["lines"] spRH := by
  refine F.ok scRH (fun vs H Q E h => ?_) (fun cdv A outer s H vs Q E hr h => ?_)
  · obtain ⟨a, L, B, l3, r, rfl, _⟩ := h
    rfl
  · obtain ⟨a, L, B, l3, r, rfl, ha, o1, o2, o3, o4, q⟩ := h
    have big : (1000000 : Nat) ≤ sizeLine := by rw [sizeLine_eq]; decide
    refine ⟨_, pss_cons (ps_set (i := 1) scRH.nd rfl (.inl rfl) (pe_df DL hr (pa_cons (pe_ix ix_list (pv 0) pe_int (fun _ _ => rfl)) pa_nil)))
      (pss_cons (ps_if (pt_cmpR op_isN (pv 1) pe_non (nomark _)) (pss_one ps_dead) pss_nil)
      (pss_cons (ps_if (pt_cmpR op_lt (pe_callB call_lenS (by rfl) ml PySem.boot_len (pa_cons (pv 0) pa_nil)) pe_int (nomark _)) (pss_one ps_dead) pss_nil)
      (pss_cons (ps_set (i := 2) scRH.nd rfl (.inl rfl) (pe_df DB hr (pa_cons (pe_ix ix_list (pv 0) pe_int (fun _ _ => rfl)) pa_nil)))
      (pss_cons (ps_if (pt_cmpR op_isN (pv 2) pe_non (nomark _)) (pss_one ps_dead) pss_nil)
      (pss_cons (ps_if (pt_cmpR op_lt (pe_callB call_lenS (by rfl) ml PySem.boot_len (pa_cons (pv 0) pa_nil)) pe_int (nomark _)) (pss_one ps_dead) pss_nil)
      (pss_one (ps_ret (pe_tupS (pa_cons (pv 1) (pa_cons (pv 2) pa_nil)))))))))), ?_⟩
    obtain ⟨ls, els⟩ : ∃ ls, txs ((lettersW ++ [32] ++ L) :: boxLine B :: l3 :: r) = ls := ⟨_, rfl⟩
    have hl : ls.length = 3 + r.length := by
      rw [← els]
      unfold txs
      simp
      omega
    have lt2 : ∀ n : Int, n ≤ 3 → V.bl (decide ((ls.length : Int) < n)) = V.bl false := fun n hn => by
      rw [hl, decide_eq_false (by omega)]
    have g0 : ls[0]? = some (.str (S (lettersW ++ [32] ++ L))) := by rw [← els]; rfl
    have g1 : ls[1]? = some (.str (S (boxLine B))) := by rw [← els]; rfl
    rw [els] at ha
    refine ⟨_, rfl, a, ls, 0, _, rfl, rfl, SqL.of ha, atI_nat (j := 0) g0, L, rfl, o1, o2, fun H1 s1 => ?_⟩
    refine ⟨_, rfl, rfl, false, rfl, iteF ?_⟩
    refine ⟨_, rfl, a, ls, rfl, .inl (SqL.of (s1 _ _ ha)), _, _, rfl, rfl, false, lt2 2 (by decide), iteF ?_⟩
    refine ⟨_, rfl, a, ls, 1, _, rfl, rfl, SqL.of (s1 _ _ ha), atI_nat (j := 1) g1, B, rfl, o3, o4, fun H2 s2 => ?_⟩
    refine ⟨_, rfl, rfl, false, rfl, iteF ?_⟩
    refine ⟨_, rfl, a, ls, rfl, .inl (SqL.of (s2 _ _ (s1 _ _ ha))), _, _, rfl, rfl, false, lt2 3 (by decide), iteF ?_⟩
    exact ⟨_, rfl, _, rfl, by show 2 ≤ sizeLine; omega, fun p H3 s3 n3 e3 => q p H3 (s1.trans (s2.trans s3)) e3⟩
/-! ### C(..), C in a name -/
def tProgL (C : Addr) (tf : TE) (t : TA) : TE := fun σ H Q => tf σ H fun x H0 => x = .ref C ∧ tProg C t σ H0 Q
theorem pe_progL {X : Cx} {C : Addr} {k j : Nat} {x : Str} {e : Expr} {es : List Expr} {tf : TE} {t : TA} {p pos : Pos} (D : Mkr X.prog X.w X.K X.mg X.base C k) (hr : Room j X.A) (hf : PE X (.Name x p) tf) (ha : PA X (e :: es) t) (hk : k + 1 ≤ j := by omega)
    (he : starEach (e :: es) X.env = (false, eval e X.env) :: starEach es X.env := by rfl) (hpl : (backTo pos (starEach es X.env)).any (·.1) = false := by rfl) :
    PE X (.Call (.Name x p) (e :: es) [] pos) (tProgL C tf t) := by
  obtain ⟨f, fd, M, F, b⟩ := D.ex
  refine ⟨fun pins s σ H Q I h => ?_⟩
  refine wpAny_Call_Name_kw (thn (hf.run pins s σ H _ I h) fun u s1 ⟨x, H0, I1, rx, ex, h⟩ => ?_)
  subst ex
  obtain rfl : u = Value.ref C := rx
  refine PySem.W.callWith_K (h₀ := X.base) I1.ok.mod.kin M.kp (thn (ha.run pos pins s1 σ H0 _ I1 h) fun us s2 ⟨vs, H1, I2, r, tp, tm, te, pt, ev, hin, hq, q⟩ => ⟨I2.kIn, ?_⟩) he hpl
  subst ev
  refine run_make M F (hr.mono hk) b .nil pass0 I2 r fun x dx nx ndx ne => ?_
  have s1 : Same H1 (upd (upd H1 dx (.own x)) x (.ins C dx [])) := fun b o eb => by
    rw [upd_ne (ne_of_none eb nx), upd_ne (ne_of_none eb ndx)]
    exact eb
  exact ⟨x, dx, tp, tm, te, pt, rfl, upd_same, hin.same s1, hq, fun H' hb hp => ⟨rfl, q x H' (fun b o eb => hb b o (s1 b o eb) (ne_of_none eb nx)) nx (hp.old fun a h => s1.free h)⟩⟩
/-! ### Program.parse -/
theorem scPa : FnScope ["cls", "text", "lines", "letters", "boxes", "places", "moves", "ends"] ["cls", "text"] (defScope sParse) := ⟨rfl, rfl, rfl, by decide +kernel, rfl, by decide +kernel, by decide +kernel⟩
def parseLines (L B : List Nat) (ds : List Ln) : List (List Nat) := (lettersW ++ [32] ++ L) :: boxLine B :: ds.map Ln.line
def spParse (C : Addr) : Sp := fun vs H Q _ => ∃ (L B : List Nat) (ds : List Ln), vs = [.ref C, .str (S (joinL [10] (parseLines L B ds)))] ∧ (joinL [10] (parseLines L B ds)).length ≤ 1000000 ∧ (∀ x ∈ parseLines L B ds, 10 ∉ x) ∧ okLetters L = true ∧ L = sortN L ∧ okBoxes B = true ∧ B = sortN B ∧ ds ≠ [] ∧ LnsOk L B ds ∧ ds.length ≤ 1000 ∧
  PartsQ ⟨L, B, plOf ds, mvOf ds, enOf ds⟩ ∧ ∀ p H', Same H H' → H p = none → PrAt C H' p L B (plOf ds) ((mvOf ds).map keptM) (enOf ds) → Q (.ref p) H'
theorem split_nl {ws : List (List Nat)} (hne : ws ≠ []) (h : ∀ x ∈ ws, 10 ∉ x) : (Txt.split (S (joinL [10] ws)) (S [10])).map V.str = txs ws := by
  have e := TL.split_join (y := S [10]) (s := 10) (S := []) rfl (by decide +kernel) (parts := ws.map S) (fun z => hne (List.map_eq_nil_iff.mp z)) (fun p hp => by
    obtain ⟨x, hx, rfl⟩ := List.mem_map.mp hp
    exact h x hx)
  rw [join_S] at e
  rw [e]
  unfold txs
  rw [List.map_map]
  rfl
theorem ok_parse {f C : Addr} {fd : FuncData} {k : Nat} (F : Fun K "parse" "Program.parse" sParse f fd) (DH : Df P w K mg base (k + 4) "_read_head" ["lines"] spRH) (DP : Df P w K mg base (k + 5) "_read_places" ["lines", "letters", "boxes"] spRP) (MK : Mkr P w K mg base C (k + 5)) : FnOk P w K mg base CX0 (k + 7) f fd ["cls", "text"] (spParse C) := by
  refine F.ok scPa (fun vs H Q E h => ?_) (fun cdv A outer s H vs Q E hr h => ?_)
  · obtain ⟨L, B, ds, rfl, _⟩ := h
    rfl
  · obtain ⟨L, B, ds, rfl, hlen, hnl, o1, o2, o3, o4, hne, ok, hd, pq, q⟩ := h
    have big : (1000010 : Nat) ≤ sizeLine := by rw [sizeLine_eq]; decide
    refine ⟨_, pss_cons (ps_set (i := 2) scPa.nd rfl (.inl rfl) (pe_split (pv 1) pe_str))
      (pss_cons (ps_asg (pe_df DH hr (pa_cons (pv 2) pa_nil)) (pg_tup rfl (pgs_cons (pg_name (i := 3) scPa.nd rfl (.inl rfl)) (pgs_cons (pg_name (i := 4) scPa.nd rfl (.inl rfl)) pgs_nil))))
      (pss_cons (ps_asg (pe_df DP hr (pa_cons (pv 2) (pa_cons (pv 3) (pa_cons (pv 4) pa_nil)))) (pg_tup rfl (pgs_cons (pg_name (i := 5) scPa.nd rfl (.inl rfl)) (pgs_cons (pg_name (i := 6) scPa.nd rfl (.inl rfl)) (pgs_cons (pg_name (i := 7) scPa.nd rfl (.inl rfl)) pgs_nil)))))
      (pss_one (ps_ret (pe_progL MK hr (pv 0) (pa_cons (pv 3) (pa_cons (pv 4) (pa_cons (pv 5) (pa_cons (pv 6) (pa_cons (pv 7) pa_nil)))))))))), ?_⟩
    obtain ⟨d0, dr, eds⟩ : ∃ d0 dr, ds = d0 :: dr := by
      cases ds with
      | nil => exact absurd rfl hne
      | cons d0 dr => exact ⟨d0, dr, rfl⟩
    refine ⟨_, rfl, ⟨_, rfl⟩, S (joinL [10] (parseLines L B ds)), Str.ofString "\n", rfl, rfl, by decide +kernel, by rw [len_S]; omega, fun p np => ?_⟩
    rw [nl_str, split_nl (by exact List.cons_ne_nil _ _) hnl]
    have s1 := same_upd (o := .lst (txs (parseLines L B ds))) np
    have e1 : (upd H p (.lst (txs (parseLines L B ds)))) p = some (.lst (txs (parseLines L B ds))) := upd_same
    generalize upd H p (.lst (txs (parseLines L B ds))) = H1 at s1 e1
    refine ⟨_, rfl, p, L, B, d0.line, dr.map Ln.line, rfl, by rw [e1]; unfold parseLines; rw [eds]; rfl, o1, o2, o3, o4, fun t H2 s2 e2 => ?_⟩
    refine ⟨t, _, rfl, SqT.of e2, rfl, _, _, rfl, _, _, rfl, rfl, ?_⟩
    have l5 : L.length ≤ 1000 := by
      unfold okLetters at o1
      simp at o1
      omega
    have hlow : ∀ b ∈ B, isLow b = false := fun b hb => by
      have h1 := o3
      unfold okBoxes at h1
      rw [Bool.and_eq_true, Bool.and_eq_true] at h1
      exact isCap_low' (of_decide_eq_true (List.all_eq_true.mp h1.2.1 b hb))
    have l6 : B.length ≤ 1000 := by
      unfold okBoxes at o3
      simp at o3
      omega
    refine ⟨_, rfl, _, rfl, _, rfl, p, L, B, _, _, ds, rfl, s2 _ _ e1, ok, l5, l6, hlow, hd, fun t3 tp tm te Hb H3 kk sb s3 e3 h1 h2 h3 h4 => ?_⟩
    refine ⟨t3, _, rfl, SqT.of e3, rfl, _, _, rfl, _, _, rfl, _, _, rfl, rfl, ?_⟩
    have s03 := s1.trans (s2.trans s3)
    refine ⟨_, rfl, rfl, _, rfl, _, rfl, _, rfl, _, rfl, _, rfl, tp, tm, te, ⟨L, B, plOf ds, mvOf ds, enOf ds⟩, rfl, ⟨.inl h1, ⟨kk, h2, Paired.mono (fun _ _ z => z.at.to_in) h3⟩, h4⟩, pq, fun x H4 s4 n4 hp => ?_⟩
    refine q x H4 (s03.trans s4) (s03.free n4) ?_
    have := hp.at
    rw [← o2, ← o4] at this
    exact this
end
end Tb

set_option Elab.async false
set_option linter.all false
set_option maxRecDepth 100000
set_option maxHeartbeats 4000000
namespace Tb
open PySem PySem.Spec PyProof.Rows L2 TL
section
variable {P : Program} {w : World} {K : PySem.W.Frag} {mg : Str → Option Value} {base : Heap}
/-! ### Program.__eq__ of two programs that are alike, their dicts in any order -/
theorem valV_of_mem {κ : Type} [DecidableEq κ] : ∀ {kvs : List (κ × V)}, (kvs.map (·.1)).Nodup → ∀ {p : κ × V}, p ∈ kvs → valV kvs p.1 = some p.2
  | q :: r, nd, p, h => by
    rw [List.map_cons, List.nodup_cons] at nd
    rcases List.mem_cons.mp h with e | e
    · rw [e]
      exact valV_pos rfl
    · rw [valV_neg fun z => nd.1 (by rw [z]; exact List.mem_map.mpr ⟨p, e, rfl⟩)]
      exact valV_of_mem nd.2 e
theorem paired_mem {α β : Type} {F : α → β → Prop} : ∀ {l : List α} {m : List β}, Paired F l m → ∀ {x : α}, x ∈ l → ∃ y ∈ m, F x y
  | _, _, .cons h t, x, hx => by
    rcases List.mem_cons.mp hx with e | e
    · exact ⟨_, List.mem_cons_self, by rw [e]; exact h⟩
    · obtain ⟨y, hy, f⟩ := paired_mem t e
      exact ⟨y, List.mem_cons_of_mem _ hy, f⟩
theorem paired_mem' {α β : Type} {F : α → β → Prop} : ∀ {l : List α} {m : List β}, Paired F l m → ∀ {y : β}, y ∈ m → ∃ x ∈ l, F x y
  | _, _, .cons h t, y, hy => by
    rcases List.mem_cons.mp hy with e | e
    · exact ⟨_, List.mem_cons_self, by rw [e]; exact h⟩
    · obtain ⟨x, hx, f⟩ := paired_mem' t e
      exact ⟨x, List.mem_cons_of_mem _ hx, f⟩
def PrEq (C : Addr) (a b : Addr) (H : Hp) : Prop := ∃ L B places ms ms' es es', PrAt C H a L B places ms es ∧ PrAt C H b L B places ms' es' ∧ ms.Perm ms' ∧ (ms.map Mv.key).Nodup ∧ (∀ m ∈ ms, (m.fl.map (·.1)).Nodup) ∧ es.Perm es' ∧ (es.map (·.1)).Nodup
/-- the class's words for isinstance -/
structure PrIs (K : PySem.W.Frag) (C : Addr) : Prop where
  ha : PySem.W.findIn K (.ref C) "__class__" = some (some (.builtin "object.__class__"))
  hn : PySem.W.specialIn K (.builtin "object.__class__") "__get__" = some (some (.builtin "getset_descriptor.__get__"))
  htk : PySem.W.takesIn K (.builtin "object.__class__") = some true
  hm : PySem.W.mroIn K C (.type "object") = some true
theorem kitOne_self {K : PySem.W.Frag} {C : Addr} : PySem.W.kitOne K (.ref C) (.ref C) = some true := by
  unfold PySem.W.kitOne
  rw [if_pos (by simp)]
theorem fkv_nd {fl : Fil} (h : (fl.map (·.1)).Nodup) : ((fkv fl).map (·.1)).Nodup := by
  unfold fkv
  rw [List.map_map]
  have : ((fun x : Key × V => x.1) ∘ fun q : List Nat × List Nat => ((Sum.inr (S q.1) : Key), V.str (S q.2))) = (fun c : List Nat => (Sum.inr (S c) : Key)) ∘ fun q : List Nat × List Nat => q.1 := rfl
  rw [this, ← List.map_map]
  exact List.Pairwise.map _ (fun a b hab z => hab (key_S.mp z)) h
theorem fkv_flat {fl : Fil} {p : Key × V} (h : p ∈ fkv fl) : flatB p.2 = true := by
  unfold fkv at h
  obtain ⟨q, _, rfl⟩ := List.mem_map.mp h
  rfl
theorem mv_deq {H : Hp} {kv kv' : List Key × V} {m : Mv} (nd : (m.fl.map (·.1)).Nodup) (h : MvAt H kv m) (h' : MvAt H kv' m) : DEq H 2 kv.2 kv'.2 := by
  obtain ⟨e1, t1, d1, v1, t1h, d1h⟩ := h
  obtain ⟨e2, t2, d2, v2, t2h, d2h⟩ := h'
  rw [v1, v2]
  refine DEq.two (.inl t1h) (.inl t2h) (.flat rfl) (.dK (.inl d1h) (.inl d2h) rfl (fun p hp => ?_) fun p y hp hy => ?_)
  · rw [valV_of_mem (fkv_nd nd) hp]
    rfl
  · rw [valV_of_mem (fkv_nd nd) hp] at hy
    rw [← Option.some.inj hy]
    exact .flat (fkv_flat hp)
theorem scEq : FnScope ["self", "other"] ["self", "other"] (defScope sEq) := ⟨rfl, rfl, rfl, by decide +kernel, rfl, by decide +kernel, by decide +kernel⟩
theorem ok_eq {f C : Addr} {fd : FuncData} {k : Nat} (F : Fun K "__eq__" "Program.__eq__" sEq f fd) (T : PrTxt K mg C) (I : PrIs K C) (mi : mg "isinstance" = none) : FnOk P w K mg base CX0 (k + 1) f fd ["self", "other"] (spEq (PrEq C)) := by
  refine F.ok scEq (fun vs H Q E h => ?_) (fun cdv A outer s H vs Q E hr h => ?_)
  · obtain ⟨a, b, rfl, _⟩ := h
    rfl
  · obtain ⟨a, b, rfl, ⟨L, B, places, ms, ms', es, es', pa, pb, pm, nk, nf, pe, ne⟩, q⟩ := h
    obtain ⟨dx, pl, mv, en, kk, h1, h2, h3, h4, h5⟩ := pa.ob
    obtain ⟨dx', pl', mv', en', kk', h1', h2', h3', h4', h5'⟩ := pb.ob
    have hu := hu_of hr
    have hu64 := hr.units
    refine ⟨_, pss_one (ps_ret (pe_and (pe_callB call_isi (by rfl) mi (by decide +kernel) (pa_cons (pv 1) (pa_cons (pe_glob (v := .ref C) (by rfl) T.mgC rfl) pa_nil))) (pe_and (pe_cmpR op_eq (pe_fld (pv 0) rfl) (pe_fld (pv 1) rfl) (nomark _)) (pe_and (pe_cmpR op_eq (pe_fld (pv 0) rfl) (pe_fld (pv 1) rfl) (nomark _)) (pe_and (pe_cmpR (op_eqT hu64) (pe_fld (pv 0) rfl) (pe_fld (pv 1) rfl) (nomark _)) (pe_and (pe_cmpR (op_eqDT hu64) (pe_fld (pv 0) rfl) (pe_fld (pv 1) rfl) (nomark _)) (pe_one (pe_cmpR (op_eqV hu64) (pe_fld (pv 0) rfl) (pe_fld (pv 1) rfl) (nomark _))))))))), ?_⟩
    refine ⟨_, rfl, _, .ref C, .ref C, .ref C, true, rfl, .own C, .base (.ins h1' T.cl I.ha I.hn I.htk I.hm), kitOne_self, true, rfl, iteT ?_⟩
    refine ⟨_, rfl, a, C, dx, _, _, rfl, h1, T.cl, T.nL, fl_l _ _ _ _ _, _, rfl, b, C, dx', _, _, rfl, h1', T.cl, T.nL, fl_l _ _ _ _ _, rfl, true, ?_, iteT ?_⟩
    · rw [decide_eq_true rfl]
    refine ⟨_, rfl, a, C, dx, _, _, rfl, h1, T.cl, T.nB, fl_b _ _ _ _ _, _, rfl, b, C, dx', _, _, rfl, h1', T.cl, T.nB, fl_b _ _ _ _ _, rfl, true, ?_, iteT ?_⟩
    · rw [decide_eq_true rfl]
    refine ⟨_, rfl, a, C, dx, _, _, rfl, h1, T.cl, T.nP, fl_p _ _ _ _ _, _, rfl, b, C, dx', _, _, rfl, h1', T.cl, T.nP, fl_p _ _ _ _ _, 1, pl, pl', txs places, txs places, rfl, rfl, .inl h2, .inl h2', by decide, rfl, ?_, true, rfl, iteT ?_⟩
    · intro j x y e1 e2
      rw [e1] at e2
      cases e2
      unfold txs at e1
      obtain ⟨c, _, rfl⟩ := List.mem_map.mp (List.mem_of_getElem? e1)
      exact .flat rfl
    refine ⟨_, rfl, a, C, dx, _, _, rfl, h1, T.cl, T.nM, fl_m _ _ _ _ _, _, rfl, b, C, dx', _, _, rfl, h1', T.cl, T.nM, fl_m _ _ _ _ _, mv, mv', kk, kk', 2, rfl, rfl, h3, h3', by decide, ?_, ?_, true, rfl, iteT ?_⟩
    · rw [Paired.length h4, Paired.length h4', pm.length_eq]
    · intro p hp
      obtain ⟨m, hm, f1⟩ := paired_mem h4 hp
      obtain ⟨p', hp', f2⟩ := paired_mem' h4' (pm.mem_iff.mp hm)
      have nd' : (kk'.map (·.1)).Nodup := by
        rw [keys_of h4']
        exact (pm.map Mv.key).nodup_iff.mp nk
      refine ⟨p'.2, ?_, mv_deq (nf m hm) f1 f2⟩
      rw [f1.1, ← f2.1]
      exact valV_of_mem nd' hp'
    refine ⟨_, rfl, a, C, dx, _, _, rfl, h1, T.cl, T.nE, fl_e _ _ _ _ _, _, rfl, b, C, dx', _, _, rfl, h1', T.cl, T.nE, fl_e _ _ _ _ _, 1, by decide, .inr ⟨en, en', fkv es, fkv es', rfl, rfl, h5, h5', ?_, ?_⟩, q H (fun _ _ e => e)⟩
    · unfold fkv
      rw [List.length_map, List.length_map, pe.length_eq]
    · intro p hp
      have hp2 : p ∈ fkv es' := by
        unfold fkv at hp ⊢
        exact (pe.map _).mem_iff.mp hp
      exact ⟨p.2, valV_of_mem (fkv_nd ((pe.map _).nodup_iff.mp ne)) hp2, .inl ⟨rfl, fkv_flat hp⟩⟩
end
end Tb

set_option Elab.async false
set_option linter.all false
set_option maxRecDepth 100000
set_option maxHeartbeats 4000000
namespace Tb
open PySem PySem.Spec PyProof.Rows L2 TL
/-! ### what is kept of drawn parts -/
theorem flat_le {n : Nat} : ∀ {l : List (List Nat)}, (∀ x ∈ l, x.length ≤ n) → l.flatten.length ≤ n * l.length
  | [], _ => Nat.zero_le _
  | x :: l, h => by
    rw [List.flatten_cons, List.length_append, List.length_cons, Nat.mul_succ]
    have h1 := h x List.mem_cons_self
    have h2 := flat_le fun y hy => h y (List.mem_cons_of_mem _ hy)
    omega
theorem len_flat {l : List (List Nat)} {x : List Nat} (h : x ∈ l) : x.length ≤ l.flatten.length := (List.sublist_flatten_of_mem h).length_le
theorem sub_flat {l m : List (List Nat)} (h : l.Sublist m) : l.flatten.Sublist m.flatten := by
  induction h with
  | slnil => exact .slnil
  | cons a _ ih =>
    rw [List.flatten_cons]
    exact ih.trans (List.sublist_append_right _ _)
  | cons_cons a _ ih =>
    rw [List.flatten_cons, List.flatten_cons]
    exact (List.Sublist.refl _).append ih
/-- the fillings in order, the empty ones too -/
def allF (fl : Fil) : Fil := (sortN (fl.map fun q => q.1.headD 0)).map fun b => ([b], (getF fl [b]).getD [])
theorem keptF_eq (fl : Fil) : keptF fl = (allF fl).filter fun q => decide (q.2 ≠ []) := rfl
theorem allF_perm {fl : Fil} (nd : (fl.map (·.1)).Nodup) (h : Ones fl) : (allF fl).Perm fl := by
  have h1 : (allF fl).Perm ((fl.map fun q => q.1.headD 0).map fun b => ([b], (getF fl [b]).getD [])) := (sortN_perm _).map _
  refine h1.trans ?_
  rw [List.map_map]
  have : fl.map ((fun b => ([b], (getF fl [b]).getD [])) ∘ fun q : List Nat × List Nat => q.1.headD 0) = fl.map id := List.map_congr_left fun q hq => by
    obtain ⟨b, e⟩ := h q hq
    have e2 : q.1.headD 0 = b := by rw [e]; rfl
    show ([q.1.headD 0], (getF fl [q.1.headD 0]).getD []) = q
    rw [e2, ← e, getF_mem nd hq]
    rfl
  rw [this, List.map_id]
theorem kept_mem {fl : Fil} (nd : (fl.map (·.1)).Nodup) (h : Ones fl) {q : List Nat × List Nat} (hq : q ∈ keptF fl) : q ∈ fl ∧ q.2 ≠ [] := by
  rw [keptF_eq] at hq
  obtain ⟨h1, h2⟩ := List.mem_filter.mp hq
  exact ⟨(allF_perm nd h).mem_iff.mp h1, of_decide_eq_true h2⟩
theorem kept_len {fl : Fil} (nd : (fl.map (·.1)).Nodup) (h : Ones fl) : (keptF fl).length ≤ fl.length := by
  rw [keptF_eq, ← (allF_perm nd h).length_eq]
  exact List.length_filter_le _ _
theorem kept_sub {fl : Fil} : (keptF fl).Sublist (allF fl) := List.filter_sublist
theorem kept_flat {fl : Fil} (nd : (fl.map (·.1)).Nodup) (h : Ones fl) : ((keptF fl).map (·.2)).flatten.length ≤ (fl.map (·.2)).flatten.length ∧ ∀ c, ((keptF fl).map (·.2)).flatten.count c ≤ (fl.map (·.2)).flatten.count c := by
  have s : ((keptF fl).map (·.2)).flatten.Sublist ((allF fl).map (·.2)).flatten := sub_flat (kept_sub.map _)
  have p : ((allF fl).map (·.2)).flatten.Perm (fl.map (·.2)).flatten := ((allF_perm nd h).map _).flatten
  exact ⟨by rw [← p.length_eq]; exact s.length_le, fun c => by rw [← p.count_eq]; exact s.count_le _⟩
theorem kept_nodup {fl : Fil} (nd : (fl.map (·.1)).Nodup) (h : Ones fl) : ((keptF fl).map (·.1)).Nodup :=
  (kept_sub.map _).nodup (((allF_perm nd h).map _).nodup_iff.mpr nd)
theorem kept_ones {fl : Fil} (nd : (fl.map (·.1)).Nodup) (h : Ones fl) : Ones (keptF fl) := fun q hq => h q (kept_mem nd h hq).1
section
variable {pt : Pt}
theorem GoodP.filq (g : GoodP pt) {m : Mv} (hm : m ∈ pt.moves) : FilQ pt.boxes m.fl := (g.parts.mv m hm).2.2.2
theorem GoodP.fok (g : GoodP pt) {m : Mv} (hm : m ∈ pt.moves) : FilOk pt.boxes (m.fl.map (·.2)) := (g.mv m hm).2.2.2.2
theorem GoodP.flen (g : GoodP pt) {m : Mv} (hm : m ∈ pt.moves) : m.fl.length ≤ 6 := by
  have h := congrArg List.length (g.mv m hm).2.2.2.1
  rw [List.length_map, List.length_map] at h
  have := g.b6
  omega
theorem GoodP.keptl (g : GoodP pt) {m : Mv} (hm : m ∈ pt.moves) : (keptF m.fl).length ≤ 6 := Nat.le_trans (kept_len (g.filq hm).nd (g.filq hm).ones) (g.flen hm)
theorem GoodP.keptq (g : GoodP pt) {m : Mv} (hm : m ∈ pt.moves) {q : List Nat × List Nat} (hq : q ∈ keptF m.fl) : (∃ b ∈ pt.boxes, q.1 = [b]) ∧ q.2.length ≤ 100 ∧ q.2 ≠ [] ∧ ∀ c ∈ q.2, (97 ≤ c ∧ c ≤ 122) ∨ c ∈ pt.boxes := by
  obtain ⟨h1, h2⟩ := kept_mem (g.filq hm).nd (g.filq hm).ones hq
  have hk := (g.mv m hm).2.2.2.1
  have h3 : q.1 ∈ m.fl.map (·.1) := List.mem_map.mpr ⟨q, h1, rfl⟩
  rw [hk] at h3
  obtain ⟨b, hb, e⟩ := List.mem_map.mp h3
  have h4 : q.2 ∈ m.fl.map (·.2) := List.mem_map.mpr ⟨q, h1, rfl⟩
  exact ⟨⟨b, hb, e.symm⟩, Nat.le_trans (len_flat h4) (g.fok hm).len, h2, (g.fok hm).sg _ h4⟩
theorem GoodP.keptw (g : GoodP pt) {m : Mv} (hm : m ∈ pt.moves) {x : List Nat} (hx : x ∈ (keptF m.fl).map fillWord) : x.length ≤ 102 := by
  obtain ⟨q, hq, rfl⟩ := List.mem_map.mp hx
  obtain ⟨⟨b, _, e⟩, h, _⟩ := g.keptq hm hq
  unfold fillWord
  rw [List.length_append, List.length_append, e]
  show 1 + 1 + _ ≤ _
  omega
theorem GoodP.keptws (g : GoodP pt) {m : Mv} (hm : m ∈ pt.moves) : ((keptF m.fl).map fillWord).flatten.length ≤ 612 := by
  have h1 := flat_le (n := 102) (l := (keptF m.fl).map fillWord) fun x hx => g.keptw hm hx
  have h2 := g.keptl hm
  rw [List.length_map] at h1
  have : 102 * (keptF m.fl).length ≤ 102 * 6 := Nat.mul_le_mul_left _ h2
  omega
theorem GoodP.endl (g : GoodP pt) {c f : List Nat} (h : getF pt.ends c = some f) : f.length ≤ 100 ∧ (∀ x ∈ f, (97 ≤ x ∧ x ≤ 122) ∨ x ∈ pt.boxes) ∧ isFill f pt.boxes = true := by
  unfold getF at h
  obtain ⟨q, hq, rfl⟩ := Option.map_eq_some_iff.mp h
  have hm := List.mem_of_find?_eq_some hq
  obtain ⟨_, hF⟩ := g.en q hm
  have h2 := hF.len
  have h1 := hF.isFill g.bb
  rw [show [q.2].flatten = q.2 by simp] at h1 h2
  exact ⟨h2, hF.sg _ (List.mem_singleton.mpr rfl), h1⟩
theorem GoodP.tx (g : GoodP pt) : TxOk (sortN pt.letters) (sortN pt.boxes) pt.places (pt.moves.map keptM) pt.ends where
  l := by rw [(sortN_perm _).length_eq]; exact g.l5
  b := by rw [(sortN_perm _).length_eq]; exact g.b6
  p := Nat.le_trans g.p8 (by decide)
  c := fun x hx => (g.pp x hx).2.1
  e := fun c f h => Nat.le_trans (g.endl h).1 (by decide)
  to := fun m hm => by
    obtain ⟨m', hm', rfl⟩ := List.mem_map.mp hm
    exact (g.pp _ (g.mv m' hm').2.2.1).2.1
  fl := fun m hm => by
    obtain ⟨m', hm', rfl⟩ := List.mem_map.mp hm
    refine ⟨g.keptl hm', fun q hq => ?_, Nat.le_trans (g.keptws hm') (by decide)⟩
    obtain ⟨⟨b, _, e⟩, h, _⟩ := g.keptq hm' hq
    refine ⟨?_, by omega⟩
    rw [e]
    show 1 ≤ 1000
    omega
end
theorem kept_heads {fl : Fil} (nd : (fl.map (·.1)).Nodup) (h : Ones fl) : ((keptF fl).map fun q => q.1.headD 0).Pairwise (· ≤ ·) := by
  have s : ((keptF fl).map fun q => q.1.headD 0).Sublist ((allF fl).map fun q => q.1.headD 0) := kept_sub.map _
  refine List.Pairwise.sublist s ?_
  have : ((allF fl).map fun q => q.1.headD 0) = sortN (fl.map fun q => q.1.headD 0) := by
    unfold allF
    rw [List.map_map]
    exact List.map_id _
  rw [this]
  exact sortN_le _
theorem kept_sorted {fl : Fil} (nd : (fl.map (·.1)).Nodup) (h : Ones fl) : sortN ((keptF fl).map fun q => q.1.headD 0) = (keptF fl).map fun q => q.1.headD 0 := (sortN_of (List.Perm.refl _) (kept_heads nd h)).symm
theorem kept_idem {fl : Fil} (nd : (fl.map (·.1)).Nodup) (h : Ones fl) : keptF (keptF fl) = keptF fl := by
  have h1 := kept_nodup nd h
  have h2 := kept_ones nd h
  have e : allF (keptF fl) = keptF fl := by
    unfold allF
    rw [kept_sorted nd h, List.map_map]
    have : (keptF fl).map ((fun b => ([b], (getF (keptF fl) [b]).getD [])) ∘ fun q : List Nat × List Nat => q.1.headD 0) = (keptF fl).map id := List.map_congr_left fun q hq => by
      obtain ⟨b, e⟩ := h2 q hq
      have e2 : q.1.headD 0 = b := by rw [e]; rfl
      show ([q.1.headD 0], (getF (keptF fl) [q.1.headD 0]).getD []) = q
      rw [e2, ← e, getF_mem h1 hq]
      rfl
    rw [this, List.map_id]
  rw [keptF_eq, e, List.filter_eq_self]
  exact fun q hq => decide_eq_true (kept_mem nd h hq).2
theorem findM_kept (ms : List Mv) (c : List Nat) (a : Nat) : findM (ms.map keptM) c a = (findM ms c a).map keptM := by
  unfold findM
  rw [List.find?_map]
  rfl
end Tb

set_option Elab.async false
set_option linter.all false
set_option maxRecDepth 100000
set_option maxHeartbeats 4000000
/-! sorted texts; _move_stands of any words -/
namespace Tb
open PySem PySem.Spec PyProof.Rows L2 TL
/-! ### texts in order -/
def sortL (l : List (List Nat)) : List (List Nat) := l.mergeSort (fun a b => decide (¬ b < a))
theorem le_list_trans {a b c : List Nat} (h1 : ¬ b < a) (h2 : ¬ c < b) : ¬ c < a := List.le_trans h1 h2
theorem sortL_perm (l : List (List Nat)) : (sortL l).Perm l := List.mergeSort_perm _ _
theorem sortL_le (l : List (List Nat)) : (sortL l).Pairwise (fun a b => ¬ b < a) := by
  have h := List.pairwise_mergeSort (le := fun a b : List Nat => decide (¬ b < a)) (fun a b c h1 h2 => decide_eq_true (le_list_trans (of_decide_eq_true h1) (of_decide_eq_true h2))) (fun a b => by
    rw [Bool.or_eq_true, decide_eq_true_iff, decide_eq_true_iff]
    exact List.le_total a b) l
  exact h.imp fun h => of_decide_eq_true h
theorem sortL_of {zs l : List (List Nat)} (hp : zs.Perm l) (hs : zs.Pairwise (fun a b => ¬ b < a)) : zs = sortL l :=
  List.Perm.eq_of_pairwise (fun a b _ _ h1 h2 => List.le_antisymm h1 h2) hs (sortL_le l) (hp.trans (sortL_perm l).symm)
theorem rising_pw : ∀ (zs : List (List Nat)) (a : List Nat), risingS (S a) (zs.map S) = true → (a :: zs).Pairwise (fun a b => ¬ b < a)
  | [], a, _ => List.pairwise_singleton _ _
  | z :: r, a, h => by
    have h' : (!ltCps z a && risingS (S z) (r.map S)) = true := h
    rw [PyProof.Rows.ltCps_eq, Bool.and_eq_true] at h'
    have h1 : ¬ z < a := by
      have := h'.1
      simpa using this
    have h2 := rising_pw r z h'.2
    refine List.pairwise_cons.mpr ⟨fun x hx => ?_, h2⟩
    rcases List.mem_cons.mp hx with e | e
    · rw [e]; exact h1
    · exact le_list_trans h1 ((List.pairwise_cons.mp h2).1 x e)
theorem sorted_texts {ys : List Str} {l : List (List Nat)} (hp : ys.Perm (l.map S)) (hs : sortedS ys = true) : ys = (sortL l).map S := by
  have e1 : ys = (ys.map tl).map S := by
    rw [List.map_map]
    conv => lhs; rw [← List.map_id ys]
    exact List.map_congr_left fun y _ => (SX.S_tl y).symm
  have hp2 : (ys.map tl).Perm l := by
    have h := hp.map tl
    rw [show (l.map S).map tl = l from SX.map_S_tl l] at h
    exact h
  generalize ys.map tl = zs at e1 hp2
  have hz : zs.Pairwise (fun a b => ¬ b < a) := by
    rw [e1] at hs
    cases zs with
    | nil => exact List.Pairwise.nil
    | cons z r => exact rising_pw r z hs
  rw [e1, sortL_of hp2 hz]
/-! ### the fillings of words, in size -/
theorem putF_nd {fl : Fil} {k v : List Nat} (h : (fl.map (·.1)).Nodup) : ((putF fl k v).map (·.1)).Nodup := by
  unfold putF
  split
  · rw [setF_keys]
    exact h
  · rename_i hk
    rw [List.map_append, List.nodup_append]
    refine ⟨h, by simp, fun a ha b hb => ?_⟩
    have : b = k := by simpa using hb
    rw [this]
    exact fun z => hk (z ▸ ha)
theorem setF_lenF {k v : List Nat} : ∀ {fl : Fil}, (fl.map (·.1)).Nodup → ((setF fl k v).map (·.2)).flatten.length ≤ (fl.map (·.2)).flatten.length + v.length
  | [], _ => Nat.zero_le _
  | q :: fl, h => by
    have h2 := List.nodup_cons.mp h
    show ((if q.1 = k then (q.1, v) else q).2 ++ ((setF fl k v).map (·.2)).flatten).length ≤ (q.2 ++ (fl.map (·.2)).flatten).length + v.length
    rw [List.length_append, List.length_append]
    by_cases e : q.1 = k
    · rw [if_pos e, setF_other (by rw [← e]; exact h2.1)]
      show v.length + _ ≤ _
      omega
    · rw [if_neg e]
      have := setF_lenF (k := k) (v := v) h2.2
      omega
theorem putF_lenF {fl : Fil} {k v : List Nat} (h : (fl.map (·.1)).Nodup) : ((putF fl k v).map (·.2)).flatten.length ≤ (fl.map (·.2)).flatten.length + v.length := by
  unfold putF
  split
  · exact setF_lenF h
  · simp
theorem rev_ind {α : Type} {p : List α → Prop} (h0 : p []) (h1 : ∀ r a, p r → p (r ++ [a])) : ∀ l, p l := by
  suffices h : ∀ n, ∀ l : List α, l.length = n → p l from fun l => h _ l rfl
  intro n
  induction n with
  | zero =>
    intro l h
    rw [List.length_eq_zero_iff.mp h]
    exact h0
  | succ n ih =>
    intro l h
    obtain ⟨r, w, rfl⟩ : ∃ r w, l = r ++ [w] := ⟨l.dropLast, l.getLast (by intro z; rw [z] at h; cases h), (List.dropLast_concat_getLast _).symm⟩
    rw [List.length_append] at h
    exact h1 r w (ih r (Nat.succ.inj h))
theorem fillF_nd : ∀ ws, ((fillF ws).map (·.1)).Nodup := rev_ind List.nodup_nil fun r a ih => by
  rw [fillF_snoc]
  exact putF_nd ih
theorem fillF_lenF : ∀ ws, ((fillF ws).map (·.2)).flatten.length ≤ ws.flatten.length := rev_ind (Nat.zero_le _) fun r a ih => by
  rw [fillF_snoc]
  have h1 := putF_lenF (k := pA 61 a) (v := pB 61 a) (fillF_nd r)
  have h2 := pB_len 61 a
  rw [List.flatten_append, List.length_append]
  simp only [List.flatten_cons, List.flatten_nil, List.append_nil]
  omega
theorem mem_putF {fl : Fil} {k v : List Nat} {q : List Nat × List Nat} (h : q ∈ putF fl k v) : q ∈ fl ∨ q = (k, v) := by
  unfold putF at h
  split at h
  · unfold setF at h
    obtain ⟨x, hx, e⟩ := List.mem_map.mp h
    by_cases z : x.1 = k
    · rw [if_pos z] at e
      rw [← e, z]
      exact .inr rfl
    · rw [if_neg z] at e
      rw [← e]
      exact .inl hx
  · rcases List.mem_append.mp h with h | h
    · exact .inl h
    · exact .inr (List.mem_singleton.mp h)
theorem mem_fillF : ∀ ws : List (List Nat), ∀ q ∈ fillF ws, ∃ x ∈ ws, q = (pA 61 x, pB 61 x) := rev_ind (fun q h => nomatch h) fun r a ih q h => by
  rw [fillF_snoc] at h
  rcases mem_putF h with h | h
  · obtain ⟨x, hx, e⟩ := ih q h
    exact ⟨x, List.mem_append_left _ hx, e⟩
  · exact ⟨a, List.mem_append_right _ (List.mem_singleton.mpr rfl), h⟩
theorem pA_mem {s c : Nat} : ∀ {cs : List Nat}, c ∈ pA s cs → c ∈ cs
  | x :: r, h => by
    unfold pA at h
    split at h
    · exact absurd h List.not_mem_nil
    · rcases List.mem_cons.mp h with z | z
      · rw [z]
        exact List.mem_cons_self
      · exact List.mem_cons_of_mem _ (pA_mem z)
theorem fillF_uni {ws : List (List Nat)} (h : Uni ws) : Uni ((fillF ws).map (·.1)) := fun k hk c hc => by
  obtain ⟨q, hq, rfl⟩ := List.mem_map.mp hk
  obtain ⟨x, hx, e⟩ := mem_fillF ws q hq
  rw [e] at hc
  exact h x hx c (pA_mem hc)
def kys (ws : List (List Nat)) : List (List Nat) := (fillF ws).map (·.1)
/-- words that tell a move -/
def MvS (ws : List (List Nat)) (L B last : List Nat) : Prop := 2 ≤ ws.length ∧ wd ws 0 ∈ L.map (fun c => [c]) ∧ last < wd ws 0 ∧ isName (wd ws 1) = true ∧ kys (ws.drop 2) = sortL (kys (ws.drop 2)) ∧ (fillF (ws.drop 2)).length = (ws.drop 2).length ∧ [] ∉ (fillF (ws.drop 2)).map (·.2) ∧ okFils (fillF (ws.drop 2)) B = true
instance (ws : List (List Nat)) (L B last : List Nat) : Decidable (MvS ws L B last) := by unfold MvS; infer_instance
section
variable {P : Program} {w : World} {K : PySem.W.Frag} {mg : Str → Option Value} {base : Heap}
def spMSx : Sp := fun vs H Q _ => ∃ (a : Addr) (L B last : List Nat) (ws : List (List Nat)), vs = [.ref a, .str (S L), .str (S B), .str (S last)] ∧ H a = some (.lst (txs ws)) ∧ ws.length ≤ 60 ∧ ws.flatten.length ≤ 1000 ∧ Uni ws ∧ L.length ≤ 1000 ∧ B.length ≤ 1000 ∧ (∀ b ∈ B, isLow b = false) ∧ ∀ H', Same H H' → Q (.bl (decide (MvS ws L B last))) H'
theorem ok_msx {f : Addr} {fd : FuncData} {k : Nat} (F : Fun K "_move_stands" "_move_stands" sMvSt f fd) (DN : Df P w K mg base (k + 2) "is_name" ["thing"] (spIsName K)) (DR : Df P w K mg base (k + 1) "_read_fillings" ["words"] spRFx) (DF : Df P w K mg base (k + 3) "_are_fillings" ["thing", "boxes"] spAreFillings) (ml : mg "len" = none) (mL : mg "list" = none) (mS : mg "sorted" = none) : FnOk P w K mg base CX0 (k + 4) f fd ["words", "letters", "boxes", "last"] spMSx := by
  refine F.ok scMS (fun vs H Q E h => ?_) (fun cdv A outer s H vs Q E hr h => ?_)
  · obtain ⟨a, L, B, last, m, rfl, _⟩ := h
    rfl
  · obtain ⟨a, L, B, last, ws, rfl, ha, h60, hfl, huni, hL, hB, hlow, q⟩ := h
    have hu := hu_of hr
    have big : (1000000 : Nat) ≤ sizeLine := by rw [sizeLine_eq]; decide
    refine ⟨_, pss_cons (ps_if (PW.pt (pw_or (pt_cmpR op_lt (pe_callB call_lenS (by rfl) ml PySem.boot_len (pa_cons (pv 0) pa_nil)) pe_int (nomark _)) (pw_or (pt_cmpR op_notIn_seq (pe_ix ix_list (pv 0) pe_int (fun _ _ => rfl)) (pe_callTy (call_listStr rfl) (by rfl) mL (by decide +kernel) (pa_cons (pv 1) pa_nil)) (by rfl)) (pw_or (pt_cmpR op_le_str (pe_ix ix_list (pv 0) pe_int (fun _ _ => rfl)) (pv 3) (nomark _)) (pw_or1 (pt_not (pt_val (pe_df DN hr (pa_cons (pe_ix ix_list (pv 0) pe_int (fun _ _ => rfl)) pa_nil))))))))) (pss_one (ps_ret pe_bl)) pss_nil)
      (pss_cons (ps_set (i := 4) scMS.nd rfl (.inl rfl) (pe_df DR hr (pa_cons (pe_slice sl_listS (pv 0) (po_some pe_int) po_none) pa_nil)))
      (pss_cons (ps_if (PW.pt (pw_or (pt_cmpR (op_neD (by have := hr.un; show (A.deeper _).units + 64 < cLine; omega)) (pe_callTy (call_list_dK rfl) (by rfl) mL (by decide +kernel) (pa_cons (pv 4) pa_nil)) (pe_callB (call_sortedD rfl) (by rfl) mS (by decide +kernel) (pa_cons (pv 4) pa_nil)) (nomark _)) (pw_or1 (pt_cmpR op_ne (pe_callB call_lenD (by rfl) ml PySem.boot_len (pa_cons (pv 4) pa_nil)) (pe_callB call_lenS (by rfl) ml PySem.boot_len (pa_cons (pe_slice sl_listS (pv 0) (po_some pe_int) po_none) pa_nil)) (nomark _))))) (pss_one (ps_ret pe_bl)) pss_nil)
      (pss_one (ps_ret (pe_and (pe_cmpR op_notIn_seq pe_str (pe_callTy (call_listV rfl) (by rfl) mL (by decide +kernel) (pa_cons (pe_bm0 PySem.F.plainAttrs_dict PySem.F.slot_dict_values PySem.F.type_dict_values mt_vals (pv 4)) pa_nil)) (by rfl)) (pe_one (pe_df DF hr (pa_cons (pv 4) (pa_cons (pv 2) pa_nil))))))))), ?_⟩
    have no : ∀ {H'}, Same H H' → ¬ MvS ws L B last → Q (.bl false) H' := fun s' z => by
      have := q _ s'
      rw [decide_eq_false z] at this
      exact this
    have rf : Same H H := fun _ _ h => h
    have lw : (txs ws).length = ws.length := List.length_map _
    have cut : cutV (txs ws) (some 2) none = txs (ws.drop 2) := by
      rw [cutV_drop2]
      unfold txs
      rw [List.map_drop]
    refine ⟨_, rfl, a, txs ws, rfl, .inl (SqL.of ha), _, _, rfl, rfl, decide (ws.length < 2), ?_, ?_⟩
    · rw [lw]
      refine congrArg V.bl ?_
      rw [decide_eq_decide]
      omega
    by_cases c1 : ws.length < 2
    · rw [decide_eq_true c1]
      exact iteT (no rf fun z => by have := z.1; omega)
    rw [decide_eq_false c1]
    have g1 : 1 < ws.length := by omega
    have g0 : 0 < ws.length := by omega
    refine iteF ⟨_, rfl, a, txs ws, 0, .str (S (wd ws 0)), rfl, rfl, SqL.of ha, atI_nat (j := 0) (wd_at g0), _, rfl, L, rfl, hL, fun l1 H1 s1 n1 e1 => ⟨l1, sgs L, rfl, .inl (SqL.of e1), rfl, ?_, !decide (wd ws 0 ∈ L.map fun c => [c]), ?_, ?_⟩⟩
    · unfold sgs
      rw [List.all_map, List.all_eq_true]
      exact fun _ _ => rfl
    · rw [sgs_txs]
      unfold txs
      rw [inV_S]
      rfl
    by_cases c2 : wd ws 0 ∈ L.map fun c => [c]
    case neg =>
      rw [decide_eq_false c2]
      exact iteT (no s1 fun z => c2 z.2.1)
    rw [decide_eq_true c2]
    refine iteF ⟨_, rfl, a, txs ws, 0, .str (S (wd ws 0)), rfl, rfl, SqL.of (s1 _ _ ha), atI_nat (j := 0) (wd_at g0), _, rfl, S (wd ws 0), S last, rfl, rfl, !decide (last < wd ws 0), rfl, ?_⟩
    by_cases c3 : last < wd ws 0
    case neg =>
      rw [decide_eq_false c3]
      exact iteT (no s1 fun z => c3 z.2.2.1)
    rw [decide_eq_true c3]
    refine iteF ⟨_, rfl, a, txs ws, 1, .str (S (wd ws 1)), rfl, rfl, SqL.of (s1 _ _ ha), atI_nat (j := 1) (wd_at g1), .inl ⟨wd ws 1, rfl, ?_, fun H2 s2 => ⟨isName (wd ws 1), rfl, ?_⟩⟩⟩
    · have := len_flat (wd_mem g1)
      omega
    have s02 := s1.trans s2
    by_cases c4 : isName (wd ws 1) = true
    case neg =>
      rw [Bool.eq_false_iff.mpr c4]
      exact iteT (no s02 fun z => c4 z.2.2.2.1)
    rw [c4]
    have ld : (ws.drop 2).length ≤ 60 := by rw [List.length_drop]; omega
    have sub : ∀ x ∈ ws.drop 2, x ∈ ws := fun x hx => List.mem_of_mem_drop hx
    refine iteF ⟨_, rfl, _, rfl, a, txs ws, rfl, SqL.of (s02 _ _ ha), fun k1 H3 s3 n3 e3 => ⟨k1, ws.drop 2, rfl, by rw [← cut]; exact e3, by omega, fun x hx => ?_, fun d H4 s4 n4 e4 => ?_⟩⟩
    · have := len_flat (sub x hx)
      omega
    generalize hfl' : fillF (ws.drop 2) = fl at e4
    have s04 := s02.trans (s3.trans s4)
    have lfl : fl.length ≤ 60 := by
      have := fillF_len (ws.drop 2)
      rw [hfl'] at this
      omega
    have lff : (fl.map (·.2)).flatten.length ≤ 1000 := by
      have h1 := fillF_lenF (ws.drop 2)
      rw [hfl'] at h1
      have h2 : (ws.drop 2).flatten.length ≤ ws.flatten.length := by
        have : ws.flatten = (ws.take 2).flatten ++ (ws.drop 2).flatten := by rw [← List.flatten_append, List.take_append_drop]
        rw [this, List.length_append]
        omega
      omega
    have hk : kys (ws.drop 2) = fl.map (·.1) := by unfold kys; rw [hfl']
    have uk : Uni (fl.map (·.1)) := by
      have := fillF_uni (ws := ws.drop 2) fun x hx => huni x (sub x hx)
      rw [hfl'] at this
      exact this
    have us : Uni (sortL (fl.map (·.1))) := fun x hx => uk x ((sortL_perm _).mem_iff.mp hx)
    have hks : (fkv fl).map (·.1) = ((fl.map (·.1)).map S).map Sum.inr := by
      unfold fkv
      rw [List.map_map, List.map_map, List.map_map]
      rfl
    have hkv : (fkv fl).map (fun kv => kV kv.1) = txs (fl.map (·.1)) := by rw [keys_fkv]
    refine ⟨_, rfl, d, fkv fl, rfl, e4, fun q1 nq1 => ?_⟩
    have s5 := same_upd (o := .lst ((fkv fl).map fun kv => kV kv.1)) nq1
    have e5 : (upd H4 q1 (.lst ((fkv fl).map fun kv => kV kv.1))) q1 = some (.lst (txs (fl.map (·.1)))) := by rw [upd_same, hkv]
    have d5 := s5 _ _ e4
    generalize upd H4 q1 (.lst ((fkv fl).map fun kv => kV kv.1)) = H5 at s5 e5 d5
    refine ⟨_, rfl, d, fkv fl, _, rfl, .inl d5, hks, by rw [List.length_map, List.length_map]; omega, fun ys q2 hp hs nq2 => ?_⟩
    have ey := sorted_texts hp hs
    have ey2 : ys.map V.str = txs (sortL (fl.map (·.1))) := by
      rw [ey]
      unfold txs
      rw [List.map_map]
      rfl
    have s6 := same_upd (o := .lst (ys.map V.str)) nq2
    have e6 : (upd H5 q2 (.lst (ys.map V.str))) q2 = some (.lst (txs (sortL (fl.map (·.1))))) := by rw [upd_same, ey2]
    have e56 := s6 _ _ e5
    have d6 := s6 _ _ d5
    generalize upd H5 q2 (.lst (ys.map V.str)) = H6 at s6 e6 e56 d6
    have s06 := s04.trans (s5.trans s6)
    refine ⟨_, _, dTx_lst e56, dTx_lst e6, shaped_dTx uk, shaped_dTx us, !decide (fl.map (·.1) = sortL (fl.map (·.1))), ?_, ?_⟩
    · rw [← eqv_dTx]
      rfl
    by_cases c5 : fl.map (·.1) = sortL (fl.map (·.1))
    case neg =>
      rw [decide_eq_false c5]
      exact iteT (no s06 fun z => c5 (by rw [← hk]; exact z.2.2.2.2.1))
    rw [decide_eq_true c5]
    refine iteF ⟨_, rfl, d, fkv fl, rfl, d6, _, rfl, _, rfl, a, txs ws, rfl, SqL.of (s06 _ _ ha), fun k2 H7 s7 n7 e7 => ?_⟩
    have s07 := s06.trans s7
    have d7 := s7 _ _ d6
    refine ⟨k2, txs (ws.drop 2), rfl, .inl (SqL.of (by rw [← cut]; exact e7)), rfl, !decide (fl.length = (ws.drop 2).length), ?_, ?_⟩
    · rw [show (fkv fl).length = fl.length from List.length_map _, show (txs (ws.drop 2)).length = (ws.drop 2).length from List.length_map _]
      refine congrArg (fun b => V.bl (!b)) ?_
      rw [decide_eq_decide]
      exact ⟨fun z => by injection z with z; omega, fun z => by rw [z]⟩
    by_cases c6 : fl.length = (ws.drop 2).length
    case neg =>
      rw [decide_eq_false c6]
      exact iteT (no s07 fun z => c6 (by rw [← hfl']; exact z.2.2.2.2.2.1))
    rw [decide_eq_true c6]
    have tyd : tyV K "dict" (.ref d) H7 := .inr (.inr (.inl ⟨rfl, .inl ⟨_, d7⟩⟩))
    refine iteF ⟨_, rfl, tyd, d, fkv fl, rfl, rfl, d7, fun v8 n8 => ?_⟩
    have s8 := same_upd (o := valsO v8 d) n8
    have e8 : (upd H7 v8 (valsO v8 d)) v8 = some (valsO v8 d) := upd_same
    have d8 := s8 _ _ d7
    generalize upd H7 v8 (valsO v8 d) = H8 at s8 e8 d8
    refine ⟨v8, d, fkv fl, rfl, e8, d8, fun q9 n9 => ?_⟩
    have s9 := same_upd (o := .lst ((fkv fl).map Prod.snd)) n9
    have e9 : (upd H8 q9 (.lst ((fkv fl).map Prod.snd))) q9 = some (.lst (txs (fl.map (·.2)))) := by rw [upd_same, vals_fkv]
    have d9 := s9 _ _ d8
    generalize upd H8 q9 (.lst ((fkv fl).map Prod.snd)) = H9 at s9 e9 d9
    have s09 := s07.trans (s8.trans s9)
    refine ⟨q9, txs (fl.map (·.2)), rfl, .inl (SqL.of e9), rfl, ?_, !decide ([] ∈ fl.map (·.2)), ?_, ?_⟩
    · unfold txs
      rw [List.all_map, List.all_eq_true]
      exact fun _ _ => rfl
    · rw [S_nilstr]
      unfold txs
      rw [inV_S]
      rfl
    by_cases c7 : [] ∈ fl.map (·.2)
    · rw [decide_eq_true c7]
      exact iteF (no s09 fun z => z.2.2.2.2.2.2.1 (by rw [hfl']; exact c7))
    rw [decide_eq_false c7]
    refine iteT ⟨_, rfl, _, rfl, d, fl, B, rfl, d9, by omega, lff, hB, hlow, fun H' s' => ?_⟩
    have := q _ (s09.trans s')
    have e : decide (MvS ws L B last) = okFils fl B := by
      rw [Bool.eq_iff_iff, decide_eq_true_iff]
      unfold MvS
      rw [hk, hfl']
      exact ⟨fun z => z.2.2.2.2.2.2.2, fun z => ⟨by omega, c2, c3, c4, c5, c6, c7, z⟩⟩
    rw [e] at this
    exact this
end
end Tb

set_option Elab.async false
set_option linter.all false
set_option maxRecDepth 100000
set_option maxHeartbeats 4000000
/-! _read_head, both ways -/
namespace Tb
open PySem PySem.Spec PyProof.Rows L2 TL
theorem BtX.same {BT : Addr} {v : V} {H H1 : Hp} {E : XK} (h : BtX BT v H E) (s : Same H H1) : BtX BT v H1 E := fun d H' s1 n e => h d H' (s.trans s1) (s.free n) e
/-- what the first lines tell, or the line that cannot stand -/
def hdF (ls : List (List Nat)) : Nat ⊕ (List Nat × List Nat) :=
  match rlF (wd ls 0) with
  | none => .inl 1
  | some L => if ls.length < 2 then .inl 2 else match rbF (wd ls 1) with
    | none => .inl 2
    | some B => if ls.length < 3 then .inl 3 else .inr (L, B)
section
variable {P : Program} {w : World} {K : PySem.W.Frag} {mg : Str → Option Value} {base : Heap}
def spRHx (BT : Addr) : Sp := fun vs H Q E => ∃ (a : Addr) (ls : List (List Nat)), vs = [.ref a] ∧ H a = some (.lst (txs ls)) ∧ ls ≠ [] ∧ (∀ x ∈ ls, x.length ≤ 1000) ∧ match hdF ls with
  | .inl n => BtX BT (.int n) H E
  | .inr q => ∀ p H', Same H H' → H' p = some (.tup [.str (S q.1), .str (S q.2)]) → Q (.ref p) H'
theorem ok_rhx {f BT : Addr} {fd : FuncData} {k : Nat} (F : Fun K "_read_head" "_read_head" sRHead f fd) (N : BtTxt P w K mg base BT) (DL : Df P w K mg base (k + 3) "_read_letters" ["line"] spRLx) (DB : Df P w K mg base (k + 3) "_read_boxes" ["line"] spRBx) (ml : mg "len" = none) : FnOk P w K mg base (L2.CX P w) (k + 4) f fd ["lines"] (spRHx BT) := by
  refine F.okX scRH (fun vs H Q E h => ?_) (fun cdv A outer s H vs Q E hr h => ?_)
  · obtain ⟨a, ls, rfl, _⟩ := h
    rfl
  · obtain ⟨a, ls, rfl, ha, hne, hl, q⟩ := h
    have big : (1000000 : Nat) ≤ sizeLine := by rw [sizeLine_eq]; decide
    refine ⟨_, pss_cons (ps_set (i := 1) scRH.nd rfl (.inl rfl) (pe_df DL hr (pa_cons (pe_ix ix_list (pv 0) pe_int (fun _ _ => rfl)) pa_nil)))
      (pss_cons (ps_if (pt_cmpR op_isN (pv 1) pe_non (nomark _)) (pss_one (ps_raiseBt rfl N hr (by omega) (takes_of rfl rfl rfl rfl) pe_int)) pss_nil)
      (pss_cons (ps_if (pt_cmpR op_lt (pe_callB call_lenS (by rfl) ml PySem.boot_len (pa_cons (pv 0) pa_nil)) pe_int (nomark _)) (pss_one (ps_raiseBt rfl N hr (by omega) (takes_of rfl rfl rfl rfl) pe_int)) pss_nil)
      (pss_cons (ps_set (i := 2) scRH.nd rfl (.inl rfl) (pe_df DB hr (pa_cons (pe_ix ix_list (pv 0) pe_int (fun _ _ => rfl)) pa_nil)))
      (pss_cons (ps_if (pt_cmpR op_isN (pv 2) pe_non (nomark _)) (pss_one (ps_raiseBt rfl N hr (by omega) (takes_of rfl rfl rfl rfl) pe_int)) pss_nil)
      (pss_cons (ps_if (pt_cmpR op_lt (pe_callB call_lenS (by rfl) ml PySem.boot_len (pa_cons (pv 0) pa_nil)) pe_int (nomark _)) (pss_one (ps_raiseBt rfl N hr (by omega) (takes_of rfl rfl rfl rfl) pe_int)) pss_nil)
      (pss_one (ps_ret (pe_tupS (pa_cons (pv 1) (pa_cons (pv 2) pa_nil)))))))))), ?_⟩
    have lw : (txs ls).length = ls.length := List.length_map _
    have l0 : 0 < ls.length := List.length_pos_iff.mpr hne
    refine ⟨_, rfl, a, txs ls, 0, _, rfl, rfl, SqL.of ha, atI_nat (j := 0) (wd_at l0), wd ls 0, rfl, hl _ (wd_mem l0), fun H1 s1 => ?_⟩
    cases hL : rlF (wd ls 0) with
    | none =>
      rw [show hdF ls = .inl 1 by unfold hdF; rw [hL]] at q
      refine ⟨_, rfl, rfl, true, rfl, iteT ?_⟩
      exact q.same s1
    | some L =>
      refine ⟨_, rfl, rfl, false, rfl, iteF ?_⟩
      refine ⟨_, rfl, a, txs ls, rfl, .inl (SqL.of (s1 _ _ ha)), _, _, rfl, rfl, decide (ls.length < 2), ?_, ?_⟩
      · rw [lw]
        refine congrArg V.bl ?_
        rw [decide_eq_decide]
        omega
      by_cases c2 : ls.length < 2
      · rw [decide_eq_true c2]
        rw [show hdF ls = .inl 2 by unfold hdF; rw [hL]; exact if_pos c2] at q
        exact iteT (q.same s1)
      rw [decide_eq_false c2]
      have e2 : hdF ls = match rbF (wd ls 1) with
          | none => .inl 2
          | some B => if ls.length < 3 then .inl 3 else .inr (L, B) := by
        unfold hdF
        rw [hL]
        exact if_neg c2
      have l1 : 1 < ls.length := by omega
      refine iteF ⟨_, rfl, a, txs ls, 1, _, rfl, rfl, SqL.of (s1 _ _ ha), atI_nat (j := 1) (wd_at l1), wd ls 1, rfl, hl _ (wd_mem l1), fun H2 s2 => ?_⟩
      have s02 := s1.trans s2
      cases hB : rbF (wd ls 1) with
      | none =>
        rw [show hdF ls = .inl 2 by rw [e2, hB]] at q
        refine ⟨_, rfl, rfl, true, rfl, iteT ?_⟩
        exact q.same s02
      | some B =>
        refine ⟨_, rfl, rfl, false, rfl, iteF ?_⟩
        refine ⟨_, rfl, a, txs ls, rfl, .inl (SqL.of (s02 _ _ ha)), _, _, rfl, rfl, decide (ls.length < 3), ?_, ?_⟩
        · rw [lw]
          refine congrArg V.bl ?_
          rw [decide_eq_decide]
          omega
        by_cases c3 : ls.length < 3
        · rw [decide_eq_true c3]
          rw [show hdF ls = .inl 3 by rw [e2, hB]; exact if_pos c3] at q
          exact iteT (q.same s02)
        rw [decide_eq_false c3]
        rw [show hdF ls = .inr (L, B) by rw [e2, hB]; exact if_neg c3] at q
        exact iteF ⟨_, rfl, _, rfl, by show 2 ≤ sizeLine; omega, fun p H3 s3 n3 e3 => q p H3 (s02.trans s3) e3⟩
end
end Tb

set_option Elab.async false
set_option linter.all false
set_option maxRecDepth 100000
set_option maxHeartbeats 4000000
/-! the objects that are filled, the leads with their numbers -/
namespace Tb
open PySem PySem.Spec PyProof.Rows L2 TL
/-- a lead: a new pair -/
def LdQ (H : Hp) (t : Addr) (q : Nat × List Nat) : Prop := H t = some (.tup [.int (q.1 : Int), .str (S q.2)])
structure RQg (Hb H : Hp) (g1 g2 g3 g4 : Addr) (ps : List (List Nat)) (ms : List Mv) (es : Fil) (ls : List (Nat × List Nat)) : Prop where
  old : ∀ b o, Hb b = some o → b ≠ g1 → b ≠ g2 → b ≠ g3 → b ≠ g4 → H b = some o
  l1 : H g1 = some (.lst (txs ps))
  m : ∃ kk, H g2 = some (.dT kk) ∧ Paired (MvNew Hb H) kk ms
  e : H g3 = some (.dK (fkv es))
  le : ∃ ts : List Addr, H g4 = some (.lst (ts.map V.ref)) ∧ Paired (LdQ H) ts ls
theorem LdQ.same {H H' : Hp} (s : Same H H') {t : Addr} {c : Nat × List Nat} (h : LdQ H t c) : LdQ H' t c := s _ _ h
theorem LdQ.upd {H : Hp} {g : Addr} {o : HO} {t : Addr} {c : Nat × List Nat} (h : LdQ H t c) (ht : ∀ xs, H g ≠ some (.tup xs)) : LdQ (upd H g o) t c := by
  unfold LdQ
  rw [upd_ne (fun z => ht _ (z ▸ h))]
  exact h
section
variable {Hb H H' : Hp} {g1 g2 g3 g4 : Addr} {ps : List (List Nat)} {ms : List Mv} {es : Fil} {ls : List (Nat × List Nat)}
theorem RQg.same (h : RQg Hb H g1 g2 g3 g4 ps ms es ls) (s : Same H H') : RQg Hb H' g1 g2 g3 g4 ps ms es ls where
  old := fun b o e n1 n2 n3 n4 => s _ _ (h.old b o e n1 n2 n3 n4)
  l1 := s _ _ h.l1
  m := let ⟨kk, e, p⟩ := h.m; ⟨kk, s _ _ e, Paired.mono (fun _ _ z => z.same s) p⟩
  e := s _ _ h.e
  le := let ⟨ts, e, p⟩ := h.le; ⟨ts, s _ _ e, Paired.mono (fun _ _ z => z.same s) p⟩
theorem RQg.start (b : RPb Hb g1 g2 g3 g4) : RQg Hb Hb g1 g2 g3 g4 [] [] [] [] :=
  ⟨fun _ _ e _ _ _ _ => e, b.h1, ⟨[], b.h2, .nil⟩, b.h3, ⟨[], b.h4, .nil⟩⟩
theorem RQg.n12 (h : RQg Hb H g1 g2 g3 g4 ps ms es ls) : g1 ≠ g2 := fun z => by
  obtain ⟨kk, e, _⟩ := h.m
  rw [← z, h.l1] at e
  cases e
theorem RQg.n13 (h : RQg Hb H g1 g2 g3 g4 ps ms es ls) : g1 ≠ g3 := fun z => by
  have e := h.e
  rw [← z, h.l1] at e
  cases e
theorem RQg.n23 (h : RQg Hb H g1 g2 g3 g4 ps ms es ls) : g2 ≠ g3 := fun z => by
  obtain ⟨kk, e1, _⟩ := h.m
  have e := h.e
  rw [← z, e1] at e
  cases e
theorem RQg.n24 (h : RQg Hb H g1 g2 g3 g4 ps ms es ls) : g2 ≠ g4 := fun z => by
  obtain ⟨kk, e1, _⟩ := h.m
  obtain ⟨ts, e, _⟩ := h.le
  rw [← z, e1] at e
  cases e
theorem RQg.n34 (h : RQg Hb H g1 g2 g3 g4 ps ms es ls) : g3 ≠ g4 := fun z => by
  obtain ⟨ts, e, _⟩ := h.le
  rw [← z, h.e] at e
  cases e
/-- a place is put -/
theorem RQg.place (b : RPb Hb g1 g2 g3 g4) (h : RQg Hb H g1 g2 g3 g4 ps ms es ls) (c : List Nat) : RQg Hb (upd H g1 (.lst (txs ps ++ [.str (S c)]))) g1 g2 g3 g4 (ps ++ [c]) ms es ls where
  old := fun b o e n1 n2 n3 n4 => by rw [upd_ne n1]; exact h.old b o e n1 n2 n3 n4
  l1 := by rw [upd_same]; unfold txs; rw [List.map_append]; rfl
  m := by
    obtain ⟨kk, e, p⟩ := h.m
    refine ⟨kk, by rw [upd_ne h.n12.symm]; exact e, Paired.mono (fun _ _ z => z.upd (fun xs z => ?_) (fun z => ?_)) p⟩
    · rw [h.l1] at z
      cases z
    · rw [b.h1] at z
      cases z
  e := by rw [upd_ne h.n13.symm]; exact h.e
  le := by
    obtain ⟨ts, e, p⟩ := h.le
    refine ⟨ts, by rw [upd_ne b.n14.symm]; exact e, Paired.mono (fun _ _ z => z.upd fun xs z => ?_) p⟩
    rw [h.l1] at z
    cases z
/-- an end is put -/
theorem RQg.end' (b : RPb Hb g1 g2 g3 g4) (h : RQg Hb H g1 g2 g3 g4 ps ms es ls) (c f : List Nat) (hc : c ∉ es.map (·.1)) : RQg Hb (upd H g3 (.dK (putK (fkv es) (Sum.inr (S c)) (.str (S f))))) g1 g2 g3 g4 ps ms (es ++ [(c, f)]) ls where
  old := fun b o e n1 n2 n3 n4 => by rw [upd_ne n3]; exact h.old b o e n1 n2 n3 n4
  l1 := by rw [upd_ne h.n13]; exact h.l1
  m := by
    obtain ⟨kk, e, p⟩ := h.m
    refine ⟨kk, by rw [upd_ne h.n23]; exact e, Paired.mono (fun _ _ z => z.upd (fun xs z => ?_) (fun z => ?_)) p⟩
    · rw [h.e] at z
      cases z
    · rw [b.h3] at z
      cases z
  e := by rw [upd_same, fkv_put f hc]
  le := by
    obtain ⟨ts, e, p⟩ := h.le
    refine ⟨ts, by rw [upd_ne h.n34.symm]; exact e, Paired.mono (fun _ _ z => z.upd fun xs z => ?_) p⟩
    rw [h.e] at z
    cases z
/-- a move is put -/
theorem RQg.move (b : RPb Hb g1 g2 g3 g4) (h : RQg Hb H g1 g2 g3 g4 ps ms es ls) (m : Mv) (hm : m.key ∉ ms.map Mv.key) {t d : Addr} (ht : H t = some (.tup [.str (S m.to), .ref d])) (hd : H d = some (.dK (fkv m.fl))) (nd : Hb d = none) {kk : List (List Key × V)} (hk : H g2 = some (.dT kk)) :
    RQg Hb (upd H g2 (.dT (putK kk m.key (.ref t)))) g1 g2 g3 g4 ps (ms ++ [m]) es ls where
  old := fun b o e n1 n2 n3 n4 => by rw [upd_ne n2]; exact h.old b o e n1 n2 n3 n4
  l1 := by rw [upd_ne h.n12]; exact h.l1
  m := by
    obtain ⟨kk', e, p⟩ := h.m
    rw [hk] at e
    cases e
    have kn : m.key ∉ kk.map (·.1) := by rw [keys_new p]; exact hm
    refine ⟨kk ++ [(m.key, .ref t)], by rw [upd_same, putK_end _ kn], ?_⟩
    have up : ∀ kv m', MvNew Hb H kv m' → MvNew Hb (upd H g2 (.dT (putK kk m.key (.ref t)))) kv m' := fun kv m' z => z.upd (fun xs z => by rw [hk] at z; cases z) (fun z => by rw [b.h2] at z; cases z)
    exact (Paired.mono up p).snoc (up _ _ ⟨rfl, t, d, rfl, ht, hd, nd⟩)
  e := by rw [upd_ne h.n23.symm]; exact h.e
  le := by
    obtain ⟨ts, e, p⟩ := h.le
    refine ⟨ts, by rw [upd_ne h.n24.symm]; exact e, Paired.mono (fun _ _ z => z.upd fun xs z => ?_) p⟩
    rw [hk] at z
    cases z
/-- a lead is put -/
theorem RQg.lead (b : RPb Hb g1 g2 g3 g4) (h : RQg Hb H g1 g2 g3 g4 ps ms es ls) (c : Nat × List Nat) {T : Addr} (hT : LdQ H T c) {ts : List Addr} (hl : H g4 = some (.lst (ts.map V.ref))) :
    RQg Hb (upd H g4 (.lst (ts.map V.ref ++ [.ref T]))) g1 g2 g3 g4 ps ms es (ls ++ [c]) where
  old := fun b o e n1 n2 n3 n4 => by rw [upd_ne n4]; exact h.old b o e n1 n2 n3 n4
  l1 := by rw [upd_ne b.n14]; exact h.l1
  m := by
    obtain ⟨kk, e, p⟩ := h.m
    refine ⟨kk, by rw [upd_ne h.n24]; exact e, Paired.mono (fun _ _ z => z.upd (fun xs z => ?_) (fun z => ?_)) p⟩
    · rw [hl] at z
      cases z
    · rw [b.h4] at z
      cases z
  e := by rw [upd_ne h.n34]; exact h.e
  le := by
    obtain ⟨ts', e, p⟩ := h.le
    rw [hl] at e
    injection e with e
    injection e with e
    have : ts = ts' := refs_inj e
    subst this
    have up : ∀ t c', LdQ H t c' → LdQ (upd H g4 (.lst (ts.map V.ref ++ [.ref T]))) t c' := fun t c' z => z.upd fun xs z => by rw [hl] at z; cases z
    exact ⟨ts ++ [T], by rw [upd_same, List.map_append]; rfl, (Paired.mono up p).snoc (up _ _ hT)⟩
end
end Tb

set_option Elab.async false
set_option linter.all false
set_option maxRecDepth 100000
set_option maxHeartbeats 4000000
/-! what lines tell, line by line: pure -/
namespace Tb
open PySem PySem.Spec PyProof.Rows L2 TL
theorem RQg.free {Hb H : Hp} {g1 g2 g3 g4 : Addr} {ps : List (List Nat)} {ms : List Mv} {es : Fil} {ls : List (Nat × List Nat)} (h : RQg Hb H g1 g2 g3 g4 ps ms es ls) {x : Addr} (n : H x = none) : Hb x = none := by
  cases z : Hb x with
  | none => rfl
  | some o =>
    exfalso
    have h1 : x ≠ g1 := fun e => by rw [e, h.l1] at n; cases n
    have h2 : x ≠ g2 := fun e => by rw [e, h.m.choose_spec.1] at n; cases n
    have h3 : x ≠ g3 := fun e => by rw [e, h.e] at n; cases n
    have h4 : x ≠ g4 := fun e => by rw [e, h.le.choose_spec.1] at n; cases n
    rw [h.old x o z h1 h2 h3 h4] at n
    cases n
structure RS where
  ps : List (List Nat)
  ms : List Mv
  es : Fil
  ld : List (Nat × List Nat)
  last : List Nat
def RS.init : RS := ⟨[], [], [], [], []⟩
def endW (x : List Nat) : List Nat := if x = [45] then [] else x
def stP (st : RS) (ws : List (List Nat)) : RS := ⟨st.ps ++ [wd ws 1], st.ms, if ws.length = 3 then st.es ++ [(wd ws 1, endW (wd ws 2))] else st.es, st.ld, []⟩
def mvW (st : RS) (ws : List (List Nat)) : Mv := ⟨st.ps.getLastD [], (wd ws 0).headD 0, wd ws 1, fillF (ws.drop 2)⟩
def stM (st : RS) (n : Nat) (ws : List (List Nat)) : RS := ⟨st.ps, st.ms ++ [mvW st ws], st.es, st.ld ++ [(n, wd ws 1)], wd ws 0⟩
def rdF (L B : List Nat) : Nat → RS → List (List Nat) → Nat ⊕ RS
  | _, st, [] => .inr st
  | n, st, l :: r => if PlS (splL 32 l) st.ps B then rdF L B (n + 1) (stP st (splL 32 l)) r else
      if st.ps ≠ [] ∧ MvS (splL 32 l) L B st.last then rdF L B (n + 1) (stM st n (splL 32 l)) r else .inl n
def lost (st : RS) : Option (Nat × List Nat) := st.ld.find? fun q => decide (q.2 ∉ st.ps)
def plF (L B : List Nat) (ls : List (List Nat)) : Nat ⊕ RS := match rdF L B 3 RS.init ls with
  | .inl n => .inl n
  | .inr st => match lost st with
    | some q => .inl q.1
    | none => .inr st
/-- what is sure of what was read -/
structure RSok (L : List Nat) (i : Nat) (st : RS) : Prop where
  lp : st.ps.length ≤ i
  lm : st.ms.length ≤ i
  le : st.es.length ≤ i
  ll : st.ld.length ≤ i
  nd : st.ps.Nodup
  ek : ∀ k ∈ st.es.map (·.1), k ∈ st.ps
  mp : ∀ m ∈ st.ms, m.pl ∈ st.ps
  ml : ∀ m ∈ st.ms, some m.pl = st.ps.getLast? → ¬ st.last < [m.lt]
theorem RSok.init (L : List Nat) : RSok L 0 RS.init := ⟨Nat.zero_le _, Nat.zero_le _, Nat.zero_le _, Nat.zero_le _, List.nodup_nil, fun _ h => (nomatch h), fun _ h => (nomatch h), fun _ h => (nomatch h)⟩
theorem RSok.place {L B : List Nat} {i : Nat} {st : RS} {ws : List (List Nat)} (h : RSok L i st) (p : PlS ws st.ps B) : RSok L (i + 1) (stP st ws) where
  lp := by
    show (st.ps ++ [wd ws 1]).length ≤ _
    rw [List.length_append]
    have := h.lp
    simp only [List.length_singleton]
    omega
  lm := Nat.le_succ_of_le h.lm
  le := by
    have := h.le
    show (if ws.length = 3 then st.es ++ [(wd ws 1, endW (wd ws 2))] else st.es).length ≤ _
    split
    · rw [List.length_append]
      simp only [List.length_singleton]
      omega
    · omega
  ll := Nat.le_succ_of_le h.ll
  nd := by
    show (st.ps ++ [wd ws 1]).Nodup
    rw [List.nodup_append]
    refine ⟨h.nd, by simp, fun a ha b hb => ?_⟩
    rw [List.mem_singleton.mp hb]
    exact fun z => p.2.2.2.2.1 (z ▸ ha)
  ek := fun k hk => by
    show k ∈ st.ps ++ [wd ws 1]
    have hk : k ∈ (if ws.length = 3 then st.es ++ [(wd ws 1, endW (wd ws 2))] else st.es).map (·.1) := hk
    split at hk
    · rw [List.map_append] at hk
      rcases List.mem_append.mp hk with z | z
      · exact List.mem_append_left _ (h.ek k z)
      · exact List.mem_append_right _ z
    · exact List.mem_append_left _ (h.ek k hk)
  mp := fun m hm => List.mem_append_left _ (h.mp m hm)
  ml := fun m hm e => by
    have e : some m.pl = (st.ps ++ [wd ws 1]).getLast? := e
    rw [List.getLast?_append] at e
    have e1 : m.pl = wd ws 1 := by simpa using e
    exact absurd (e1 ▸ h.mp m hm) p.2.2.2.2.1
theorem one_wd {ws : List (List Nat)} {L : List Nat} (h : wd ws 0 ∈ L.map fun c => [c]) : wd ws 0 = [(wd ws 0).headD 0] ∧ (wd ws 0).headD 0 ∈ L := by
  obtain ⟨c, hc, e⟩ := List.mem_map.mp h
  rw [← e]
  exact ⟨rfl, hc⟩
theorem getLastD_mem {α : Type} {l : List α} {d : α} (h : l ≠ []) : some (l.getLastD d) = l.getLast? := by
  cases l with
  | nil => exact absurd rfl h
  | cons a r => simp [List.getLast?_cons]
theorem RSok.move {L B : List Nat} {i n : Nat} {st : RS} {ws : List (List Nat)} (h : RSok L i st) (hp : st.ps ≠ []) (p : MvS ws L B st.last) : RSok L (i + 1) (stM st n ws) where
  lp := Nat.le_succ_of_le h.lp
  lm := by
    show (st.ms ++ [mvW st ws]).length ≤ _
    rw [List.length_append]
    have := h.lm
    simp only [List.length_singleton]
    omega
  le := Nat.le_succ_of_le h.le
  ll := by
    show (st.ld ++ [(n, wd ws 1)]).length ≤ _
    rw [List.length_append]
    have := h.ll
    simp only [List.length_singleton]
    omega
  nd := h.nd
  ek := h.ek
  mp := fun m hm => by
    rcases List.mem_append.mp (show m ∈ st.ms ++ [mvW st ws] from hm) with z | z
    · exact h.mp m z
    · rw [List.mem_singleton.mp z]
      have := getLastD_mem (d := []) hp
      exact List.mem_of_getLast? this.symm
  ml := fun m hm e => by
    show ¬ wd ws 0 < [m.lt]
    rcases List.mem_append.mp (show m ∈ st.ms ++ [mvW st ws] from hm) with z | z
    · have h1 := h.ml m z e
      intro h2
      exact h1 (List.lt_trans p.2.2.1 h2)
    · rw [List.mem_singleton.mp z]
      have e1 := (one_wd p.2.1).1
      show ¬ wd ws 0 < [(wd ws 0).headD 0]
      rw [← e1]
      exact List.lt_irrefl _
/-- the move's key is new -/
theorem RSok.key {L B : List Nat} {i : Nat} {st : RS} {ws : List (List Nat)} (h : RSok L i st) (hp : st.ps ≠ []) (p : MvS ws L B st.last) : (mvW st ws).key ∉ st.ms.map Mv.key := fun z => by
  obtain ⟨m, hm, e⟩ := List.mem_map.mp z
  unfold Mv.key at e
  injection e with e1 e2
  injection e2 with e2 _
  have h1 : m.pl = st.ps.getLastD [] := S_inj (Sum.inr.inj e1)
  have h2 : [m.lt] = [(wd ws 0).headD 0] := S_inj (Sum.inr.inj e2)
  refine h.ml m hm (by rw [h1, getLastD_mem hp]) ?_
  rw [h2, ← (one_wd p.2.1).1]
  exact p.2.2.1
theorem splL_flat (s : Nat) : ∀ cs, (splL s cs).flatten.length ≤ cs.length
  | [] => Nat.le_refl _
  | c :: r => by
    have ih := splL_flat s r
    unfold splL
    split
    · show (splL s r).flatten.length ≤ _
      rw [List.length_cons]
      omega
    · cases e : splL s r with
      | nil => exact absurd e (splL_ne s r)
      | cons h t =>
        rw [e] at ih
        show ((c :: h) ++ t.flatten).length ≤ _
        rw [List.length_cons]
        have : (h ++ t.flatten).length ≤ r.length := ih
        show (h ++ t.flatten).length + 1 ≤ _
        omega
theorem splL_mem (s : Nat) : ∀ cs, ∀ x ∈ splL s cs, ∀ c ∈ x, c ∈ cs
  | [], x, hx, c, hc => by
    cases (List.mem_singleton.mp hx)
    exact hc
  | a :: r, x, hx, c, hc => by
    have ih := splL_mem s r
    unfold splL at hx
    split at hx
    · rcases List.mem_cons.mp hx with rfl | hx
      · exact absurd hc List.not_mem_nil
      · exact List.mem_cons_of_mem _ (ih x hx c hc)
    · cases e : splL s r with
      | nil => exact absurd e (splL_ne s r)
      | cons h t =>
        rw [e] at hx ih
        rcases List.mem_cons.mp hx with rfl | hx
        · rcases List.mem_cons.mp hc with rfl | hc
          · exact List.mem_cons_self
          · exact List.mem_cons_of_mem _ (ih h List.mem_cons_self c hc)
        · exact List.mem_cons_of_mem _ (ih x (List.mem_cons_of_mem _ hx) c hc)
end Tb

set_option Elab.async false
set_option linter.all false
set_option maxRecDepth 100000
set_option maxHeartbeats 4000000
/-! _read_places, both ways -/
namespace Tb
open PySem PySem.Spec PyProof.Rows L2 TL
section
variable {P : Program} {w : World} {K : PySem.W.Frag} {mg : Str → Option Value} {base : Heap}
/-- a line that is not too long -/
def LnB (l : List Nat) : Prop := l.length ≤ 1000 ∧ (splL 32 l).length ≤ 60 ∧ ∀ c ∈ l, c < 1114112
def spRPx (BT : Addr) : Sp := fun vs H Q E => ∃ (a : Addr) (L B : List Nat) (ls : List (List Nat)), vs = [.ref a, .str (S L), .str (S B)] ∧ H a = some (.lst (txs ls)) ∧ (∀ l ∈ ls, LnB l) ∧ L.length ≤ 1000 ∧ B.length ≤ 1000 ∧ (∀ b ∈ B, isLow b = false) ∧ ls.length ≤ 1000 ∧
  match plF L B (ls.drop 2) with
  | .inl n => BtX BT (.int n) H E
  | .inr st => ∀ p tp tm te Hb H' kk, Same H Hb → Same H H' → H' p = some (.tup [.ref tp, .ref tm, .ref te]) → H' tp = some (.lst (txs st.ps)) → H' tm = some (.dT kk) → Paired (MvNew Hb H') kk st.ms → H' te = some (.dK (fkv st.es)) → Q (.ref p) H'
theorem ok_rpx {f BT : Addr} {fd : FuncData} {k : Nat} (F : Fun K "_read_places" "_read_places" sRPlaces f fd) (N : BtTxt P w K mg base BT) (DPS : Df P w K mg base (k + 3) "_place_stands" ["words", "places", "boxes"] spPSx) (DMS : Df P w K mg base (k + 4) "_move_stands" ["words", "letters", "boxes", "last"] spMSx) (DRF : Df P w K mg base (k + 1) "_read_fillings" ["words"] spRFx) (ml : mg "len" = none) (me : mg "enumerate" = none) : FnOk P w K mg base (L2.CX P w) (k + 5) f fd ["lines", "letters", "boxes"] (spRPx BT) := by
  refine F.okX scRP (fun vs H Q E h => ?_) (fun cdv A outer s H vs Q E hr h => ?_)
  · obtain ⟨a, L, B, ls, rfl, _⟩ := h
    rfl
  · obtain ⟨a, L, B, ls, rfl, ha, hln, hL, hB, hlow, hd, q⟩ := h
    have hu := hu_of hr
    have big : (1000000 : Nat) ≤ sizeLine := by rw [sizeLine_eq]; decide
    refine ⟨_, pss_cons (ps_set (i := 3) scRP.nd rfl (.inl rfl) (pe_lstS pa_nil))
      (pss_cons (ps_set (i := 4) scRP.nd rfl (.inl rfl) pe_newT)
      (pss_cons (ps_set (i := 5) scRP.nd rfl (.inl rfl) pe_newK)
      (pss_cons (ps_set (i := 6) scRP.nd rfl (.inl rfl) (pe_lstS pa_nil))
      (pss_cons (ps_set (i := 7) scRP.nd rfl (.inl rfl) pe_str)
      (pss_cons (ps_for PassesOwn.leaving rfl (pi_enumK (by rfl) me (pa_cons (pe_slice sl_listS (pv 0) (po_some pe_int) po_none) pa_nil) (pk_cons pe_int pk_nil)) (pg_tup rfl (pgs_cons (pg_name (i := 8) scRP.nd rfl (.inl rfl)) (pgs_cons (pg_name (i := 9) scRP.nd rfl (.inl rfl)) pgs_nil)))
        (pss_cons (ps_set (i := 10) scRP.nd rfl (.inl rfl) (pe_split (pv 9) pe_str))
        (pss_one (ps_if (pt_val (pe_df DPS hr (pa_cons (pv 10) (pa_cons (pv 3) (pa_cons (pv 2) pa_nil)))))
          (pss_cons (ps_expr (pe_bm PySem.F.plainAttrs_list PySem.F.slot_list_append PySem.F.type_list_append mt_append (pv 3) (pa_cons (pe_ix ix_list (pv 10) pe_int (fun _ _ => rfl)) pa_nil)))
          (pss_cons (ps_if (pt_cmpR op_eq (pe_callB call_lenS (by rfl) ml PySem.boot_len (pa_cons (pv 10) pa_nil)) pe_int (nomark _)) (pss_one (ps_dput hu (pv 5) (pe_ix ix_list (pv 10) pe_int (fun _ _ => rfl)) (pe_ifExp (pt_cmpR op_eq (pe_ix ix_list (pv 10) pe_int (fun _ _ => rfl)) pe_str (nomark _)) pe_str (pe_ix ix_list (pv 10) pe_int (fun _ _ => rfl))) rfl)) pss_nil)
          (pss_one (ps_set (i := 7) scRP.nd rfl (.inl rfl) pe_str))))
          (pss_one (ps_if (PW.pt (pw_and (pt_truth (pv 3) (fun _ => rfl)) (pw_and1 (pt_val (pe_df DMS hr (pa_cons (pv 10) (pa_cons (pv 1) (pa_cons (pv 2) (pa_cons (pv 7) pa_nil)))))))))
            (pss_cons (ps_dput hu (pv 4) (pe_tupS (pa_cons (pe_ix ix_list (pv 3) (pe_un un_neg pe_int) (fun _ _ => rfl)) (pa_cons (pe_ix ix_list (pv 10) pe_int (fun _ _ => rfl)) pa_nil))) (pe_tupS (pa_cons (pe_ix ix_list (pv 10) pe_int (fun _ _ => rfl)) (pa_cons (pe_df DRF hr (pa_cons (pe_slice sl_listS (pv 10) (po_some pe_int) po_none) pa_nil)) pa_nil))) rfl)
            (pss_cons (ps_expr (pe_bm PySem.F.plainAttrs_list PySem.F.slot_list_append PySem.F.type_list_append mt_append (pv 6) (pa_cons (pe_tupS (pa_cons (pv 8) (pa_cons (pe_ix ix_list (pv 10) pe_int (fun _ _ => rfl)) pa_nil))) pa_nil)))
            (pss_one (ps_set (i := 7) scRP.nd rfl (.inl rfl) (pe_ix ix_list (pv 10) pe_int (fun _ _ => rfl))))))
            (pss_one (ps_raiseBt rfl N hr (by omega) (takes_of rfl rfl rfl rfl) (pv 8)))))))))
      (pss_cons (ps_for PassesOwn.leaving rfl (pi_list (pv 6)) (pg_tup rfl (pgs_cons (pg_name (i := 8) scRP.nd rfl (.inl rfl)) (pgs_cons (pg_name (i := 11) scRP.nd rfl (.inl rfl)) pgs_nil)))
        (pss_one (ps_if (pt_cmpR op_notIn_seq (pv 11) (pv 3) (by rfl)) (pss_one (ps_raiseBt rfl N hr (by omega) (takes_of rfl rfl rfl rfl) (pv 8))) pss_nil)))
      (pss_one (ps_ret (pe_tupS (pa_cons (pv 3) (pa_cons (pv 4) (pa_cons (pv 5) pa_nil)))))))))))), ?_⟩
    refine ⟨by show 0 ≤ sizeLine; omega, fun g1 H1 s1 n1 e1 => ?_⟩
    intro g2 H2 s2 n2 e2
    intro g3 H3 s3 n3 e3
    refine ⟨by show 0 ≤ sizeLine; omega, fun g4 H4 s4 n4 e4 => ?_⟩
    have s04 := s1.trans (s2.trans (s3.trans s4))
    refine ⟨_, rfl, _, rfl, a, _, rfl, SqL.of (s04 _ _ ha), fun c1 H5 s5 n5 e5 => ?_⟩
    obtain ⟨ds, hds⟩ : ∃ ds, ls.drop 2 = ds := ⟨_, rfl⟩
    rw [hds] at q
    have e5' : H5 c1 = some (.lst (txs ds)) := by
      rw [e5, cutV_drop2, ← hds]
      unfold txs
      rw [List.map_drop]
    have hdl : ds.length ≤ 1000 := by rw [← hds, List.length_drop]; omega
    have hln : ∀ l ∈ ds, LnB l := fun l hl => hln l (List.mem_of_mem_drop (hds ▸ hl))
    have s05 := s04.trans s5
    have bb : RPb H5 g1 g2 g3 g4 := ⟨(s2.trans (s3.trans (s4.trans s5))) _ _ e1, (s3.trans (s4.trans s5)) _ _ e2, (s4.trans s5) _ _ e3, s5 _ _ e4, ne_of_none ((s2.trans s3) _ _ e1) n4⟩
    have c1g1 : c1 ≠ g1 := (ne_of_none ((s2.trans (s3.trans s4)) _ _ e1) n5).symm
    have c1g2 : c1 ≠ g2 := (ne_of_none ((s3.trans s4) _ _ e2) n5).symm
    have c1g3 : c1 ≠ g3 := (ne_of_none (s4 _ _ e3) n5).symm
    have c1g4 : c1 ≠ g4 := (ne_of_none e4 n5).symm
    have old : ∀ {H' : Hp} {ps ms es ld}, RQg H5 H' g1 g2 g3 g4 ps ms es ld → Same H H' := fun r b o e => by
      refine r.old b o (s05 _ _ e) (ne_of_none e n1) (ne_of_none (s1 _ _ e) n2) (ne_of_none ((s1.trans s2) _ _ e) n3) (ne_of_none ((s1.trans (s2.trans s3)) _ _ e) n4)
    refine ⟨c1, _, 3, rfl, rfl, by decide, by decide, SqL.of e5', for_it (walk_enumK (K := K) (c := 3) (a := c1) (xs := txs ds)) (fun i σ H' => ∃ v8 v9 v10 v11 st, σ = [some (.ref a), some (.str (S L)), some (.str (S B)), some (.ref g1), some (.ref g2), some (.ref g3), some (.ref g4), some (.str (S st.last)), v8, v9, v10, v11] ∧
        RQg H5 H' g1 g2 g3 g4 st.ps st.ms st.es st.ld ∧ RSok L i st ∧ rdF L B 3 RS.init ds = rdF L B (3 + i) st (ds.drop i))
      ⟨none, none, none, none, RS.init, by rw [S_nilstr]; rfl, RQg.start bb, RSok.init L, rfl⟩ (fun i σ H' _ ⟨_, _, _, _, _, _, r, _⟩ => SqL.of (r.old _ _ e5' c1g1 c1g2 c1g3 c1g4)) ?_ ?_⟩
    · rintro i x σ H6 H6' hi ⟨v8, v9, v10, v11, st, rfl, r6, sok, hrd⟩ ⟨T, x1, y, rfl, nT, rfl, hx, hy⟩
      cases (Option.some.inj hx)
      obtain ⟨l, hl', rfl⟩ : ∃ l, ds[i]? = some l ∧ y = V.str (S l) := by
        have hy : (txs ds)[i]? = some y := hy
        unfold txs at hy
        rw [List.getElem?_map] at hy
        cases z : ds[i]? with
        | none => rw [z] at hy; cases hy
        | some l =>
          rw [z] at hy
          exact ⟨l, rfl, (Option.some.inj hy).symm⟩
      have hil : i < ds.length := (List.getElem?_eq_some_iff.mp hl').1
      have hdrop : ds.drop i = l :: ds.drop (i + 1) := by
        rw [List.drop_eq_getElem_cons hil]
        rw [List.getElem?_eq_getElem hil] at hl'
        rw [Option.some.inj hl']
      obtain ⟨lb1, lb2, lb3⟩ := hln l (List.mem_of_getElem? hl')
      refine ⟨T, _, rfl, SqT.of upd_same, rfl, _, _, rfl, _, _, rfl, rfl, ?_⟩
      have r7 := r6.same (same_upd (o := .tup [.int (3 + (i : Int)), .str (S l)]) nT)
      generalize upd H6 T (.tup [.int (3 + (i : Int)), .str (S l)]) = H7 at r7
      refine ⟨_, rfl, ⟨_, rfl⟩, S l, Str.ofString " ", rfl, rfl, by decide +kernel, by rw [len_S]; omega, fun p np => ?_⟩
      rw [sp_str, split_any (by decide)]
      obtain ⟨ws, hws⟩ : ∃ ws, splL 32 l = ws := ⟨_, rfl⟩
      rw [hws]
      have wne : ws ≠ [] := hws ▸ splL_ne 32 l
      have wfl : ws.flatten.length ≤ 1000 := by
        have := splL_flat 32 l
        rw [hws] at this
        omega
      have w60 : ws.length ≤ 60 := hws ▸ lb2
      have wun : Uni ws := fun x hx c hc => lb3 c (splL_mem 32 l x (hws ▸ hx) c hc)
      have wl : ∀ x ∈ ws, x.length ≤ 1000 := fun x hx => Nat.le_trans (len_flat hx) wfl
      have lw : (txs ws).length = ws.length := List.length_map _
      have s8 := same_upd (o := .lst (txs ws)) np
      have e8 : (upd H7 p (.lst (txs ws))) p = some (.lst (txs ws)) := upd_same
      have r8 := r7.same s8
      have pg1 : p ≠ g1 := (ne_of_none r7.l1 np).symm
      have pg3 : p ≠ g3 := (ne_of_none r7.e np).symm
      have pg2 : p ≠ g2 := (ne_of_none r7.m.choose_spec.1 np).symm
      have pg4 : p ≠ g4 := (ne_of_none r7.le.choose_spec.1 np).symm
      generalize upd H7 p (.lst (txs ws)) = H8 at s8 e8 r8
      have hst : rdF L B 3 RS.init ds = if PlS ws st.ps B then rdF L B (3 + (i + 1)) (stP st ws) (ds.drop (i + 1)) else if st.ps ≠ [] ∧ MvS ws L B st.last then rdF L B (3 + (i + 1)) (stM st (3 + i) ws) (ds.drop (i + 1)) else .inl (3 + i) := by
        rw [hrd, hdrop, ← hws]
        rfl
      have lps := sok.lp
      have lms := sok.lm
      have les := sok.le
      have lls := sok.ll
      refine ⟨_, rfl, _, rfl, _, rfl, p, g1, B, st.ps, ws, rfl, e8, r8.l1, wne, wl, hlow, fun H9 s9 => ⟨decide (PlS ws st.ps B), rfl, ?_⟩⟩
      have r9 := r8.same s9
      have e9 := s9 _ _ e8
      by_cases hP : PlS ws st.ps B
      · rw [decide_eq_true hP]
        rw [if_pos hP] at hst
        have sok' := sok.place hP
        have w2 : 1 < ws.length := by have := hP.2.1.1; omega
        refine iteT ⟨_, rfl, .inl ⟨rfl, _, SqL.of r9.l1⟩, ⟨_, rfl, p, txs ws, 1, .str (S (wd ws 1)), rfl, rfl, SqL.of e9, atI_nat (j := 1) (wd_at w2), g1, _, _, rfl, rfl, r9.l1, by rw [txs_len]; omega, ?_⟩⟩
        have r10 := r9.place bb (wd ws 1)
        have e10 : (upd H9 g1 (.lst (txs st.ps ++ [.str (S (wd ws 1))]))) p = some (.lst (txs ws)) := by rw [upd_ne pg1]; exact e9
        generalize upd H9 g1 (.lst (txs st.ps ++ [.str (S (wd ws 1))])) = H10 at r10 e10
        have nk : wd ws 1 ∉ st.es.map (·.1) := fun z => hP.2.2.2.2.1 (sok.ek _ z)
        refine ⟨_, rfl, p, txs ws, rfl, .inl (SqL.of e10), rfl, decide (ws.length = 3), ?_, ?_⟩
        · rw [lw]
          refine congrArg V.bl ?_
          rw [decide_eq_decide]
          exact ⟨fun z => by injection z with z; omega, fun z => by rw [z]; rfl⟩
        by_cases h3 : ws.length = 3
        · rw [decide_eq_true h3]
          refine iteT ⟨_, rfl, p, txs ws, 2, .str (S (wd ws 2)), rfl, rfl, SqL.of e10, atI_nat (j := 2) (wd_at (by omega)), rfl, decide (wd ws 2 = [45]), ?_, ?_⟩
          · rw [dash_str, dec_S]
          have put : ∀ v, v = V.str (S (endW (wd ws 2))) → ∃ a_1 H4, V.ref g3 = V.ref a_1 ∧ DPut H10 a_1 (V.str (S (wd ws 1))) v H4 ∧ RQg H5 H4 g1 g2 g3 g4 (stP st ws).ps (stP st ws).ms (stP st ws).es (stP st ws).ld := by
            intro v ev
            rw [ev]
            refine ⟨g3, _, rfl, DPut.k (k := Sum.inr (S (wd ws 1))) r10.e ?_, ?_⟩
            · unfold fkv
              rw [List.length_map]
              omega
            · have := r10.end' bb (wd ws 1) (endW (wd ws 2)) nk
              have e : (stP st ws).es = st.es ++ [(wd ws 1, endW (wd ws 2))] := if_pos h3
              rw [e]
              exact this
          by_cases hz : wd ws 2 = [45]
          · rw [decide_eq_true hz]
            refine iteT ⟨_, rfl, _, rfl, p, txs ws, 1, .str (S (wd ws 1)), rfl, rfl, SqL.of e10, atI_nat (j := 1) (wd_at w2), ?_⟩
            obtain ⟨a1, H11, x1, x2, x3⟩ := put (.str (Str.ofString "")) (by unfold endW; rw [if_pos hz, S_nilstr])
            exact ⟨a1, H11, x1, x2, _, _, _, _, stP st ws, by rw [S_nilstr]; rfl, x3, sok', hst⟩
          · rw [decide_eq_false hz]
            refine iteF ⟨_, rfl, p, txs ws, 2, .str (S (wd ws 2)), rfl, rfl, SqL.of e10, atI_nat (j := 2) (wd_at (by omega)), _, rfl, _, rfl, p, txs ws, 1, .str (S (wd ws 1)), rfl, rfl, SqL.of e10, atI_nat (j := 1) (wd_at w2), ?_⟩
            obtain ⟨a1, H11, x1, x2, x3⟩ := put (.str (S (wd ws 2))) (by unfold endW; rw [if_neg hz])
            exact ⟨a1, H11, x1, x2, _, _, _, _, stP st ws, by rw [S_nilstr]; rfl, x3, sok', hst⟩
        · rw [decide_eq_false h3]
          refine iteF ⟨_, _, _, _, stP st ws, by rw [S_nilstr]; rfl, ?_, sok', hst⟩
          have e : (stP st ws).es = st.es := if_neg h3
          rw [e]
          exact r10
      · rw [decide_eq_false hP]
        rw [if_neg hP] at hst
        have err : ¬ (st.ps ≠ [] ∧ MvS ws L B st.last) → ∀ {H'}, Same H H' → BtX BT (.int (3 + (i : Int))) H' E := fun z H' s' => by
          rw [if_neg z] at hst
          have e : plF L B ds = .inl (3 + i) := by unfold plF; rw [hst]
          rw [e] at q
          have := q.same s'
          rw [show ((3 + i : Nat) : Int) = 3 + (i : Int) from by omega] at this
          exact this
        refine iteF ⟨_, rfl, !decide (st.ps = []), .inl ⟨_, SqL.of r9.l1, ?_⟩, ?_⟩
        · cases z : st.ps with
          | nil => rfl
          | cons a r => rfl
        by_cases hps : st.ps = []
        · rw [decide_eq_true hps]
          exact iteF ⟨_, rfl, err (fun z => z.1 hps) (old r9)⟩
        rw [decide_eq_false hps]
        refine iteT ⟨_, rfl, _, rfl, _, rfl, _, rfl, p, L, B, st.last, ws, rfl, e9, w60, wfl, wun, hL, hB, hlow, fun H10 s10 => ⟨decide (MvS ws L B st.last), rfl, ?_⟩⟩
        have r10 := r9.same s10
        have e10 := s10 _ _ e9
        by_cases hM : MvS ws L B st.last
        case neg =>
          rw [decide_eq_false hM]
          exact iteF ⟨_, rfl, err (fun z => hM z.2) (old r10)⟩
        rw [decide_eq_true hM]
        rw [if_pos ⟨hps, hM⟩] at hst
        have sok' := sok.move (n := 3 + i) hps hM
        have w2 : 1 < ws.length := by have := hM.1; omega
        have cutw : cutV (txs ws) (some 2) none = txs (ws.drop 2) := by
          rw [cutV_drop2]
          unfold txs
          rw [List.map_drop]
        refine iteT ⟨_, rfl, p, txs ws, 1, .str (S (wd ws 1)), rfl, rfl, SqL.of e10, atI_nat (j := 1) (wd_at w2), _, rfl, _, rfl, p, txs ws, rfl, SqL.of e10, fun c2 H11 s11 n11 e11 => ⟨c2, ws.drop 2, rfl, by rw [← cutw]; exact e11, by rw [List.length_drop]; omega, fun x hx => by have := wl x (List.mem_of_mem_drop hx); omega, fun fd H12 s12 n12 e12 => ⟨by show 2 ≤ sizeLine; omega, fun t H13 s13 n13 e13 => ?_⟩⟩⟩
        have s1013 := (s11.trans s12).trans s13
        have r13 := r10.same s1013
        have e13p := s1013 _ _ e10
        have d13 := s13 _ _ e12
        obtain ⟨pre, hpre⟩ : ∃ pre, st.ps = pre ++ [st.ps.getLastD []] := List.getLast?_eq_some_iff.mp (getLastD_mem hps).symm
        have one := (one_wd hM.2.1).1
        refine ⟨_, rfl, _, rfl, ⟨1, rfl, g1, txs st.ps, -1, .str (S (st.ps.getLastD [])), rfl, rfl, SqL.of r13.l1, ?_, ?_⟩⟩
        · generalize st.ps.getLastD [] = z at hpre
          rw [hpre]
          unfold txs
          rw [List.map_append]
          exact atI_last _ _
        refine ⟨_, rfl, p, txs ws, 0, .str (S (wd ws 0)), rfl, rfl, SqL.of e13p, atI_nat (j := 0) (wd_at (by omega)), by show 2 ≤ sizeLine; omega, fun kt H14 s14 n14 e14 => ?_⟩
        have r14 := r13.same s14
        obtain ⟨kk, hkk, hpk⟩ := r14.m
        have ndb : H5 fd = none := (r10.same s11).free n12
        have ekey : H14 kt = some (.tup [.str (S (mvW st ws).pl), .str (S [(mvW st ws).lt])]) := by
          rw [e14]
          show some (HO.tup [.str (S (st.ps.getLastD [])), .str (S (wd ws 0))]) = some (HO.tup [.str (S (st.ps.getLastD [])), .str (S [(wd ws 0).headD 0])])
          rw [← one]
        refine ⟨g2, _, rfl, DPut.t (k := (mvW st ws).key) hkk ekey ?_, ?_⟩
        · rw [Paired.length hpk]
          omega
        have r15 := r14.move bb (mvW st ws) (sok.key hps hM) (s14 _ _ e13) (s14 _ _ d13) ndb hkk
        have e15 : (upd H14 g2 (.dT (putK kk (mvW st ws).key (.ref t)))) p = some (.lst (txs ws)) := by rw [upd_ne pg2]; exact s14 _ _ e13p
        generalize upd H14 g2 (.dT (putK kk (mvW st ws).key (.ref t))) = H15 at r15 e15
        obtain ⟨ts, hts, hpt⟩ := r15.le
        refine ⟨_, rfl, .inl ⟨rfl, _, SqL.of hts⟩, ⟨_, rfl, _, rfl, p, txs ws, 1, .str (S (wd ws 1)), rfl, rfl, SqL.of e15, atI_nat (j := 1) (wd_at w2), by show 2 ≤ sizeLine; omega, fun T2 H16 s16 n16 e16 => ⟨g4, _, _, rfl, rfl, s16 _ _ hts, ?_, ?_⟩⟩⟩
        · rw [List.length_map, Paired.length hpt]
          omega
        have lq : LdQ H16 T2 (3 + i, wd ws 1) := by
          show H16 T2 = some (.tup [.int ((3 + i : Nat) : Int), .str (S (wd ws 1))])
          rw [show ((3 + i : Nat) : Int) = 3 + (i : Int) from by omega]
          exact e16
        have r17 := (r15.same s16).lead bb (3 + i, wd ws 1) lq (s16 _ _ hts)
        have e17 : (upd H16 g4 (.lst (ts.map V.ref ++ [.ref T2]))) p = some (.lst (txs ws)) := by rw [upd_ne pg4]; exact s16 _ _ e15
        refine ⟨_, rfl, p, txs ws, 0, .str (S (wd ws 0)), rfl, rfl, SqL.of e17, atI_nat (j := 0) (wd_at (by omega)), ?_⟩
        exact ⟨_, _, _, _, stM st (3 + i) ws, rfl, r17, sok', hst⟩
    · rintro σ H6 ⟨v8, v9, v10, v11, st, rfl, r6, sok, hrd⟩
      have ld : (txs ds).length = ds.length := by rw [txs_len]
      rw [ld, List.drop_length] at hrd
      have hrd : rdF L B 3 RS.init ds = .inr st := hrd
      have hpl : plF L B ds = match lost st with
          | some q => .inl q.1
          | none => .inr st := by
        unfold plF
        rw [hrd] <;> rfl
      obtain ⟨ts, hts, hpt⟩ := r6.le
      refine ⟨_, rfl, g4, rfl, ⟨_, SqL.of hts⟩, for_it (walk_list (K := K) (a := g4) (xs := ts.map V.ref)) (fun i σ H' => ∃ v7 v8 v9 v10 v11, σ = [some (.ref a), some (.str (S L)), some (.str (S B)), some (.ref g1), some (.ref g2), some (.ref g3), some (.ref g4), v7, v8, v9, v10, v11] ∧ Same H6 H' ∧ ∀ q ∈ st.ld.take i, q.2 ∈ st.ps)
        ⟨_, _, _, _, _, rfl, (fun _ _ e => e), fun _ h => nomatch h⟩ (fun i σ H' _ ⟨_, _, _, _, _, _, s', _⟩ => SqL.of (s' _ _ hts)) ?_ ?_⟩
      · rintro i x σ H7 H7' hi ⟨v7, v8, v9, v10, v11, rfl, s7, hok⟩ ⟨rfl, hx⟩
        rw [List.getElem?_map] at hx
        cases z : ts[i]? with
        | none => rw [z] at hx; cases hx
        | some T =>
          rw [z] at hx
          cases (Option.some.inj hx)
          obtain ⟨c, hc, eT⟩ := paired_get2 hpt z
          refine ⟨T, _, rfl, SqT.of (s7 _ _ eT), rfl, _, _, rfl, _, _, rfl, rfl, ?_⟩
          have ht := take_succ hc
          refine ⟨_, rfl, _, rfl, g1, txs st.ps, rfl, .inl (SqL.of (s7 _ _ r6.l1)), rfl, ?_, !decide (c.2 ∈ st.ps), ?_, ?_⟩
          · unfold txs
            rw [List.all_map, List.all_eq_true]
            exact fun _ _ => rfl
          · unfold txs
            rw [inV_S]
            rfl
          by_cases hin : c.2 ∈ st.ps
          · rw [decide_eq_true hin]
            refine iteF ⟨_, _, _, _, _, rfl, s7, fun q hq => ?_⟩
            rw [ht] at hq
            rcases List.mem_append.mp hq with y | y
            · exact hok q y
            · rw [List.mem_singleton.mp y]
              exact hin
          · rw [decide_eq_false hin]
            have hlost : lost st = some c := by
              unfold lost
              have cut : st.ld = st.ld.take i ++ c :: st.ld.drop (i + 1) := by
                have hlt := (List.getElem?_eq_some_iff.mp hc).1
                rw [List.getElem?_eq_getElem hlt] at hc
                rw [← Option.some.inj hc, List.getElem_cons_drop, List.take_append_drop]
              rw [cut, List.find?_append, List.find?_eq_none.mpr (fun q hq => by simp [hok q hq]), List.find?_cons, decide_eq_true hin]
              rfl
            rw [hlost] at hpl
            rw [hpl] at q
            exact iteT ⟨_, rfl, q.same ((old r6).trans s7)⟩
      · rintro σ H7 ⟨v7, v8, v9, v10, v11, rfl, s7, hok⟩
        have hl2 : (ts.map V.ref).length = st.ld.length := by rw [List.length_map, Paired.length hpt]
        rw [hl2, List.take_length] at hok
        have hlost : lost st = none := List.find?_eq_none.mpr (fun q hq => by simp [hok q hq])
        rw [hlost] at hpl
        rw [hpl] at q
        obtain ⟨kk, hkk, hpk⟩ := r6.m
        refine ⟨_, rfl, _, rfl, _, rfl, by show 3 ≤ sizeLine; omega, fun p H8 s8 n8 e8 => ?_⟩
        have s := s7.trans s8
        exact q p g1 g2 g3 H5 H8 kk s05 ((old r6).trans s) e8 (s _ _ r6.l1) (s _ _ hkk) (Paired.mono (fun _ _ z => z.same s) hpk) (s _ _ r6.e)
end
end Tb

set_option Elab.async false
set_option linter.all false
set_option maxRecDepth 100000
set_option maxHeartbeats 4000000
/-! what was read makes a program -/
namespace Tb
open PySem PySem.Spec PyProof.Rows L2 TL
structure MvF (L B : List Nat) (m : Mv) : Prop where
  lt : m.lt ∈ L
  to : isName m.to = true
  ok : okFils m.fl B = true
  ne : [] ∉ m.fl.map (·.2)
  so : m.fl.map (·.1) = sortL (m.fl.map (·.1))
  nd : (m.fl.map (·.1)).Nodup
  fl : (m.fl.map (·.2)).flatten.length ≤ 1000
structure RSf (L B : List Nat) (st : RS) : Prop where
  ok : ∃ i, RSok L i st
  pn : ∀ p ∈ st.ps, isName p = true
  p50 : st.ps.length ≤ 50
  ky : (st.ms.map fun m => (m.pl, m.lt)).Nodup
  mv : ∀ m ∈ st.ms, MvF L B m
  ek : (st.es.map (·.1)).Nodup
  en : ∀ q ∈ st.es, isFill q.2 B = true ∧ q.2.length ≤ 1000 ∧ q.2 ≠ [45]
  lm : st.ld.map (·.2) = st.ms.map (·.to)
theorem RSf.init (L B : List Nat) : RSf L B RS.init := ⟨⟨0, RSok.init L⟩, fun _ h => (nomatch h), Nat.zero_le _, List.nodup_nil, fun _ h => (nomatch h), List.nodup_nil, fun _ h => (nomatch h), rfl⟩
theorem RSf.place {L B : List Nat} {st : RS} {ws : List (List Nat)} (h : RSf L B st) (p : PlS ws st.ps B) (hw : ws.flatten.length ≤ 1000) : RSf L B (stP st ws) where
  ok := let ⟨i, o⟩ := h.ok; ⟨i + 1, o.place p⟩
  pn := fun x hx => by
    rcases List.mem_append.mp (show x ∈ st.ps ++ [wd ws 1] from hx) with z | z
    · exact h.pn x z
    · rw [List.mem_singleton.mp z]
      exact p.2.2.2.1
  p50 := by
    show (st.ps ++ [wd ws 1]).length ≤ 50
    rw [List.length_append]
    have := h.p50
    have := p.2.2.1
    simp only [List.length_singleton]
    omega
  ky := h.ky
  mv := h.mv
  ek := by
    show ((if ws.length = 3 then st.es ++ [(wd ws 1, endW (wd ws 2))] else st.es).map (·.1)).Nodup
    split
    · rw [List.map_append, List.nodup_append]
      refine ⟨h.ek, by simp, fun a ha b hb => ?_⟩
      have e : b = wd ws 1 := by simpa using hb
      rw [e]
      obtain ⟨i, o⟩ := h.ok
      exact fun z => p.2.2.2.2.1 (z ▸ o.ek a ha)
    · exact h.ek
  en := fun q hq => by
    have hq : q ∈ if ws.length = 3 then st.es ++ [(wd ws 1, endW (wd ws 2))] else st.es := hq
    split at hq
    · rename_i h3
      rcases List.mem_append.mp hq with z | z
      · exact h.en q z
      · rw [List.mem_singleton.mp z]
        show isFill (endW (wd ws 2)) B = true ∧ (endW (wd ws 2)).length ≤ 1000 ∧ endW (wd ws 2) ≠ [45]
        unfold endW
        by_cases hz : wd ws 2 = [45]
        · rw [if_pos hz]
          exact ⟨rfl, Nat.zero_le _, by decide⟩
        · rw [if_neg hz]
          have h2 := p.2.2.2.2.2
          rcases h2 with h2 | h2 | h2
          · omega
          · exact absurd h2 hz
          · exact ⟨h2.2, Nat.le_trans (len_flat (wd_mem (by omega))) hw, hz⟩
    · exact h.en q hq
  lm := h.lm
theorem drop_flat (ws : List (List Nat)) (i : Nat) : (ws.drop i).flatten.length ≤ ws.flatten.length := by
  have : ws.flatten = (ws.take i).flatten ++ (ws.drop i).flatten := by rw [← List.flatten_append, List.take_append_drop]
  rw [this, List.length_append]
  omega
theorem RSf.move {L B : List Nat} {n : Nat} {st : RS} {ws : List (List Nat)} (h : RSf L B st) (hp : st.ps ≠ []) (p : MvS ws L B st.last) (hw : ws.flatten.length ≤ 1000) : RSf L B (stM st n ws) where
  ok := let ⟨i, o⟩ := h.ok; ⟨i + 1, o.move hp p⟩
  pn := h.pn
  p50 := h.p50
  ky := by
    show ((st.ms ++ [mvW st ws]).map fun m => (m.pl, m.lt)).Nodup
    rw [List.map_append, List.nodup_append]
    refine ⟨h.ky, by simp, fun a ha b hb => ?_⟩
    have e : b = ((mvW st ws).pl, (mvW st ws).lt) := by simpa using hb
    rw [e]
    intro z
    obtain ⟨i, o⟩ := h.ok
    obtain ⟨m, hm, e2⟩ := List.mem_map.mp ha
    refine o.key hp p (List.mem_map.mpr ⟨m, hm, ?_⟩)
    have e3 : (m.pl, m.lt) = ((mvW st ws).pl, (mvW st ws).lt) := e2.trans z
    unfold Mv.key
    rw [(Prod.mk.inj e3).1, (Prod.mk.inj e3).2]
  mv := fun m hm => by
    rcases List.mem_append.mp (show m ∈ st.ms ++ [mvW st ws] from hm) with z | z
    · exact h.mv m z
    · rw [List.mem_singleton.mp z]
      exact ⟨(one_wd p.2.1).2, p.2.2.2.1, p.2.2.2.2.2.2.2, p.2.2.2.2.2.2.1, p.2.2.2.2.1, fillF_nd _, Nat.le_trans (fillF_lenF _) (Nat.le_trans (drop_flat ws 2) hw)⟩
  ek := h.ek
  en := h.en
  lm := by
    show (st.ld ++ [(n, wd ws 1)]).map (·.2) = (st.ms ++ [mvW st ws]).map (·.to)
    rw [List.map_append, List.map_append, h.lm]
    rfl
theorem rdF_ok {L B : List Nat} : ∀ (ds : List (List Nat)) (n : Nat) (st st' : RS), (∀ l ∈ ds, LnB l) → RSf L B st → rdF L B n st ds = .inr st' → RSf L B st' ∧ st.ps.length ≤ st'.ps.length ∧ (ds ≠ [] → st'.ps ≠ [])
  | [], n, st, st', _, h, e => by
    cases e
    exact ⟨h, Nat.le_refl _, fun z => absurd rfl z⟩
  | l :: r, n, st, st', hl, h, e => by
    have hw : (splL 32 l).flatten.length ≤ 1000 := Nat.le_trans (splL_flat 32 l) (hl l List.mem_cons_self).1
    have hr : ∀ l ∈ r, LnB l := fun x hx => hl x (List.mem_cons_of_mem _ hx)
    unfold rdF at e
    split at e
    · rename_i hP
      obtain ⟨a, b, c⟩ := rdF_ok r _ _ _ hr (h.place hP hw) e
      have lp : (stP st (splL 32 l)).ps.length = st.ps.length + 1 := List.length_append
      refine ⟨a, by omega, fun _ z => ?_⟩
      rw [z] at b
      have : ([] : List (List Nat)).length = 0 := rfl
      omega
    · split at e
      · rename_i hM
        obtain ⟨a, b, c⟩ := rdF_ok r _ _ _ hr (h.move hM.1 hM.2 hw) e
        have lp : (stM st n (splL 32 l)).ps.length = st.ps.length := rfl
        have : 0 < st.ps.length := List.length_pos_iff.mpr hM.1
        refine ⟨a, by omega, fun _ z => ?_⟩
        rw [z] at b
        have : ([] : List (List Nat)).length = 0 := rfl
        omega
      · cases e
theorem plF_ok {L B : List Nat} {ds : List (List Nat)} {st : RS} (hl : ∀ l ∈ ds, LnB l) (hne : ds ≠ []) (e : plF L B ds = .inr st) : RSf L B st ∧ st.ps ≠ [] ∧ (∀ m ∈ st.ms, m.to ∈ st.ps) ∧ rdF L B 3 RS.init ds = .inr st := by
  unfold plF at e
  cases hr : rdF L B 3 RS.init ds with
  | inl n => rw [hr] at e; cases e
  | inr s' =>
    rw [hr] at e
    have e : (match lost s' with
      | some q => (.inl q.1 : Nat ⊕ RS)
      | none => .inr s') = .inr st := e
    obtain ⟨a, _, c⟩ := rdF_ok ds 3 RS.init s' hl (RSf.init L B) hr
    cases hlo : lost s' with
    | some q => rw [hlo] at e; cases e
    | none =>
      rw [hlo] at e
      cases e
      refine ⟨a, c hne, fun m hm => ?_, rfl⟩
      have h1 : m.to ∈ st.ld.map (·.2) := by
        rw [a.lm]
        exact List.mem_map.mpr ⟨m, hm, rfl⟩
      obtain ⟨q, hq, e2⟩ := List.mem_map.mp h1
      have := List.find?_eq_none.mp hlo q hq
      rw [← e2]
      simpa using this
theorem RSf.parts {L B : List Nat} {st : RS} (h : RSf L B st) (hp : st.ps ≠ []) (ht : ∀ m ∈ st.ms, m.to ∈ st.ps) (hL : okLetters L = true) (hB : okBoxes B = true) : PartsQ ⟨L, B, st.ps, st.ms, st.es⟩ where
  le := hL
  bo := hB
  pl := by
    obtain ⟨i, o⟩ := h.ok
    unfold okPlaces
    rw [Bool.and_eq_true, Bool.and_eq_true, Bool.and_eq_true]
    exact ⟨⟨decide_eq_true (List.length_pos_iff.mpr hp), decide_eq_true h.p50⟩, List.all_eq_true.mpr h.pn, decide_eq_true o.nd⟩
  ky := h.ky
  mv := fun m hm => by
    obtain ⟨i, o⟩ := h.ok
    have f := h.mv m hm
    exact ⟨o.mp m hm, f.lt, ht m hm, f.nd, f.ok, f.fl⟩
  ek := h.ek
  en := fun q hq => by
    obtain ⟨i, o⟩ := h.ok
    exact ⟨o.ek _ (List.mem_map.mpr ⟨q, hq, rfl⟩), (h.en q hq).1, (h.en q hq).2.1⟩
theorem hdF_ok {ls : List (List Nat)} {L B : List Nat} (e : hdF ls = .inr (L, B)) : okLetters L = true ∧ L = sortN L ∧ okBoxes B = true ∧ B = sortN B ∧ 3 ≤ ls.length ∧ rlF (wd ls 0) = some L ∧ rbF (wd ls 1) = some B := by
  unfold hdF at e
  cases h1 : rlF (wd ls 0) with
  | none => rw [h1] at e; cases e
  | some L' =>
    rw [h1] at e
    have e : (if ls.length < 2 then (.inl 2 : Nat ⊕ (List Nat × List Nat)) else match rbF (wd ls 1) with
      | none => .inl 2
      | some B => if ls.length < 3 then .inl 3 else .inr (L', B)) = .inr (L, B) := e
    split at e
    · cases e
    cases h2 : rbF (wd ls 1) with
    | none => rw [h2] at e; cases e
    | some B' =>
      rw [h2] at e
      have e : (if ls.length < 3 then (.inl 3 : Nat ⊕ (List Nat × List Nat)) else .inr (L', B')) = .inr (L, B) := e
      split at e
      · cases e
      rename_i n3
      cases e
      have a : okLetters L = true ∧ L = sortN L := by
        unfold rlF at h1
        split at h1
        · rename_i z
          cases h1
          exact z.2
        · cases h1
      have b : okBoxes B = true ∧ B = sortN B := by
        unfold rbF at h2
        split at h2
        · cases h2
          exact ⟨rfl, by unfold sortN; simp⟩
        · split at h2
          · rename_i z
            cases h2
            exact z.2.2
          · cases h2
      exact ⟨a.1, a.2, b.1, b.2, by omega, rfl, rfl⟩
end Tb

set_option Elab.async false
set_option linter.all false
set_option maxRecDepth 100000
set_option maxHeartbeats 4000000
/-! Program.parse, both ways -/
namespace Tb
open PySem PySem.Spec PyProof.Rows L2 TL
/-- a function that may raise -/
structure DfX (P : Program) (w : World) (K : PySem.W.Frag) (mg : Str → Option Value) (base : Heap) (k : Nat) (nm : Str) (ps : List Str) (sp : Sp) : Prop where
  ex : ∃ f fd, FnOk P w K mg base (L2.CX P w) k f fd ps sp ∧ Binds K fd ps [] ∧ PySem.W.keepIn K (.ref f) = true ∧ mg nm = some (.ref f)
section
variable {X : Cx} {g c P NL : Addr} {k : Nat}
theorem pe_dfX {j : Nat} {x : Str} {e : Expr} {es : List Expr} {t : TA} {ps : List Str} {sp : Sp} {E : XK} {p pos : Pos} (D : DfX X.prog X.w X.K X.mg X.base k x ps sp) (hr : Room j X.A) (hx : Passes (L2.CX X.prog X.w) X E) (ha : PA X (e :: es) t) (hk : k ≤ j := by omega) (hg : Gl X x := by rfl)
    (hd : (x == ("__debug__" : Str)) = false := by decide) (hst : starEach (e :: es) X.env = (false, eval e X.env) :: starEach es X.env := by rfl) (hpl : (backTo pos (starEach es X.env)).any (·.1) = false := by rfl) :
    PE X (.Call (.Name x p) (e :: es) [] pos) (tCall sp [] E t) := by
  obtain ⟨f, fd, F, b, kp, hm⟩ := D.ex
  exact pe_call F (hr.mono hk) hg hm kp b .nil hx ha (by assumption) hst hpl
end
section
variable {P : Program} {w : World} {K : PySem.W.Frag} {mg : Str → Option Value} {base : Heap}
/-- what a text tells: the line that cannot stand, or letters, boxes and the rest -/
def paF (cs : List Nat) : Nat ⊕ (List Nat × List Nat × RS) := match hdF (splL 10 cs) with
  | .inl n => .inl n
  | .inr q => match plF q.1 q.2 ((splL 10 cs).drop 2) with
    | .inl n => .inl n
    | .inr st => .inr (q.1, q.2, st)
def TxB (cs : List Nat) : Prop := cs.length ≤ 100000 ∧ (splL 10 cs).length ≤ 1000 ∧ ∀ l ∈ splL 10 cs, LnB l
def spPax (C BT : Addr) : Sp := fun vs H Q E => ∃ cs : List Nat, vs = [.ref C, .str (S cs)] ∧ TxB cs ∧ match paF cs with
  | .inl n => BtX BT (.int n) H E
  | .inr q => ∀ p H', Same H H' → H p = none → PrAt C H' p q.1 q.2.1 q.2.2.ps (q.2.2.ms.map keptM) q.2.2.es → Q (.ref p) H'
theorem ok_pax {f C BT : Addr} {fd : FuncData} {k : Nat} (F : Fun K "parse" "Program.parse" sParse f fd) (DH : DfX P w K mg base (k + 4) "_read_head" ["lines"] (spRHx BT)) (DP : DfX P w K mg base (k + 5) "_read_places" ["lines", "letters", "boxes"] (spRPx BT)) (MK : Mkr P w K mg base C (k + 5)) : FnOk P w K mg base (L2.CX P w) (k + 7) f fd ["cls", "text"] (spPax C BT) := by
  refine F.okX scPa (fun vs H Q E h => ?_) (fun cdv A outer s H vs Q E hr h => ?_)
  · obtain ⟨cs, rfl, _⟩ := h
    rfl
  · obtain ⟨cs, rfl, ⟨hlen, hln, hlb⟩, q⟩ := h
    have big : (1000010 : Nat) ≤ sizeLine := by rw [sizeLine_eq]; decide
    refine ⟨_, pss_cons (ps_set (i := 2) scPa.nd rfl (.inl rfl) (pe_split (pv 1) pe_str))
      (pss_cons (ps_asg (pe_dfX (E := E) DH hr (passes_call (takes_of rfl rfl rfl rfl) fun _ _ _ _ h => h) (pa_cons (pv 2) pa_nil)) (pg_tup rfl (pgs_cons (pg_name (i := 3) scPa.nd rfl (.inl rfl)) (pgs_cons (pg_name (i := 4) scPa.nd rfl (.inl rfl)) pgs_nil))))
      (pss_cons (ps_asg (pe_dfX (E := E) DP hr (passes_call (takes_of rfl rfl rfl rfl) fun _ _ _ _ h => h) (pa_cons (pv 2) (pa_cons (pv 3) (pa_cons (pv 4) pa_nil)))) (pg_tup rfl (pgs_cons (pg_name (i := 5) scPa.nd rfl (.inl rfl)) (pgs_cons (pg_name (i := 6) scPa.nd rfl (.inl rfl)) (pgs_cons (pg_name (i := 7) scPa.nd rfl (.inl rfl)) pgs_nil)))))
      (pss_one (ps_ret (pe_progL MK hr (pv 0) (pa_cons (pv 3) (pa_cons (pv 4) (pa_cons (pv 5) (pa_cons (pv 6) (pa_cons (pv 7) pa_nil)))))))))), ?_⟩
    refine ⟨_, rfl, ⟨_, rfl⟩, S cs, Str.ofString "\n", rfl, rfl, by decide +kernel, by rw [len_S]; omega, fun p np => ?_⟩
    rw [nl_str, split_any (by decide)]
    obtain ⟨ls, hls⟩ : ∃ ls, splL 10 cs = ls := ⟨_, rfl⟩
    unfold paF at q
    rw [hls] at q hln hlb ⊢
    have lne : ls ≠ [] := hls ▸ splL_ne 10 cs
    have s1 := same_upd (o := .lst (txs ls)) np
    have e1 : (upd H p (.lst (txs ls))) p = some (.lst (txs ls)) := upd_same
    generalize upd H p (.lst (txs ls)) = H1 at s1 e1
    refine ⟨_, rfl, p, ls, rfl, e1, lne, fun x hx => (hlb x hx).1, ?_⟩
    cases hh : hdF ls with
    | inl n =>
      rw [hh] at q
      exact BtX.same q s1
    | inr z =>
      obtain ⟨L, B⟩ := z
      rw [hh] at q
      obtain ⟨o1, o2, o3, o4, l3, _, _⟩ := hdF_ok hh
      intro t H2 s2 e2
      refine ⟨t, _, rfl, SqT.of e2, rfl, _, _, rfl, _, _, rfl, rfl, ?_⟩
      have l5 : L.length ≤ 1000 := by
        have o1' := o1
        unfold okLetters at o1'
        simp at o1'
        omega
      have hlow : ∀ b ∈ B, isLow b = false := fun b hb => by
        have h1 := o3
        unfold okBoxes at h1
        rw [Bool.and_eq_true, Bool.and_eq_true] at h1
        exact isCap_low' (of_decide_eq_true (List.all_eq_true.mp h1.2.1 b hb))
      have l6 : B.length ≤ 1000 := by
        have o3' := o3
        unfold okBoxes at o3'
        simp at o3'
        omega
      refine ⟨_, rfl, _, rfl, _, rfl, p, L, B, ls, rfl, s2 _ _ e1, hlb, l5, l6, hlow, hln, ?_⟩
      have q : match (match plF L B (ls.drop 2) with
        | .inl n => (.inl n : Nat ⊕ (List Nat × List Nat × RS))
        | .inr st => .inr (L, B, st)) with
        | .inl n => BtX BT (.int n) H E
        | .inr q => ∀ p H', Same H H' → H p = none → PrAt C H' p q.1 q.2.1 q.2.2.ps (q.2.2.ms.map keptM) q.2.2.es → Q (.ref p) H' := q
      cases hp : plF L B (ls.drop 2) with
      | inl n =>
        rw [hp] at q
        exact BtX.same q (s1.trans s2)
      | inr st =>
        rw [hp] at q
        have q : ∀ p H', Same H H' → H p = none → PrAt C H' p L B st.ps (st.ms.map keptM) st.es → Q (.ref p) H' := q
        obtain ⟨rs, pne, hto, _⟩ := plF_ok (fun l hl => hlb l (List.mem_of_mem_drop hl)) (fun z => by have := congrArg List.length z; rw [List.length_drop] at this; have h0 : ([] : List (List Nat)).length = 0 := rfl; omega) hp
        intro t3 tp tm te Hb H3 kk sb s3 e3 h1 h2 h3 h4
        refine ⟨t3, _, rfl, SqT.of e3, rfl, _, _, rfl, _, _, rfl, _, _, rfl, rfl, ?_⟩
        have s03 := s1.trans (s2.trans s3)
        refine ⟨_, rfl, rfl, _, rfl, _, rfl, _, rfl, _, rfl, _, rfl, tp, tm, te, ⟨L, B, st.ps, st.ms, st.es⟩, rfl, ⟨.inl h1, ⟨kk, h2, Paired.mono (fun _ _ z => z.at.to_in) h3⟩, h4⟩, rs.parts pne hto o1 o3, fun x H4 s4 n4 hp => ?_⟩
        refine q x H4 (s03.trans s4) (s03.free n4) ?_
        have := hp.at
        rw [← o2, ← o4] at this
        exact this
end
end Tb

set_option Elab.async false
set_option linter.all false
set_option maxRecDepth 100000
set_option maxHeartbeats 4000000
/-! the text of what was read is what was read: pure -/
namespace Tb
open PySem PySem.Spec PyProof.Rows L2 TL
theorem okFils_ones {fl : Fil} {B : List Nat} (h : okFils fl B = true) : Ones fl := fun q hq => by
  unfold okFils okKeys at h
  rw [Bool.and_eq_true] at h
  have h1 := of_decide_eq_true (List.all_eq_true.mp h.1 q.1 (List.mem_map.mpr ⟨q, hq, rfl⟩))
  obtain ⟨b, _, e⟩ := List.mem_map.mp h1
  exact ⟨b, e.symm⟩
theorem one_lt {a b : Nat} : ([a] : List Nat) < [b] ↔ a < b := by
  constructor
  · intro h
    have := ltC_one a b
    rw [PyProof.Rows.ltCps_eq] at this
    have h2 : decide (([a] : List Nat) < [b]) = true := decide_eq_true h
    exact of_decide_eq_true (this.symm.trans h2)
  · intro h
    have := ltC_one a b
    rw [PyProof.Rows.ltCps_eq] at this
    exact of_decide_eq_true (this.trans (decide_eq_true h))
theorem kept_same {L B : List Nat} {m : Mv} (h : MvF L B m) : keptM m = m := by
  have one := okFils_ones h.ok
  have hk := heads_keys one
  have hs : (m.fl.map fun q => q.1.headD 0).Pairwise (· ≤ ·) := by
    have h1 := sortL_le (m.fl.map (·.1))
    rw [← h.so, hk, List.pairwise_map] at h1
    exact h1.imp fun {a b} z => Nat.not_lt.mp fun y => z (one_lt.mpr y)
  have e1 : sortN (m.fl.map fun q => q.1.headD 0) = m.fl.map fun q => q.1.headD 0 := (sortN_of (List.Perm.refl _) hs).symm
  have e2 : keptF m.fl = m.fl := by
    unfold keptF
    rw [e1, List.map_map]
    have : m.fl.map ((fun b => ([b], (getF m.fl [b]).getD [])) ∘ fun q : List Nat × List Nat => q.1.headD 0) = m.fl.map id := List.map_congr_left fun q hq => by
      obtain ⟨b, e⟩ := one q hq
      have e2 : q.1.headD 0 = b := by rw [e]; rfl
      show ([q.1.headD 0], (getF m.fl [q.1.headD 0]).getD []) = q
      rw [e2, ← e, getF_mem h.nd hq]
      rfl
    rw [this, List.map_id, List.filter_eq_self]
    exact fun q hq => decide_eq_true fun z => h.ne (List.mem_map.mpr ⟨q, hq, z⟩)
  unfold keptM
  rw [e2]
theorem fillF_all : ∀ ws : List (List Nat), (fillF ws).length = ws.length → fillF ws = ws.map fun w => (pA 61 w, pB 61 w) := rev_ind (fun _ => rfl) fun r a ih h => by
  rw [fillF_snoc] at h ⊢
  rw [List.length_append] at h
  have h1 := fillF_len r
  have h2 : (putF (fillF r) (pA 61 a) (pB 61 a)).length = r.length + 1 := h
  unfold putF at h2 ⊢
  split at h2
  · rw [setF_len] at h2
    omega
  · rename_i hk
    rw [if_neg hk]
    rw [List.length_append] at h2
    have h3 : (fillF r).length + 1 = r.length + 1 := h2
    rw [ih (by omega), List.map_append]
    rfl
theorem fill_back {ws : List (List Nat)} (h : (fillF ws).length = ws.length) (hne : [] ∉ (fillF ws).map (·.2)) : (fillF ws).map fillWord = ws := by
  have e := fillF_all ws h
  rw [e] at hne ⊢
  rw [List.map_map]
  conv => rhs; rw [← List.map_id ws]
  refine List.map_congr_left fun w hw => ?_
  show pA 61 w ++ [61] ++ pB 61 w = w
  refine part_in (Decidable.byContradiction fun z => hne ?_)
  rw [List.map_map]
  exact List.mem_map.mpr ⟨w, hw, pB_out z⟩
theorem ws_two {ws : List (List Nat)} (h : 2 ≤ ws.length) : ws = wd ws 0 :: wd ws 1 :: ws.drop 2 := by
  match ws, h with
  | a :: b :: r, _ => rfl
  | [], h => exact absurd h (by decide)
  | [a], h => exact absurd (show 2 ≤ 1 from h) (by decide)
theorem findM_snoc (ms : List Mv) (m : Mv) (c : List Nat) (a : Nat) : findM (ms ++ [m]) c a = (findM ms c a).or (if m.pl = c ∧ m.lt = a then some m else none) := by
  unfold findM
  rw [List.find?_append, List.find?_cons]
  by_cases h : m.pl = c ∧ m.lt = a
  · rw [decide_eq_true h, if_pos h]
  · rw [decide_eq_false h, if_neg h]
    rfl
theorem findM_none {ms : List Mv} {c : List Nat} {a : Nat} (h : ∀ m ∈ ms, m.pl = c → m.lt ≠ a) : findM ms c a = none := List.find?_eq_none.mpr fun m hm => by
  simp only [decide_eq_true_eq]
  exact fun z => h m hm z.1 z.2
def blk (L : List Nat) (st : RS) : List (List Nat) := st.ps.flatMap (blockW L st.ms st.es)
theorem blockW_congr {L : List Nat} {ms ms' : List Mv} {es es' : Fil} {c : List Nat} (h1 : getF es c = getF es' c) (h2 : ∀ a, findM ms c a = findM ms' c a) : blockW L ms es c = blockW L ms' es' c := by
  unfold blockW moveLines
  rw [h1, show (fun a => (findM ms c a).map fun m => moveLine a m.to m.fl) = fun a => (findM ms' c a).map fun m => moveLine a m.to m.fl from funext fun a => by rw [h2]]
theorem getF_snoc {es : Fil} {k v c : List Nat} (h : c ≠ k) : getF (es ++ [(k, v)]) c = getF es c := by
  unfold getF
  rw [List.find?_append, List.find?_cons, decide_eq_false (show ¬ ((k, v) : List Nat × List Nat).1 = c from fun z => h z.symm)]
  cases List.find? (fun q : List Nat × List Nat => decide (q.1 = c)) es <;> rfl
theorem getF_end {es : Fil} {k v : List Nat} (h : k ∉ es.map (·.1)) : getF (es ++ [(k, v)]) k = some v := by
  have h1 := getF_none h
  unfold getF at h1 ⊢
  rw [List.find?_append]
  have h2 : List.find? (fun q : List Nat × List Nat => decide (q.1 = k)) es = none := by
    cases z : List.find? (fun q : List Nat × List Nat => decide (q.1 = k)) es with
    | none => rfl
    | some q => rw [z] at h1; cases h1
  rw [h2, List.find?_cons, decide_eq_true rfl]
  rfl
theorem blk_place {L B : List Nat} {st : RS} {ws : List (List Nat)} (h : RSf L B st) (p : PlS ws st.ps B) : blk L (stP st ws) = blk L st ++ [joinL [32] ws] := by
  obtain ⟨i, o⟩ := h.ok
  have nc := p.2.2.2.2.1
  have nk : wd ws 1 ∉ st.es.map (·.1) := fun z => nc (o.ek _ z)
  show (st.ps ++ [wd ws 1]).flatMap (blockW L st.ms (stP st ws).es) = _
  rw [List.flatMap_append]
  congr 1
  · show st.ps.flatMap _ = st.ps.flatMap _
    rw [List.flatMap_def, List.flatMap_def]
    congr 1
    refine List.map_congr_left fun c hc => blockW_congr ?_ fun a => rfl
    show getF (if ws.length = 3 then st.es ++ [(wd ws 1, endW (wd ws 2))] else st.es) c = _
    split
    · exact getF_snoc fun z => nc (z ▸ hc)
    · rfl
  · rw [List.flatMap_cons, List.flatMap_nil, List.append_nil]
    unfold blockW moveLines
    have e1 : (L.filterMap fun a => (findM st.ms (wd ws 1) a).map fun m => moveLine a m.to m.fl) = [] := by
      rw [List.filterMap_eq_nil_iff]
      intro a _
      rw [findM_none fun m hm e => absurd (by rw [← e]; exact o.mp m hm) nc]
      rfl
    show placeLine (wd ws 1) (getF (if ws.length = 3 then st.es ++ [(wd ws 1, endW (wd ws 2))] else st.es) (wd ws 1)) :: (L.filterMap fun a => (findM st.ms (wd ws 1) a).map fun m => moveLine a m.to m.fl) = _
    rw [e1]
    have h2 := p.2.1.1
    have hw := ws_two h2
    congr 1
    by_cases h3 : ws.length = 3
    · rw [if_pos h3, getF_end nk]
      have hd : ws.drop 2 = [wd ws 2] := by
        match ws, h3 with
        | [a, b, c], _ => rfl
      unfold placeLine
      rw [hd, p.1] at hw
      show joinL [32] ([placeW, wd ws 1] ++ [if endW (wd ws 2) = [] then [45] else endW (wd ws 2)]) = _
      have e2 : (if endW (wd ws 2) = [] then [45] else endW (wd ws 2)) = wd ws 2 := by
        unfold endW
        by_cases hz : wd ws 2 = [45]
        · rw [if_pos hz, if_pos rfl, hz]
        · rw [if_neg hz]
          rcases p.2.2.2.2.2 with z | z | z
          · omega
          · exact absurd z hz
          · rw [if_neg z.1]
      rw [e2]
      conv => rhs; rw [hw]
      rfl
    · rw [if_neg h3, getF_none nk]
      have hd : ws.drop 2 = [] := List.drop_eq_nil_of_le (by have := p.2.1.2; omega)
      unfold placeLine
      rw [hd, p.1] at hw
      conv => rhs; rw [hw]
      rfl
theorem blk_move {L B : List Nat} {n : Nat} {st : RS} {ws : List (List Nat)} (h : RSf L B st) (hL : L.Pairwise (· < ·)) (hp : st.ps ≠ []) (p : MvS ws L B st.last) : blk L (stM st n ws) = blk L st ++ [joinL [32] ws] := by
  obtain ⟨i, o⟩ := h.ok
  obtain ⟨pre, hpre⟩ : ∃ pre, st.ps = pre ++ [st.ps.getLastD []] := List.getLast?_eq_some_iff.mp (getLastD_mem hp).symm
  obtain ⟨q, hq⟩ : ∃ q, st.ps.getLastD [] = q := ⟨_, rfl⟩
  obtain ⟨one, cin⟩ := one_wd p.2.1
  obtain ⟨c, hc⟩ : ∃ c, (wd ws 0).headD 0 = c := ⟨_, rfl⟩
  have hm : mvW st ws = ⟨q, c, wd ws 1, fillF (ws.drop 2)⟩ := by
    unfold mvW
    rw [hq, hc]
  rw [hq] at hpre
  rw [hc] at one cin
  have nq : q ∉ pre := by
    have := o.nd
    rw [hpre, List.nodup_append] at this
    exact fun z => this.2.2 q z q (List.mem_singleton.mpr rfl) rfl
  have gl : st.ps.getLast? = some q := by rw [hpre]; simp
  have hml : ∀ m ∈ st.ms, m.pl = q → m.lt < c := fun m hm e => by
    have h1 := o.ml m hm (by rw [e, gl])
    refine Decidable.byContradiction fun z => h1 ?_
    have h2 := p.2.2.1
    rw [one] at h2
    rcases Nat.lt_or_eq_of_le (Nat.not_lt.mp z) with y | y
    · exact List.lt_trans h2 (one_lt.mpr y)
    · rw [← y]
      exact h2
  show st.ps.flatMap (blockW L (st.ms ++ [mvW st ws]) st.es) = st.ps.flatMap (blockW L st.ms st.es) ++ _
  rw [hm, hpre, List.flatMap_append, List.flatMap_append, List.append_assoc]
  congr 1
  · rw [List.flatMap_def, List.flatMap_def]
    congr 1
    refine List.map_congr_left fun x hx => blockW_congr rfl fun a => ?_
    rw [findM_snoc, if_neg (fun z => nq (by rw [show q = x from z.1]; exact hx))]
    cases findM st.ms x a <;> rfl
  · rw [List.flatMap_cons, List.flatMap_nil, List.append_nil, List.flatMap_cons, List.flatMap_nil, List.append_nil]
    unfold blockW
    rw [List.cons_append]
    congr 1
    obtain ⟨L1, L2, hL12⟩ := List.append_of_mem cin
    rw [hL12] at hL ⊢
    have hl := List.pairwise_append.mp hL
    have hl2 := List.pairwise_cons.mp hl.2.1
    unfold moveLines
    have f1 : ∀ a ∈ L1, findM (st.ms ++ [⟨q, c, wd ws 1, fillF (ws.drop 2)⟩]) q a = findM st.ms q a := fun a ha => by
      have := hl.2.2 a ha c List.mem_cons_self
      rw [findM_snoc, if_neg (fun z => by have : c = a := z.2; omega)]
      cases findM st.ms q a <;> rfl
    have f2 : ∀ a ∈ L2, findM (st.ms ++ [⟨q, c, wd ws 1, fillF (ws.drop 2)⟩]) q a = none := fun a ha => by
      have := hl2.1 a ha
      rw [findM_snoc, if_neg (fun z => by have : c = a := z.2; omega), findM_none fun m hm e => by have := hml m hm e; omega]
      rfl
    have f2' : ∀ a ∈ L2, findM st.ms q a = none := fun a ha => findM_none fun m hm e => by have := hml m hm e; have := hl2.1 a ha; omega
    have fc' : findM st.ms q c = none := findM_none fun m hm e => by have := hml m hm e; omega
    have fc : findM (st.ms ++ [⟨q, c, wd ws 1, fillF (ws.drop 2)⟩]) q c = some ⟨q, c, wd ws 1, fillF (ws.drop 2)⟩ := by
      rw [findM_snoc, fc', if_pos ⟨rfl, rfl⟩]
      rfl
    rw [List.filterMap_append, List.filterMap_append, List.filterMap_cons, List.filterMap_cons, fc, fc']
    have g2 : (L2.filterMap fun a => (findM (st.ms ++ [⟨q, c, wd ws 1, fillF (ws.drop 2)⟩]) q a).map fun m => moveLine a m.to m.fl) = [] := by
      rw [List.filterMap_eq_nil_iff]
      intro a ha
      rw [f2 a ha]
      rfl
    have g2' : (L2.filterMap fun a => (findM st.ms q a).map fun m => moveLine a m.to m.fl) = [] := by
      rw [List.filterMap_eq_nil_iff]
      intro a ha
      rw [f2' a ha]
      rfl
    have g1 : (L1.filterMap fun a => (findM (st.ms ++ [⟨q, c, wd ws 1, fillF (ws.drop 2)⟩]) q a).map fun m => moveLine a m.to m.fl) = L1.filterMap fun a => (findM st.ms q a).map fun m => moveLine a m.to m.fl := by
      clear hl hL hL12
      induction L1 with
      | nil => rfl
      | cons a r ih =>
        rw [List.filterMap_cons, List.filterMap_cons, f1 a List.mem_cons_self, ih fun b hb => f1 b (List.mem_cons_of_mem _ hb)]
    rw [g1, g2, g2']
    show _ ++ [moveLine c (wd ws 1) (fillF (ws.drop 2))] = (_ ++ []) ++ [joinL [32] ws]
    rw [List.append_nil]
    congr 2
    have hw := ws_two p.1
    unfold moveLine
    rw [fill_back p.2.2.2.2.2.1 p.2.2.2.2.2.2.1, ← one, ← hw]
theorem blk_all {L B : List Nat} (hL : L.Pairwise (· < ·)) : ∀ (ds : List (List Nat)) (n : Nat) (st st' : RS), (∀ l ∈ ds, LnB l) → RSf L B st → rdF L B n st ds = .inr st' → blk L st' = blk L st ++ ds
  | [], n, st, st', _, h, e => by
    cases e
    exact (List.append_nil _).symm
  | l :: r, n, st, st', hl, h, e => by
    have hw : (splL 32 l).flatten.length ≤ 1000 := Nat.le_trans (splL_flat 32 l) (hl l List.mem_cons_self).1
    have hr : ∀ l ∈ r, LnB l := fun x hx => hl x (List.mem_cons_of_mem _ hx)
    unfold rdF at e
    split at e
    · rename_i hP
      rw [blk_all hL r _ _ _ hr (h.place hP hw) e, blk_place h hP, splL_join, List.append_assoc]
      rfl
    · split at e
      · rename_i hM
        rw [blk_all hL r _ _ _ hr (h.move hM.1 hM.2 hw) e, blk_move h hL hM.1 hM.2, splL_join, List.append_assoc]
        rfl
      · cases e
theorem letters_asc {L : List Nat} (h : okLetters L = true) (hs : L = sortN L) : L.Pairwise (· < ·) := by
  unfold okLetters at h
  simp only [Bool.and_eq_true, decide_eq_true_eq] at h
  have h1 := sortN_le L
  rw [← hs] at h1
  have h2 : L.Pairwise (· ≠ ·) := h.2.2.2
  exact (h1.and h2).imp fun z => by omega
/-- the text of what was read -/
theorem text_back {cs L B : List Nat} {st : RS} (hb : TxB cs) (e : paF cs = .inr (L, B, st)) : textW L B st.ps (st.ms.map keptM) st.es = cs := by
  unfold paF at e
  cases h1 : hdF (splL 10 cs) with
  | inl n => rw [h1] at e; cases e
  | inr q =>
    obtain ⟨L', B'⟩ := q
    rw [h1] at e
    have e : (match plF L' B' ((splL 10 cs).drop 2) with
      | .inl n => (.inl n : Nat ⊕ (List Nat × List Nat × RS))
      | .inr st => .inr (L', B', st)) = .inr (L, B, st) := e
    cases h2 : plF L' B' ((splL 10 cs).drop 2) with
    | inl n => rw [h2] at e; cases e
    | inr s' =>
      rw [h2] at e
      cases e
      obtain ⟨o1, o2, o3, o4, l3, hl0, hl1⟩ := hdF_ok h1
      have hd : ∀ l ∈ (splL 10 cs).drop 2, LnB l := fun l hl => hb.2.2 l (List.mem_of_mem_drop hl)
      obtain ⟨rs, _, _, hr⟩ := plF_ok hd (fun z => by have := congrArg List.length z; rw [List.length_drop] at this; have h0 : ([] : List (List Nat)).length = 0 := rfl; omega) h2
      have hk : st.ms.map keptM = st.ms := by
        conv => rhs; rw [← List.map_id st.ms]
        exact List.map_congr_left fun m hm => kept_same (rs.mv m hm)
      have hblk := blk_all (letters_asc o1 o2) _ 3 RS.init st hd (RSf.init L B) hr
      unfold textW
      rw [hk, show st.ps.flatMap (blockW L st.ms st.es) = (splL 10 cs).drop 2 from hblk]
      have e0 : joinL [32] [lettersW, L] = wd (splL 10 cs) 0 := by
        unfold rlF at hl0
        split at hl0
        · rename_i z
          cases hl0
          have hin : 32 ∈ wd (splL 10 cs) 0 := Decidable.byContradiction fun y => by
            rw [pB_out y] at z
            exact absurd z.2.1 (by decide)
          have := part_in hin
          rw [z.1] at this
          conv => rhs; rw [← this]
          rfl
        · cases hl0
      have e1 : joinL [32] (if B = [] then [boxesW] else [boxesW, B]) = wd (splL 10 cs) 1 := by
        unfold rbF at hl1
        split at hl1
        · rename_i z
          cases hl1
          rw [if_pos rfl, z]
          rfl
        · split at hl1
          · rename_i z
            cases hl1
            rw [if_neg z.2.1]
            have hin : 32 ∈ wd (splL 10 cs) 1 := Decidable.byContradiction fun y => z.2.1 (pB_out y)
            have := part_in hin
            rw [z.1] at this
            conv => rhs; rw [← this]
            rfl
          · cases hl1
      unfold headW
      rw [e0, e1]
      conv => rhs; rw [← splL_join 10 cs, ws_two (show 2 ≤ (splL 10 cs).length by omega)]
      rfl
end Tb

set_option Elab.async false
set_option linter.all false
set_option maxRecDepth 100000
set_option maxHeartbeats 4000000
/-! what _law_head says of a line is what _read_letters and _read_boxes say: pure -/
namespace Tb
open PySem PySem.Spec PyProof.Rows L2 TL
theorem splL_part {s : Nat} : ∀ {cs : List Nat}, s ∈ cs → splL s cs = pA s cs :: splL s (pB s cs)
  | c :: r, h => by
    unfold pA pB
    conv => lhs; unfold splL
    by_cases e : c = s
    · rw [if_pos e, if_pos e, if_pos e]
    · rw [if_neg e, if_neg e, if_neg e]
      have hr : s ∈ r := by
        rcases List.mem_cons.mp h with z | z
        · exact absurd z.symm e
        · exact z
      rw [splL_part hr]
theorem splL_none {s : Nat} {cs : List Nat} (h : s ∉ cs) : splL s cs = [cs] := by
  have := splL_of s (ws := [cs]) (List.cons_ne_nil _ _) fun x hx => by rw [List.mem_singleton.mp hx]; exact h
  exact this
theorem splL_pos (s : Nat) (cs : List Nat) : 0 < (splL s cs).length := List.length_pos_iff.mpr (splL_ne s cs)
theorem splL_one {s : Nat} {cs : List Nat} : (splL s cs).length = 1 ↔ s ∉ cs := by
  constructor
  · intro h z
    rw [splL_part z, List.length_cons] at h
    have := splL_pos s (pB s cs)
    omega
  · intro h
    rw [splL_none h]
    rfl
theorem wd0_split (s : Nat) (cs : List Nat) : wd (splL s cs) 0 = pA s cs := by
  by_cases h : s ∈ cs
  · rw [splL_part h]
    rfl
  · rw [splL_none h, pA_out h]
    rfl
/-- strictly ascending: sorted, each once -/
theorem asc_iff {l : List Nat} : l.Pairwise (· < ·) ↔ l.Nodup ∧ l = sortN l := by
  constructor
  · intro h
    exact ⟨h.imp fun z => Nat.ne_of_lt z, sortN_of (List.Perm.refl _) (h.imp fun z => Nat.le_of_lt z)⟩
  · rintro ⟨h1, h2⟩
    have h3 := sortN_le l
    rw [← h2] at h3
    have h1 : l.Pairwise (· ≠ ·) := h1
    exact (h1.and h3).imp fun z => by omega
def lhRow (line : List Nat) : List Nat := if (splL 32 line).length = 2 then wd (splL 32 line) 1 else []
/-- what the law's own look at a head line says -/
def lhF (line word : List Nat) (ok : Nat → Bool) (lo hi : Nat) : Option (List Nat) :=
  if wd (splL 32 line) 0 ≠ word ∨ 2 < (splL 32 line).length ∨ ((splL 32 line).length = 2 ∧ lhRow line = []) then none
  else if ¬ (lo ≤ (lhRow line).length ∧ (lhRow line).length ≤ hi) ∨ ¬ (lhRow line).Pairwise (· < ·) then none
  else if (lhRow line).all ok = true then some (lhRow line) else none
theorem all_not {l : List Nat} {ok : Nat → Bool} {c : Nat} (h : c ∈ l) (hc : ok c = false) : l.all ok = false := by
  rw [List.all_eq_false]
  exact ⟨c, h, by rw [hc]; exact Bool.false_ne_true⟩
theorem rows_of (line : List Nat) : (32 ∉ line ∧ (splL 32 line).length = 1 ∧ lhRow line = [] ∧ pB 32 line = []) ∨ (32 ∈ line ∧ 32 ∉ pB 32 line ∧ (splL 32 line).length = 2 ∧ lhRow line = pB 32 line) ∨ (32 ∈ line ∧ 32 ∈ pB 32 line ∧ 2 < (splL 32 line).length) := by
  by_cases h1 : 32 ∈ line
  · refine .inr ?_
    have e := splL_part h1
    by_cases h2 : 32 ∈ pB 32 line
    · refine .inr ⟨h1, h2, ?_⟩
      rw [e, splL_part h2, List.length_cons, List.length_cons]
      have := splL_pos 32 (pB 32 (pB 32 line))
      omega
    · rw [splL_none h2] at e
      have l2 : (splL 32 line).length = 2 := by rw [e]; rfl
      refine .inl ⟨h1, h2, l2, ?_⟩
      unfold lhRow
      rw [if_pos l2, e]
      rfl
  · have l1 := splL_one.mpr h1
    refine .inl ⟨h1, l1, ?_, pB_out h1⟩
    unfold lhRow
    rw [if_neg (by omega)]
theorem lh_letters (line : List Nat) : lhF line lettersW isLow 1 5 = rlF line := by
  unfold lhF rlF
  rw [wd0_split]
  rcases rows_of line with ⟨h1, h2, h3, h4⟩ | ⟨h1, h2, h3, h4⟩ | ⟨h1, h2, h3⟩
  · rw [if_neg (c := pA 32 line = lettersW ∧ _) (fun z => by rw [h4] at z; exact absurd z.2.1 (by decide))]
    split
    · rfl
    · rw [if_pos (.inl fun z => by rw [h3] at z; exact absurd z.1 (by decide))]
  · rw [h3, h4]
    by_cases c1 : pA 32 line = lettersW
    case neg => rw [if_pos (.inl c1), if_neg (fun z => c1 z.1)]
    by_cases c2 : pB 32 line = []
    · rw [if_pos (.inr (.inr ⟨rfl, c2⟩)), if_neg (fun z => by rw [c2] at z; exact absurd z.2.1 (by decide))]
    rw [if_neg (fun z => by rcases z with z | z | z; exact z c1; omega; exact c2 z.2)]
    unfold okLetters
    by_cases c3 : 1 ≤ (pB 32 line).length ∧ (pB 32 line).length ≤ 5
    case neg => rw [if_pos (.inl c3), if_neg (fun z => by simp at z; exact c3 ⟨by omega, z.2.1.2.2.1⟩)]
    by_cases c4 : (pB 32 line).Pairwise (· < ·)
    case neg => rw [if_pos (.inr c4), if_neg (fun z => by simp only [Bool.and_eq_true, decide_eq_true_eq] at z; exact c4 (asc_iff.mpr ⟨z.2.1.2.2.2, z.2.2⟩))]
    rw [if_neg (fun z => by rcases z with z | z; exact z c3; exact z c4)]
    have c5 := asc_iff.mp c4
    by_cases c6 : (pB 32 line).all isLow = true
    · rw [if_pos c6, if_pos ⟨c1, by rw [c6, decide_eq_true c3.1, decide_eq_true c3.2, decide_eq_true c5.1]; rfl, c5.2⟩]
    · rw [if_neg c6, if_neg (fun z => by simp only [Bool.and_eq_true] at z; exact c6 z.2.1.1)]
  · rw [if_pos (.inr (.inl h3)), if_neg]
    intro z
    have z1 := z.2.1
    unfold okLetters at z1
    rw [all_not h2 (by decide)] at z1
    cases z1
theorem lh_boxes (line : List Nat) : lhF line boxesW isCap 0 6 = rbF line := by
  unfold lhF rbF
  rw [wd0_split]
  rcases rows_of line with ⟨h1, h2, h3, h4⟩ | ⟨h1, h2, h3, h4⟩ | ⟨h1, h2, h3⟩
  · rw [pA_out h1, h2, h3]
    by_cases c1 : line = boxesW
    · rw [if_neg (fun z => by rcases z with z | z | z; exact z c1; omega; omega), if_neg (fun z => by rcases z with z | z; exact z ⟨Nat.zero_le _, Nat.zero_le _⟩; exact z List.Pairwise.nil), if_pos c1]
      rfl
    · rw [if_pos (.inl c1), if_neg c1, if_neg (fun z => c1 z.1)]
  · rw [h3, h4]
    have nb : line ≠ boxesW := fun z => absurd (z ▸ h1) (by decide)
    rw [if_neg nb]
    by_cases c1 : pA 32 line = boxesW
    case neg => rw [if_pos (.inl c1), if_neg (fun z => c1 z.1)]
    by_cases c2 : pB 32 line = []
    · rw [if_pos (.inr (.inr ⟨rfl, c2⟩)), if_neg (fun z => z.2.1 c2)]
    rw [if_neg (fun z => by rcases z with z | z | z; exact z c1; omega; exact c2 z.2)]
    unfold okBoxes
    by_cases c3 : (pB 32 line).length ≤ 6
    case neg => rw [if_pos (.inl fun z => c3 z.2), if_neg (fun z => by simp at z; exact c3 z.2.2.1.1)]
    by_cases c4 : (pB 32 line).Pairwise (· < ·)
    case neg => rw [if_pos (.inr c4), if_neg (fun z => by simp only [Bool.and_eq_true, decide_eq_true_eq] at z; exact c4 (asc_iff.mpr ⟨z.2.2.1.2.2, z.2.2.2⟩))]
    rw [if_neg (fun z => by rcases z with z | z; exact z ⟨Nat.zero_le _, c3⟩; exact z c4)]
    have c5 := asc_iff.mp c4
    by_cases c6 : (pB 32 line).all isCap = true
    · rw [if_pos c6, if_pos ⟨c1, c2, by rw [c6, decide_eq_true c3, decide_eq_true c5.1]; rfl, c5.2⟩]
    · rw [if_neg c6, if_neg (fun z => by simp only [Bool.and_eq_true] at z; exact c6 z.2.2.1.2.1)]
  · have nb : line ≠ boxesW := fun z => absurd (z ▸ h1) (by decide)
    rw [if_pos (.inr (.inl h3)), if_neg nb, if_neg]
    intro z
    have z1 := z.2.2.1
    unfold okBoxes at z1
    rw [all_not h2 (by decide)] at z1
    simp at z1
end Tb

set_option Elab.async false
set_option linter.all false
set_option maxRecDepth 100000
set_option maxHeartbeats 4000000
/-! what _law_is_move says of words is what _move_stands says: pure -/
namespace Tb
open PySem PySem.Spec PyProof.Rows L2 TL
def hds (ws : List (List Nat)) : List (List Nat) := (ws.drop 2).map (pA 61)
def tls (ws : List (List Nat)) : List (List Nat) := (ws.drop 2).map (pB 61)
/-- the law's own look at words that may tell a move -/
def LmS (ws : List (List Nat)) (L B before : List Nat) : Prop := 2 ≤ ws.length ∧ wd ws 0 ∈ L.map (fun c => [c]) ∧ isName (wd ws 1) = true ∧ [] ∉ tls ws ∧ (∀ h ∈ hds ws, h ∈ B.map fun b => [b]) ∧ (hds ws).Pairwise (· < ·) ∧ before < wd ws 0 ∧ isFill (tls ws).flatten B = true
theorem fillF_nodup : ∀ rs : List (List Nat), (rs.map (pA 61)).Nodup → fillF rs = rs.map fun w => (pA 61 w, pB 61 w) := rev_ind (fun _ => rfl) fun r a ih h => by
  rw [List.map_append, List.nodup_append] at h
  rw [fillF_snoc, ih h.1]
  unfold putF
  rw [if_neg, List.map_append]
  · rfl
  · intro z
    rw [List.map_map] at z
    exact h.2.2 _ z _ (List.mem_singleton.mpr rfl) rfl
theorem asc_texts {l : List (List Nat)} : l.Pairwise (· < ·) ↔ l.Nodup ∧ l = sortL l := by
  constructor
  · intro h
    have nd : l.Pairwise (· ≠ ·) := h.imp fun {a b} z (y : a = b) => List.lt_irrefl b (by rw [y] at z; exact z)
    exact ⟨nd, sortL_of (List.Perm.refl _) (h.imp fun {a b} z y => List.lt_irrefl a (List.lt_trans z y))⟩
  · rintro ⟨h1, h2⟩
    have h3 := sortL_le l
    rw [← h2] at h3
    have h1 : l.Pairwise (· ≠ ·) := h1
    refine (h1.and h3).imp fun {a b} z => ?_
    exact Decidable.byContradiction fun y => z.1 (List.le_antisymm z.2 y)
theorem lm_iff {ws : List (List Nat)} {L B before : List Nat} : LmS ws L B before ↔ MvS ws L B before := by
  have hk : ∀ {rs : List (List Nat)}, fillF rs = rs.map (fun w => (pA 61 w, pB 61 w)) → (fillF rs).map (·.1) = rs.map (pA 61) ∧ (fillF rs).map (·.2) = rs.map (pB 61) := fun e => by
    rw [e, List.map_map, List.map_map]
    exact ⟨rfl, rfl⟩
  have hf : ∀ {rs : List (List Nat)}, fillF rs = rs.map (fun w => (pA 61 w, pB 61 w)) → (okFils (fillF rs) B = true ↔ (∀ h ∈ rs.map (pA 61), h ∈ B.map fun b => [b]) ∧ isFill (rs.map (pB 61)).flatten B = true) := fun e => by
    unfold okFils okKeys
    rw [(hk e).1, (hk e).2, Bool.and_eq_true, List.all_eq_true]
    exact ⟨fun z => ⟨fun h hh => of_decide_eq_true (z.1 h hh), z.2⟩, fun z => ⟨fun h hh => decide_eq_true (z.1 h hh), z.2⟩⟩
  constructor
  · rintro ⟨a1, a2, a3, a4, a5, a6, a7, a8⟩
    have hs := asc_texts.mp a6
    have e := fillF_nodup (ws.drop 2) hs.1
    refine ⟨a1, a2, a7, a3, ?_, ?_, ?_, (hf e).mpr ⟨a5, a8⟩⟩
    · unfold kys
      rw [(hk e).1]
      exact hs.2
    · rw [e, List.length_map]
    · rw [(hk e).2]
      exact a4
  · rintro ⟨a1, a2, a3, a4, a5, a6, a7, a8⟩
    have e := fillF_all (ws.drop 2) a6
    have h8 := (hf e).mp a8
    refine ⟨a1, a2, a4, ?_, h8.1, asc_texts.mpr ⟨?_, ?_⟩, a3, h8.2⟩
    · unfold tls
      rw [← (hk e).2]
      exact a7
    · unfold hds
      rw [← (hk e).1]
      exact fillF_nd _
    · unfold hds
      rw [← (hk e).1]
      exact a5
end Tb

set_option Elab.async false
set_option linter.all false
set_option maxRecDepth 100000
set_option maxHeartbeats 4000000
/-! one line as _law_due looks at it: pure -/
namespace Tb
open PySem PySem.Spec PyProof.Rows L2 TL
/-- the law's own look at words that begin with the word place -/
def PlG (ws ps : List (List Nat)) (B : List Nat) : Prop := ((ws.length = 2 ∨ ws.length = 3) ∧ isName (wd ws 1) = true ∧ wd ws 1 ∉ ps) ∧ (ws.length = 3 → wd ws 2 ≠ [45] → wd ws 2 ≠ [] ∧ isFill (wd ws 2) B = true)
theorem plG_iff {ws ps : List (List Nat)} {B : List Nat} (h0 : wd ws 0 = placeW) (h50 : ps.length ≠ 50) : PlG ws ps B ↔ PlS ws ps B := by
  constructor
  · rintro ⟨⟨a1, a2, a3⟩, a4⟩
    refine ⟨h0, ⟨by omega, by omega⟩, h50, a2, a3, ?_⟩
    by_cases h2 : ws.length = 2
    · exact .inl h2
    · by_cases h3 : wd ws 2 = [45]
      · exact .inr (.inl h3)
      · exact .inr (.inr (a4 (by omega) h3))
  · rintro ⟨_, ⟨b1, b2⟩, _, a2, a3, a4⟩
    refine ⟨⟨by omega, a2, a3⟩, fun h3 hne => ?_⟩
    rcases a4 with z | z | z
    · omega
    · exact absurd z hne
    · exact z
theorem no_place {ws : List (List Nat)} {L B last : List Nat} (h0 : wd ws 0 = placeW) : ¬ MvS ws L B last := fun z => by
  obtain ⟨c, _, e⟩ := List.mem_map.mp z.2.1
  rw [h0] at e
  exact absurd (congrArg List.length e) (by show ¬ 1 = 5; decide)
open Classical in
theorem rdF_law {L B : List Nat} {n : Nat} {st : RS} {l : List Nat} {r : List (List Nat)} (h50 : st.ps.length ≠ 50) : rdF L B n st (l :: r) =
    if wd (splL 32 l) 0 = placeW then (if PlG (splL 32 l) st.ps B then rdF L B (n + 1) (stP st (splL 32 l)) r else .inl n)
    else if st.ps ≠ [] ∧ LmS (splL 32 l) L B st.last then rdF L B (n + 1) (stM st n (splL 32 l)) r else .inl n := by
  conv => lhs; unfold rdF
  by_cases h0 : wd (splL 32 l) 0 = placeW
  · rw [if_pos h0, if_neg (c := st.ps ≠ [] ∧ _) fun z => no_place h0 z.2]
    by_cases hp : PlS (splL 32 l) st.ps B
    · rw [if_pos hp, if_pos ((plG_iff h0 h50).mpr hp)]
    · rw [if_neg hp, if_neg fun z => hp ((plG_iff h0 h50).mp z)]
  · rw [if_neg h0, if_neg fun z : PlS (splL 32 l) st.ps B => h0 z.1]
    by_cases hm : st.ps ≠ [] ∧ LmS (splL 32 l) L B st.last
    · rw [if_pos hm, if_pos ⟨hm.1, lm_iff.mp hm.2⟩]
    · rw [if_neg hm, if_neg fun z => hm ⟨z.1, lm_iff.mpr z.2⟩]
end Tb

set_option Elab.async false
set_option linter.all false
set_option maxRecDepth 100000
set_option maxHeartbeats 4000000
/-! the texts that the law tells at its end -/
namespace Tb
open PySem PySem.Spec PyProof.Rows L2 TL
def plName (i : Nat) : List Nat := [112, 97 + i % 10, 97 + i / 10]
def plLines (k : Nat) : List (List Nat) := (List.range k).map fun i => placeW ++ [32] ++ plName i
def isInl (x : Nat ⊕ RS) (n : Nat) : Bool := match x with | .inl m => m == n | .inr _ => false
def isInr (x : Nat ⊕ RS) : Bool := match x with | .inl _ => false | .inr s => s.ld.isEmpty
theorem many51 : isInl (rdF [97] [] 3 RS.init (plLines 51)) 53 = true := by decide +kernel
theorem many50 : isInr (rdF [97] [] 3 RS.init (plLines 50)) = true := by decide +kernel
theorem lettersA : rlF (lettersW ++ [32, 97]) = some [97] := by
  rw [← lh_letters]
  decide +kernel
theorem boxes0 : rbF boxesW = some [] := if_pos rfl
end Tb

set_option Elab.async false
set_option linter.all false
set_option maxRecDepth 100000
set_option maxHeartbeats 4000000
/-! what is told of the texts at the law's end -/
namespace Tb
open PySem PySem.Spec PyProof.Rows L2 TL
theorem pa_lines {ws : List (List Nat)} (h1 : ws ≠ []) (h2 : (ws.all fun x => x.all fun c => decide (c ≠ 10)) = true) : splL 10 (joinL [10] ws) = ws :=
  splL_of 10 h1 fun x hx z => absurd (of_decide_eq_true (List.all_eq_true.mp (List.all_eq_true.mp h2 x hx) 10 z)) (fun y => y rfl)
def headA : List (List Nat) := [lettersW ++ [32, 97], boxesW]
theorem hd_three {r : List (List Nat)} {a : List Nat} : hdF (headA ++ a :: r) = .inr ([97], []) := by
  unfold hdF
  rw [show wd (headA ++ a :: r) 0 = lettersW ++ [32, 97] from rfl, lettersA, show wd (headA ++ a :: r) 1 = boxesW from rfl, boxes0]
  have l3 : ¬ (headA ++ a :: r).length < 2 := by
    rw [List.length_append, List.length_cons]
    show ¬ 2 + _ < 2
    omega
  have l4 : ¬ (headA ++ a :: r).length < 3 := by
    rw [List.length_append, List.length_cons]
    show ¬ 2 + _ < 3
    omega
  show (if (headA ++ a :: r).length < 2 then (.inl 2 : Nat ⊕ (List Nat × List Nat)) else if (headA ++ a :: r).length < 3 then .inl 3 else .inr ([97], [])) = _
  rw [if_neg l3, if_neg l4]
theorem pa_empty : paF [] = .inl 1 := by
  unfold paF hdF
  rw [show wd (splL 10 []) 0 = [] from rfl, show rlF [] = none by rw [← lh_letters]; decide +kernel]
theorem pa_one : paF (joinL [10] [lettersW ++ [32, 97]]) = .inl 2 := by
  unfold paF
  rw [pa_lines (ws := [lettersW ++ [32, 97]]) (List.cons_ne_nil _ _) (by decide +kernel)]
  unfold hdF
  rw [show wd [lettersW ++ [32, 97]] 0 = lettersW ++ [32, 97] from rfl, lettersA]
  rfl
theorem pa_two : paF (joinL [10] headA) = .inl 3 := by
  unfold paF
  rw [pa_lines (ws := headA) (List.cons_ne_nil _ _) (by decide +kernel)]
  unfold hdF
  rw [show wd headA 0 = lettersW ++ [32, 97] from rfl, lettersA, show wd headA 1 = boxesW from rfl, boxes0]
  rfl
theorem pa_more {a : List Nat} {r : List (List Nat)} (h : ((headA ++ a :: r).all fun x => x.all fun c => decide (c ≠ 10)) = true) : paF (joinL [10] (headA ++ a :: r)) = match plF [97] [] (a :: r) with
    | .inl n => .inl n
    | .inr st => .inr ([97], [], st) := by
  unfold paF
  rw [pa_lines (ws := headA ++ a :: r) (by simp) h, hd_three]
  rfl
theorem pl_inl {ds : List (List Nat)} {n : Nat} (h : isInl (rdF [97] [] 3 RS.init ds) n = true) : plF [97] [] ds = .inl n := by
  unfold plF
  cases e : rdF [97] [] 3 RS.init ds with
  | inl m =>
    rw [e] at h
    rw [show m = n from beq_iff_eq.mp h]
  | inr s => rw [e] at h; cases h
theorem pl_inr {ds : List (List Nat)} (h : isInr (rdF [97] [] 3 RS.init ds) = true) : ∃ st, plF [97] [] ds = .inr st := by
  unfold plF
  cases e : rdF [97] [] 3 RS.init ds with
  | inl m => rw [e] at h; cases h
  | inr s =>
    rw [e] at h
    refine ⟨s, ?_⟩
    have : s.ld = [] := List.isEmpty_iff.mp h
    have hl : lost s = none := by unfold lost; rw [this]; rfl
    show (match lost s with
      | some q => (.inl q.1 : Nat ⊕ RS)
      | none => .inr s) = _
    rw [hl]
theorem plLines_cons (k : Nat) : plLines (k + 1) = (placeW ++ [32] ++ plName 0) :: (List.range k).map fun i => placeW ++ [32] ++ plName (i + 1) := by
  unfold plLines
  rw [List.range_succ_eq_map, List.map_cons, List.map_map]
  rfl
theorem pa_51 : paF (joinL [10] (headA ++ plLines 51)) = .inl 53 := by
  have h := pl_inl many51
  rw [plLines_cons] at h ⊢
  rw [pa_more (by decide +kernel), h]
theorem pa_50 : ∃ q, paF (joinL [10] (headA ++ plLines 50)) = .inr q := by
  obtain ⟨st, h⟩ := pl_inr many50
  rw [plLines_cons] at h ⊢
  rw [pa_more (by decide +kernel), h]
  exact ⟨_, rfl⟩
theorem pa_on : ∃ q, paF (joinL [10] (headA ++ [placeW ++ [32, 111, 110]])) = .inr q := by
  obtain ⟨st, h⟩ := pl_inr (ds := [placeW ++ [32, 111, 110]]) (by decide +kernel)
  rw [pa_more (by decide +kernel), h]
  exact ⟨_, rfl⟩
end Tb

set_option Elab.async false
set_option linter.all false
set_option maxRecDepth 100000
set_option maxHeartbeats 4000000
/-! _law_tried: both ways -/
namespace Tb
open PySem PySem.Spec PyProof.Rows L2 TL
section
variable {X : Cx} {C : Addr} {k j : Nat} {nm : Str} {sp : Sp} {o : Expr} {to : TE}
/-- o.m() -/
theorem pe_mth0 {apos pos : Pos} {pl : Sem Bool} (D : Mth X.prog X.w X.K X.mg X.base C k nm [] sp) (c : Cls X.K C) (hr : Room j X.A) (he : PE X o to) (hk : k ≤ j := by omega)
    (ht : eval (.Call (.Attribute o nm apos) [] [] pos) X.env = (do
      let ov ← eval o X.env
      standAt apos.atName
      let (f, first) ← holding [ov] (getMethod ov nm pl)
      callWith pos f first (backTo pos (starEach [] X.env)) (backToKw pos (keywordEach [] X.env))) := by rfl) :
    PE X (.Call (.Attribute o nm apos) [] [] pos) (tMeth C nm sp [] E0 to tNil) := by
  obtain ⟨f, fd, hm, F, b⟩ := D.ex
  exact pe_meth0 (pl := pl) he c hm F (hr.mono hk) b .nil pass0 ht
/-- a classmethod that may raise -/
structure CmX (P : Program) (w : World) (K : PySem.W.Frag) (mg : Str → Option Value) (base : Heap) (C : Addr) (k : Nat) (nm : Str) (sp : Sp) : Prop where
  ex : ∃ mc p g, ClX.CRead K C mc ∧ ClX.CMet K C mc nm p g ∧ FnR P w K mg base (L2.CX P w) k g sp
theorem pe_cmX {e : Expr} {es : List Expr} {t : TA} {apos pos : Pos} {pl : Sem Bool} {E : XK} (D : CmX X.prog X.w X.K X.mg X.base C k nm sp) (hr : Room j X.A) (hx : Passes (L2.CX X.prog X.w) X E) (he : PE X o to) (ha : PA X (e :: es) t) (hk : k ≤ j := by omega)
    (hst : starEach (e :: es) X.env = (false, eval e X.env) :: starEach es X.env := by rfl) (hpl : (backTo pos (starEach es X.env)).any (·.1) = false := by rfl)
    (ht : eval (.Call (.Attribute o nm apos) (e :: es) [] pos) X.env = (do
      let ov ← eval o X.env
      standAt apos.atName
      let (f, first) ← holding [ov] (getMethod ov nm pl)
      callWith pos f first (backTo pos (starEach (e :: es) X.env)) (backToKw pos (keywordEach [] X.env))) := by rfl) :
    PE X (.Call (.Attribute o nm apos) (e :: es) [] pos) (ClX.tCMeth C sp E to t) := by
  obtain ⟨mc, p, g, r, c, F⟩ := D.ex
  exact ClX.pe_cmeth (pl := pl) he r c F (hr.mono hk) hx ha hst hpl ht
end
theorem takes_len {X : Cx} {W : WX} (tk : Takes X W) : Takes X (fun cls d σ H => σ.length = X.N.length → W cls d σ H) := fun u s' x => by
  obtain ⟨a, B, sI, pins, σ, H, cls, d, e, J, nb, up, sky, na, os, ag, w⟩ := x
  exact tk u s' ⟨a, B, sI, pins, σ, H, cls, d, e, J, nb, up, sky, na, os, ag, w J.len⟩
theorem three {σ : L2.St} (h : σ.length = 3) : ∃ a b c, σ = [a, b, c] := match σ, h with
  | [a, b, c], _ => ⟨a, b, c, rfl⟩
abbrev nTried4 : List Str := ["_law_text", "_law_found", "e"]
theorem scTried4 : FnScope nTried4 ["_law_text"] (defScope sLTried) := ⟨rfl, rfl, rfl, by decide +kernel, rfl, by decide +kernel, by decide +kernel⟩
/-- what is known for the except clause -/
structure BtEx (K : PySem.W.Frag) (mg : Str → Option Value) (BT : Addr) : Prop where
  xf : XfC K BT
  nf : PySem.W.findIn K (.ref BT) "line" = some none
  m1 : mg "BadText" = some (.ref BT)
  x1 : PySem.W.exmOne K (.ref BT) (.ref BT) = some true
def triedV (cs : List Nat) : List V := match paF cs with
  | .inl n => [.str (Str.ofString "line"), .int (n : Int)]
  | .inr _ => [.str (Str.ofString "told"), .str (S cs)]
theorem sub_len {α : Type} [BEq α] [LawfulBEq α] : ∀ {a b : List α}, a.Nodup → (∀ x ∈ a, x ∈ b) → a.length ≤ b.length
  | [], _, _, _ => Nat.zero_le _
  | x :: a, b, nd, h => by
    have h2 := List.nodup_cons.mp nd
    have hx := h x List.mem_cons_self
    have := sub_len (b := b.erase x) h2.2 fun y hy => by
      rw [List.mem_erase_of_ne]
      · exact h y (List.mem_cons_of_mem _ hy)
      · exact fun z => h2.1 (z ▸ hy)
    rw [List.length_erase_of_mem hx] at this
    have h0 : 0 < b.length := List.length_pos_of_mem hx
    rw [List.length_cons]
    omega
theorem fillWords_len : ∀ {fl : Fil}, Ones fl → (fl.map fillWord).flatten.length = 2 * fl.length + (fl.map (·.2)).flatten.length
  | [], _ => rfl
  | q :: fl, h => by
    have ih := fillWords_len (fl := fl) fun x hx => h x (List.mem_cons_of_mem _ hx)
    obtain ⟨b, e⟩ := h q List.mem_cons_self
    rw [List.map_cons, List.map_cons, List.flatten_cons, List.flatten_cons, List.length_append, List.length_append, ih, List.length_cons]
    show (q.1 ++ [61] ++ q.2).length + _ = _
    rw [e, List.length_append, List.length_append]
    show 1 + 1 + _ + _ = _
    omega
theorem Rs_tx {cs L B : List Nat} {st : RS} (hb : TxB cs) (e : paF cs = .inr (L, B, st)) : TxOk L B st.ps (st.ms.map keptM) st.es := by
  unfold paF at e
  cases h1 : hdF (splL 10 cs) with
  | inl n => rw [h1] at e; cases e
  | inr q =>
    obtain ⟨L', B'⟩ := q
    rw [h1] at e
    have e : (match plF L' B' ((splL 10 cs).drop 2) with
      | .inl n => (.inl n : Nat ⊕ (List Nat × List Nat × RS))
      | .inr st => .inr (L', B', st)) = .inr (L, B, st) := e
    cases h2 : plF L' B' ((splL 10 cs).drop 2) with
    | inl n => rw [h2] at e; cases e
    | inr s' =>
      rw [h2] at e
      cases e
      obtain ⟨o1, o2, o3, o4, l3, hl0, hl1⟩ := hdF_ok h1
      obtain ⟨rs, _, _, hr⟩ := plF_ok (fun l hl => hb.2.2 l (List.mem_of_mem_drop hl)) (fun z => by have := congrArg List.length z; rw [List.length_drop] at this; have h0 : ([] : List (List Nat)).length = 0 := rfl; omega) h2
      have hk : st.ms.map keptM = st.ms := by
        conv => rhs; rw [← List.map_id st.ms]
        exact List.map_congr_left fun m hm => kept_same (rs.mv m hm)
      have nm : ∀ {x : List Nat}, isName x = true → x.length ≤ 8 := fun h => by
        unfold isName at h
        simp at h
        exact h.2.2
      have b6 : B.length ≤ 6 := by
        have o3' := o3
        unfold okBoxes at o3'
        simp at o3'
        exact o3'.1
      rw [hk]
      refine ⟨?_, b6, rs.p50, fun x hx => nm (rs.pn x hx), fun c f hf => ?_, fun m hm => nm (rs.mv m hm).to, fun m hm => ?_⟩
      · unfold okLetters at o1
        simp at o1
        exact o1.2.2.1
      · have hc : c ∈ st.es.map (·.1) := Decidable.byContradiction fun z => by
          rw [getF_none z] at hf
          cases hf
        obtain ⟨f', e1, e2⟩ := getF_some hc
        rw [hf] at e1
        cases e1
        exact (rs.en _ e2).2.1
      · have f := rs.mv m hm
        have one := okFils_ones f.ok
        have l6 : m.fl.length ≤ 6 := by
          have h3 : ∀ x ∈ m.fl.map (·.1), x ∈ B.map fun b => [b] := fun x hx => by
            have h4 := f.ok
            unfold okFils okKeys at h4
            rw [Bool.and_eq_true] at h4
            exact of_decide_eq_true (List.all_eq_true.mp h4.1 x hx)
          have := sub_len f.nd h3
          rw [List.length_map, List.length_map] at this
          omega
        have hv : ∀ q ∈ m.fl, q.2.length ≤ 1000 := fun q hq => Nat.le_trans (len_flat (List.mem_map.mpr ⟨q, hq, rfl⟩)) f.fl
        refine ⟨l6, fun q hq => ⟨?_, hv q hq⟩, ?_⟩
        · obtain ⟨b, e⟩ := one q hq
          rw [e]
          show 1 ≤ 1000
          decide
        · rw [fillWords_len one]
          have := f.fl
          omega
section
variable {P : Program} {w : World} {K : PySem.W.Frag} {mg : Str → Option Value} {base : Heap}
def spTried4 : Sp := fun vs H Q _ => ∃ cs : List Nat, vs = [.str (S cs)] ∧ TxB cs ∧ ∀ T H', Same H H' → H' T = some (.tup (triedV cs)) → Q (.ref T) H'
theorem ok_tried4 {f C BT : Addr} {fd : FuncData} (F : Fun K "_law_tried" "_law_tried" sLTried f fd) (T : PrTxt K mg C) (N : BtEx K mg BT) (MT : Mth P w K mg base C 3 "text" [] (spText C)) (MP : CmX P w K mg base C 7 "parse" (spPax C BT)) : FnOk P w K mg base CX0 8 f fd ["_law_text"] spTried4 := by
  refine F.ok scTried4 (fun vs H Q E h => ?_) (fun cdv A outer s H vs Q E hr h => ?_)
  · obtain ⟨cs, rfl, _⟩ := h
    rfl
  · obtain ⟨cs, rfl, hb, q⟩ := h
    refine ⟨_, pss_cons (ps_set (i := 1) scTried4.nd rfl (.inl rfl) (pe_tupS (pa_cons pe_str (pa_cons pe_int pa_nil))))
      (pss_cons (ps_try_as (i := 2) (c := .ref BT) (Wout := fun _ _ _ _ => False)
        (tb := fun W D σ H => ∃ Ech : XK, (∀ cls d σ' H', Ech cls d H' → σ'.length = 3 → W cls d σ' H') ∧ (tAsg (tTupS (tCons (tC (.str "told")) (tCons (tMeth C "text" (spText C) [] E0 (ClX.tCMeth C (spPax C BT) Ech (tC (.ref C)) (tCons (tVar 0) tNil)) tNil) tNil))) (gName 1)) D σ H)
        (ts := fun a cls d => tAsg (tTupS (tCons (tC (.str "line")) (tCons (tXf a cls d BT "line" (tVar 2)) tNil))) (gName 1))
        rfl rfl scTried4.nd rfl rfl ⟨rfl, by decide, .inl N.m1⟩ L2.takes0 (fun W pn xe tk _ => ?_) (fun a oe cls d pn hz hf => ?_))
      (pss_one (ps_ret (pv 1)))), ?_⟩
    · refine ⟨fun pins s' σ H' D I h' => ?_⟩
      obtain ⟨Ech, hW, h2⟩ := h'
      exact (pss_one (ps_set (i := 1) scTried4.nd rfl (.inl rfl) (pe_tupS (pa_cons pe_str (pa_cons (pe_mth0 MT T.cl (j := 7) hr (pe_cmX (E := Ech) MP (j := 7) hr (passes_call (takes_len tk) hW) (pe_glob (v := .ref C) (by rfl) T.mgC rfl) (pa_cons (pv 0) pa_nil))) pa_nil))))).run pins s' σ H' D I h2
    · exact pss_one (ps_set (i := 1) scTried4.nd rfl (.inl rfl) (pe_tupS (pa_cons pe_str (pa_cons (pe_xf N.xf N.nf hz hf (pv 2)) pa_nil))))
    · refine ⟨by show 2 ≤ sizeLine; decide, fun T0 H1 s1 n1 e1 => ?_⟩
      refine ⟨fun cls d H' => ∀ σ' : L2.St, σ'.length = 3 → wAs K (.ref BT) 2 _ _ _ cls d σ' H', fun cls d σ' H' hE l => hE σ' l, ⟨rfl, _, rfl, cs, rfl, hb, ?_⟩⟩
      unfold triedV at q
      cases hp : paF cs with
      | inl n =>
        rw [hp] at q
        intro d H2 s2 n2 e2 σ' l
        obtain ⟨a0, a1, a2, rfl⟩ := three l
        refine ⟨true, N.x1, fun _ a na => ⟨_, rfl, rfl, rfl, d, _, .int n, rfl, e2, rfl, by show 2 ≤ sizeLine; decide, fun T H3 s3 n3 e3 => ?_⟩, fun z => nomatch z⟩
        exact ⟨_, rfl, q T H3 (s1.trans (s2.trans s3)) e3⟩
      | inr z =>
        obtain ⟨L, B, st⟩ := z
        rw [hp] at q
        intro p H2 s2 n2 pa
        obtain ⟨dx, pl, mv, en, kk, h1, h2, h3, h4, h5⟩ := id pa.ob
        refine ⟨p, dx, _, rfl, h1, fl_no _ _ _ _ _ (by decide +kernel), p, _, _, _, _, _, rfl, pa, Rs_tx hb hp, fun H3 s3 => ?_⟩
        rw [text_back hb hp]
        exact ⟨by show 2 ≤ sizeLine; decide, fun T H4 s4 n4 e4 => ⟨_, rfl, q T H4 (s1.trans (s2.trans (s3.trans s4))) e4⟩⟩
end
end Tb

set_option Elab.async false
set_option linter.all false
set_option maxRecDepth 100000
set_option maxHeartbeats 4000000
namespace Tb
open PySem PySem.Spec PyProof.Rows L2 TL
/-! ### a list comprehension with a test over anything that is walked -/
section
variable {te : TE} {tt : TT} {vs : List Nat} {σ : L2.St} {H1 : Hp} {D : Addr} {Qd : Hp → Prop} {sl : Nat} {J : It} {n : Nat} {G : Hp → Prop} {Y : Nat → Hp → V → Hp → Prop}
theorem lc_filtW {xs : List V} (keep : V → Bool) (g : V → V) (w : Walk J n G Y) (hn : n = xs.length) (hY : ∀ i H x H', Y i H x H' → H' = H ∧ xs[i]? = some x) (hG : ∀ H', Same H1 H' → G H') (nD : H1 D = none) (hl : xs.length < sizeLine)
    (ht : ∀ x ∈ xs, ∀ H' (R : Bool → Hp → Prop), Same H1 H' → R (keep x) H' → tt ((wipe σ vs).set sl (some x)) H' R)
    (he : ∀ x ∈ xs, keep x = true → ∀ H' (R : VK), Same H1 H' → (∀ H'', Same H' H'' → R (g x) H'') → te ((wipe σ vs).set sl (some x)) H' R)
    (hd : ∀ H', Same H1 H' → H' D = some (.lst ((xs.filter keep).map g)) → Qd H') (hw : ∀ x, wipe ((wipe σ vs).set sl (some x)) vs = wipe σ vs := by intro _; rfl) :
    ∃ W : Nat → Nat → Hp → Prop, (∃ m, W 0 m (upd H1 D (.lst []))) ∧ ∀ i m H, W i m H →
      (J.stop i H ∧ Qd H) ∨ (J.go i H ∧ ∃ Nx : Hp → Prop, (∀ H', Nx H' → ∃ m', m' < m ∧ W (i + 1) m' H') ∧ ∀ x H', J.yld i H x H' → gName sl x (wipe σ vs) H' fun σ2 H2 => wipe σ2 vs = wipe σ vs ∧ tt σ2 H2 fun b H3 =>
        if b = true then te σ2 H3 fun y H4 => ∃ acc, H4 D = some (.lst acc) ∧ acc.length < sizeLine ∧ Nx (upd H4 D (.lst (acc ++ [y]))) else Nx H3) := by
  refine lc_it w (fun i H => Same H1 H ∧ H D = some (.lst (((xs.take i).filter keep).map g))) ⟨same_upd nD, upd_same⟩ (fun i H _ h => hG H h.1) ?_ ?_
  · rintro i x H H' hi ⟨s, e⟩ y
    obtain ⟨rfl, hx⟩ := hY _ _ _ _ y
    have hm := List.mem_of_getElem? hx
    have et : xs.take (i + 1) = xs.take i ++ [x] := by
      rw [List.take_add_one, hx]
      rfl
    refine ⟨hw _, tif (k := keep x) (fun R r => ht x hm _ R s r) (fun hk => he x hm hk _ _ s fun H2 s2 => ⟨_, s2 _ _ e, ?_, fun b o eb => ?_, ?_⟩) (fun hk => ⟨s, ?_⟩)⟩
    · rw [List.length_map]
      refine Nat.lt_of_le_of_lt (List.length_filter_le _ _) ?_
      rw [List.length_take]
      exact Nat.lt_of_le_of_lt (Nat.min_le_right _ _) hl
    · rw [upd_ne (ne_of_none eb nD)]
      exact s2 _ _ (s _ _ eb)
    · rw [upd_same, et, List.filter_append, List.map_append]
      simp only [List.filter_cons, hk, if_true, List.filter_nil]
      rfl
    · rw [e, et, List.filter_append]
      simp [List.filter_cons, hk]
  · rintro H ⟨s, e⟩
    subst hn
    rw [List.take_length] at e
    exact hd H s e
end
end Tb

set_option Elab.async false
set_option linter.all false
set_option maxRecDepth 100000
set_option maxHeartbeats 4000000
/-! _law_is_name -/
namespace Tb
open PySem PySem.Spec PyProof.Rows L2 TL
section
variable {P : Program} {w : World} {K : PySem.W.Frag} {mg : Str → Option Value} {base : Heap}
abbrev nLIsName : List Str := ["_law_value", "_law_sign"]
theorem scLIsName : FnScope nLIsName ["_law_value"] (defScope sLIsName) := ⟨rfl, rfl, rfl, by decide +kernel, rfl, by decide +kernel, by decide +kernel⟩
def spLName : Sp := fun vs H Q _ => ∃ cs : List Nat, vs = [.str (S cs)] ∧ cs.length ≤ 1000 ∧ ∀ H', Same H H' → Q (.bl (isName cs)) H'
theorem ok_lname {f : Addr} {fd : FuncData} {k : Nat} (F : Fun K "_law_is_name" "_law_is_name" sLIsName f fd) (ma : mg "all" = none) (ml : mg "len" = none) : FnOk P w K mg base CX0 (k + 1) f fd ["_law_value"] spLName := by
  refine F.ok scLIsName (fun vs H Q E h => ?_) (fun cdv A outer s H vs Q E hr h => ?_)
  · obtain ⟨cs, rfl, _⟩ := h
    rfl
  · obtain ⟨cs, rfl, hl, q⟩ := h
    refine ⟨_, pss_one (ps_ret (pe_and (pe_chain op_le op_le pe_int (pe_callB call_len_str (by rfl) ml PySem.boot_len (pa_cons (pv 0) pa_nil)) pe_int) (pe_one (pe_callB (cr_all rfl) (by rfl) ma (by decide +kernel) (pa_cons (pe_lc (own := [("_law_sign", 1)]) (g := gName 1) (tt := tYes) (te := tOp (fun x y H Q => ∃ (c : Nat) (z : Str), x = .str ⟨#[c]⟩ ∧ y = .str z ∧ Q (.bl (decide (c ∈ z.cps.toList))) H) (tVar 1) (tC (.str (Str.ofString "abcdefghijklmnopqrstuvwxyz")))) rfl scLIsName.nd
          (pi_str (pv 0)) (blkOk_by (own := [("_law_sign", 1)]) (N := nLIsName) (sc := defScope sLIsName) (by decide +kernel)) (fun _ _ _ _ _ => pg_name (i := 1) scLIsName.nd rfl (.inl rfl)) (fun _ _ _ _ _ => pts_nil) (fun _ _ _ _ _ => pe_cmpR op_in_sign (pv 1) pe_str (by rfl))) pa_nil))))), ?_⟩
    have fin : ∀ {H'}, Same H H' → ∀ c : Bool, (c = true ↔ isName cs = true) → Q (.bl c) H' := fun s' c z => by
      have := q _ s'
      rw [show isName cs = c from (Bool.eq_iff_iff.mpr z).symm] at this
      exact this
    have rf : Same H H := fun _ _ h => h
    refine ⟨_, rfl, S cs, rfl, by rw [len_S]; exact Nat.le_trans hl (by decide), _, _, rfl, rfl, decide (1 ≤ cs.length), ?_, ?_⟩
    · rw [len_S]
      refine congrArg V.bl ?_
      rw [decide_eq_decide]
      omega
    by_cases h1 : 1 ≤ cs.length
    case neg =>
      rw [decide_eq_false h1]
      refine iteF ⟨false, rfl, iteF (fin rf false ?_)⟩
      unfold isName
      simp [h1]
    rw [decide_eq_true h1]
    refine iteT ⟨_, _, rfl, rfl, decide (cs.length ≤ 8), ?_, ?_⟩
    · rw [len_S]
      refine congrArg V.bl ?_
      rw [decide_eq_decide]
      omega
    by_cases h2 : cs.length ≤ 8
    case neg =>
      rw [decide_eq_false h2]
      refine iteF (fin rf false ?_)
      unfold isName
      simp [h2]
    rw [decide_eq_true h2]
    refine iteT ⟨_, rfl, S cs, rfl, fun D nD => lc_mapS (cs := cs) (fun c => .bl (isLow c)) nD (Nat.lt_of_le_of_lt hl (by decide)) ?_ ?_⟩
    · intro c hc H' R s' r
      refine ⟨_, rfl, c, _, rfl, rfl, ?_⟩
      rw [az_str]
      show R (.bl (decide (c ∈ az))) H'
      rw [low_az]
      exact r
    · intro H' s' e'
      refine ⟨D, cs.map isLow, rfl, SqL.of (by rw [e', List.map_map]; rfl), ?_⟩
      rw [List.all_map, show (id ∘ isLow) = isLow from rfl]
      refine fin s' _ ?_
      unfold isName
      simp [h1, h2]
end
end Tb

set_option Elab.async false
set_option linter.all false
set_option maxRecDepth 100000
set_option maxHeartbeats 4000000
/-! _law_is_filling -/
namespace Tb
open PySem PySem.Spec PyProof.Rows L2 TL
section
variable {P : Program} {w : World} {K : PySem.W.Frag} {mg : Str → Option Value} {base : Heap}
abbrev nLIsFill : List Str := ["_law_value", "_law_boxes", "_law_caps", "_law_sign"]
theorem scLIsFill : FnScope nLIsFill ["_law_value", "_law_boxes"] (defScope sLIsFill) := ⟨rfl, rfl, rfl, by decide +kernel, rfl, by decide +kernel, by decide +kernel⟩
def spLFill : Sp := fun vs H Q _ => ∃ cs bs : List Nat, vs = [.str (S cs), .str (S bs)] ∧ cs.length ≤ 1000 ∧ bs.length ≤ 1000 ∧ ∀ H', Same H H' → Q (.bl (isFill cs bs)) H'
def capV : V → Bool := fun v => match v with | .str x => !isLow ((tl x).headD 0) | _ => false
theorem filt_sgs (cs : List Nat) : (sgs cs).filter capV = sgs (caps cs) := by
  unfold sgs caps
  rw [List.filter_map]
  rfl
theorem ok_lfill {f : Addr} {fd : FuncData} {k : Nat} (F : Fun K "_law_is_filling" "_law_is_filling" sLIsFill f fd) (ma : mg "all" = none) (ml : mg "len" = none) (mt : mg "set" = none) : FnOk P w K mg base CX0 (k + 1) f fd ["_law_value", "_law_boxes"] spLFill := by
  refine F.ok scLIsFill (fun vs H Q E h => ?_) (fun cdv A outer s H vs Q E hr h => ?_)
  · obtain ⟨cs, bs, rfl, _⟩ := h
    rfl
  · obtain ⟨cs, bs, rfl, hl, hb, q⟩ := h
    refine ⟨_, pss_cons (ps_setLc (i := 2) (own := [("_law_sign", 3)]) (g := gName 3) (te := tVar 3) rfl scLIsFill.nd rfl rfl (sw_true rfl rfl (by decide) (by decide))
          (pi_str (pv 0)) (blkOk_by (own := [("_law_sign", 3)]) (N := nLIsFill) (sc := defScope sLIsFill) (by decide +kernel)) (fun _ _ _ _ _ => pg_name (i := 3) scLIsFill.nd rfl (.inl rfl)) (fun _ _ _ _ _ => pts_one (pt_cmpR op_notIn_sign (pv 3) pe_str (by rfl))) (fun _ _ _ _ _ => pv 3))
      (pss_one (ps_ret (pe_and (pe_cmpR op_eq (pe_lenSetS rfl (by rfl) ml (by rfl) mt (pv 2)) (pe_callB call_lenS (by rfl) ml PySem.boot_len (pa_cons (pv 2) pa_nil)) (nomark _)) (pe_one (pe_callB (cr_all rfl) (by rfl) ma (by decide +kernel) (pa_cons (pe_lc (own := [("_law_sign", 3)]) (g := gName 3) (tt := tYes) (te := tOp (fun x y H Q => ∃ (c : Nat) (z : Str), x = .str ⟨#[c]⟩ ∧ y = .str z ∧ Q (.bl (decide (c ∈ z.cps.toList))) H) (tVar 3) (tVar 1)) rfl scLIsFill.nd
          (pi_list (pv 2)) (blkOk_by (own := [("_law_sign", 3)]) (N := nLIsFill) (sc := defScope sLIsFill) (by decide +kernel)) (fun _ _ _ _ _ => pg_name (i := 3) scLIsFill.nd rfl (.inl rfl)) (fun _ _ _ _ _ => pts_nil) (fun _ _ _ _ _ => pe_cmpR op_in_sign (pv 3) (pv 1) (by rfl))) pa_nil)))))), ?_⟩
    have big : (1000000 : Nat) ≤ sizeLine := by rw [sizeLine_eq]; decide
    have lsg : (sgs cs).length = cs.length := List.length_map _
    refine ⟨_, rfl, S cs, rfl, fun D nD => lc_filtW (xs := sgs cs) capV id (walk_str (z := S cs)) (by rw [lsg]; rfl) ?_ (fun _ _ => trivial) nD (by rw [lsg]; omega) ?_ ?_ ?_⟩
    · rintro i H1 x H2 ⟨rfl, c, hc, rfl⟩
      refine ⟨rfl, ?_⟩
      rw [show (S cs).cps = cs.toArray from rfl, List.getElem?_toArray] at hc
      unfold sgs
      rw [List.getElem?_map, hc]
      rfl
    · intro x hx H' R s' r
      obtain ⟨c, hc, rfl⟩ := List.mem_map.mp hx
      refine ⟨_, rfl, c, _, rfl, rfl, !decide (c ∈ az), ?_, ?_⟩
      · rw [az_str]
        rfl
      · rw [low_az]
        exact r
    · intro x hx hk H' R s' r
      exact ⟨_, rfl, r _ (fun _ _ h => h)⟩
    · intro H1 s1 e1
      rw [filt_sgs, List.map_id] at e1
      have lc : (caps cs).length ≤ 1000 := Nat.le_trans (List.length_filter_le _ _) hl
      have lcs : (sgs (caps cs)).length = (caps cs).length := List.length_map _
      have ex : sgs (caps cs) = ((caps cs).map fun c => S [c]).map V.str := by
        unfold sgs
        rw [List.map_map]
        rfl
      refine ⟨_, rfl, .inl ⟨D, (caps cs).map fun c => S [c], rfl, by rw [← ex]; exact .inl (SqL.of e1), by rw [List.length_map]; exact lc, _, rfl, D, sgs (caps cs), rfl, .inl (SqL.of e1), rfl, decide (caps cs).Nodup, ?_, ?_⟩⟩
      · rw [lcs, show V.int ((caps cs).length : Int) = num (caps cs).length from rfl, num_eq]
        refine congrArg V.bl ?_
        rw [decide_eq_decide]
        have h := dedS_iff ((caps cs).map fun c => S [c])
        rw [List.length_map] at h
        exact h.trans nodup_S1
      have hq := q
      unfold isFill at hq
      by_cases h1 : (caps cs).Nodup
      case neg =>
        rw [decide_eq_false h1] at hq ⊢
        exact iteF (hq _ s1)
      rw [decide_eq_true h1] at hq ⊢
      refine iteT ⟨_, rfl, D, rfl, ⟨_, SqL.of e1⟩, fun D2 nD2 => lc_mapL (K := K) (fun v => .bl (decide (((match v with | .str x => tl x | _ => []).headD 0) ∈ bs))) (SqL.of e1) nD2 (by rw [lcs]; omega) ?_ ?_⟩
      · intro x hx H' R s' r
        obtain ⟨c, hc, rfl⟩ := List.mem_map.mp hx
        exact ⟨_, rfl, _, rfl, c, S bs, rfl, rfl, r⟩
      · intro H' s' e'
        refine ⟨D2, (caps cs).map fun c => decide (c ∈ bs), rfl, SqL.of (by rw [e']; unfold sgs; rw [List.map_map, List.map_map]; rfl), ?_⟩
        rw [List.all_map]
        exact hq _ (s1.trans s')
end
end Tb

set_option Elab.async false
set_option linter.all false
set_option maxRecDepth 100000
set_option maxHeartbeats 4000000
/-! a set of texts whose table rises and is led: made out of a list or a text, and sorted -/
namespace Ts
open PySem PySem.Spec PySem.Calls PyProof.Rows
def SetQ (P : Program) (w : World) (h : Heap) (a : Addr) (S : Str → Bool) (n : Nat) : Prop :=
  ∃ o es ep t, h.get? a = some o ∧ o.ExactSet ∧ o.data = .set es ep t ∧ ElemsOf (PySem.strKind P w) es.toList ∧ (∀ k, S k = true ↔ ∃ e ∈ es.toList, (PySem.strKind P w).is k e.2 = true) ∧ es.size < scanBound ∧ t.fits es.size = true ∧ es.size = n ∧
    L2.Ris t.place.toList ∧ (w.params.followText "set-order" = true ∨ t.led = true)
section
variable {P : Program} {w : World} {A : Around} {E : Value → Shared → Prop} {s : Shared} {a : Addr} {S : Str → Bool} {n : Nat}
theorem SetQ.of {h : Heap} (R : SetQ P w h a S n) : h.SetOf (PySem.strKind P w) a S n := by
  obtain ⟨o, es, ep, t, ho, hex, hd, hel, hm, hb, hf, hn, _⟩ := R
  exact ⟨o, es, ep, t, ho, hex, hd, hel, hm, hb, hf, hn⟩
theorem SetQ.at {h h' : Heap} (R : SetQ P w h a S n) (k : ∀ o, h.get? a = some o → h'.get? a = some o) : SetQ P w h' a S n := by
  obtain ⟨o, es, ep, t, ho, r⟩ := R
  exact ⟨o, es, ep, t, k o ho, r⟩
theorem SetQ.congr {h : Heap} {S' : Str → Bool} {n' : Nat} (R : SetQ P w h a S n) (e : ∀ k, S' k = S k) (en : n' = n) : SetQ P w h a S' n' := by
  rw [show S' = S from funext e, en]
  exact R
/-- behind the laying of the new one -/
theorem setQ_tail {g : Bool → Sem Unit} (hg : ∀ (b : Bool) (s₁ : Shared) (Q' : Unit → Shared → Prop), Q' () s₁ → wpAny (model P w) A (g b) Q' E s₁)
    {o : Obj} {es : Array (Int × Value)} {ep : Nat} {t : SetTable} (ho : s.heap.get? a = some o) (hex : o.ExactSet) (hd : o.data = .set es ep t)
    {es1 : Array (Int × Value)} {t2 : SetTable} {S' : Str → Bool} (hel : ElemsOf (PySem.strKind P w) es1.toList) (hm : ∀ k, S' k = true ↔ ∃ e ∈ es1.toList, (PySem.strKind P w).is k e.2 = true)
    (hb1 : es1.size < scanBound) (hf2 : t2.fits es1.size = true) (hr : L2.Ris t2.place.toList) (hl : w.params.followText "set-order" = true ∨ t2.led = true) {wasDummy : Bool} {R : Option Bool → Shared → Prop}
    (hR : ∀ h', Heap.SameBut a s.heap h' → SetQ P w h' a S' es1.size → R (some true) { s with heap := h' }) :
    wpAny (model P w) A (do
        storeSet a es1 t2
        if (!wasDummy && t2.tooFull) = true then do
            g (relayAll t2 es1 (SetTable.grown es1.size)).2.2
            storeSet a (relayAll t2 es1 (SetTable.grown es1.size)).1 (relayAll t2 es1 (SetTable.grown es1.size)).2.1
            pure (some true)
          else pure (some true)) R E s := by
  refine wpAny_bind (wpAny_storeSet_of ho hd ?_ (fits_of_scanBound hb1))
  have o1 := L2.store_at (es' := es1) (t' := t2) ho hd
  have b1 := Heap.SameBut.update s.heap a (Obj.putSet es1 t2)
  split
  · have z1 := relayAll_perm t2 es1 (SetTable.grown es1.size)
    have z2 := relayAll_fits t2 es1 (SetTable.grown es1.size)
    have z3 := L2.relayAll_ris t2 es1 (SetTable.grown es1.size)
    have z4 := L2.relayAll_led t2 es1 (SetTable.grown es1.size)
    generalize relayAll t2 es1 (SetTable.grown es1.size) = z at z1 z2 z3 z4 ⊢
    obtain ⟨e2, u2, y⟩ := z
    dsimp only at z1 z2 z3 z4 ⊢
    have hsz : e2.size = es1.size := by
      have := z1.length_eq
      rwa [Array.length_toList, Array.length_toList] at this
    have hb2 : e2.size < scanBound := hsz ▸ hb1
    refine wpAny_bind (hg _ _ _ (wpAny_bind (wpAny_storeSet_of o1 rfl ?_ (fits_of_scanBound hb2))))
    refine wpAny_pure (hR _ (b1.trans (Heap.SameBut.update _ a _)) ⟨_, e2, _, u2, L2.store_at (es' := e2) (t' := u2) o1 rfl, hex, rfl, hel.perm z1, fun k => (hm k).trans ?_, hb2, z2, hsz, z3, hl.imp id fun y => z4.trans y⟩)
    exact ⟨fun ⟨e, h1, h2⟩ => ⟨e, z1.mem_iff.mpr h1, h2⟩, fun ⟨e, h1, h2⟩ => ⟨e, z1.mem_iff.mp h1, h2⟩⟩
  · exact wpAny_pure (hR _ b1 ⟨_, es1, _, t2, o1, hex, rfl, hel, hm, hb1, hf2, rfl, hr, hl⟩)
theorem setQ_put {k : Str} {tk : Tok} {Q : Bool → Shared → Prop} (R : SetQ P w s.heap a S n) (room : n + 1 < scanBound)
    (hQ : ∀ h', Heap.SameBut a s.heap h' → SetQ P w h' a (fun j => S j || decide (j = k)) (if S k = true then n else n + 1) → Q (!S k) { s with heap := h' }) :
    wpAny (model P w) A (setAddHashed a (.str k tk) ((PySem.strKind P w).hash k)) Q E s := by
  obtain ⟨o, es, ep, t, ho, hex, hd, hel, hm, hb, hf, hn, hr, hl⟩ := R
  have ky : (PySem.strKind P w).is k (.str k tk) = true := strKind_is P w k tk
  have sc : (Value.str k tk).scannable = true := rfl
  unfold setAddHashed setAddHashedIn
  refine wpAny_holding (wpAny_bind (wpAny_setState_of ho hd hf ?_))
  dsimp only
  rw [byScan_of sc hb hel]
  simp only [↓reduceIte]
  unfold setAddByScan
  refine wpAny_bind (wpAny_bind (wpAny_rule (wpAny_bind (wpAny_setScan_of ky ho hd hf hel ?_))))
  cases hfi : List.findIdx? (fun e => (PySem.strKind P w).is k e.2) es.toList with
  | some j =>
    dsimp only
    obtain ⟨hj, pj, _⟩ := List.findIdx?_eq_some_iff_getElem.mp hfi
    have hk : S k = true := (hm k).2 ⟨es.toList[j], List.getElem_mem hj, pj⟩
    have q := hQ s.heap (Heap.SameBut.refl a s.heap)
    rw [hk] at q
    refine wpAny_pure (wpAny_pure (q ⟨o, es, ep, t, ho, hex, hd, hel, fun i => ?_, hb, hf, hn, hr, hl⟩))
    rw [Bool.or_eq_true, decide_eq_true_eq, ← hm i]
    exact ⟨fun z => z.elim id fun e => e ▸ hk, .inl⟩
  | none =>
    dsimp only
    have hk : S k = false := Bool.eq_false_iff.mpr fun z => by
      obtain ⟨e, he, q⟩ := (hm k).1 z
      have c := List.findIdx?_eq_none_iff.mp hfi e he
      rw [q] at c
      cases c
    have gave : ∀ (b : Bool) {s₁ : Shared} {Q' : Unit → Shared → Prop}, Q' () s₁ → wpAny (model P w) A (match b with | true => rule "set.scan.the-table-gave-way" | false => pure ()) Q' E s₁ :=
      fun b s₁ Q' q => by cases b <;> first | exact wpAny_pure q | exact wpAny_rule q
    have z1 := layNew_perm t es ((PySem.strKind P w).hash k) (.str k tk)
    have z2 := layNew_fits t es ((PySem.strKind P w).hash k) (.str k tk)
    have z3 := L2.layNew_ris t es ((PySem.strKind P w).hash k) (.str k tk) hr
    have z4 := L2.layNew_led t es ((PySem.strKind P w).hash k) (.str k tk)
    generalize layNew t es ((PySem.strKind P w).hash k) (.str k tk) = z at z1 z2 z3 z4 ⊢
    obtain ⟨e1, u1, dm, gv⟩ := z
    dsimp only at z1 z2 z3 z4 ⊢
    rw [Array.toList_push] at z1
    have el1 : ElemsOf (PySem.strKind P w) e1.toList := (hel.push ky sc).perm z1
    have m1 : ∀ k', (S k' || decide (k' = k)) = true ↔ ∃ e ∈ e1.toList, (PySem.strKind P w).is k' e.2 = true := mem_push_iff ky hm z1
    have hsz : e1.size = n + 1 := by
      have := z1.length_eq
      rw [List.length_append, Array.length_toList, Array.length_toList, hn] at this
      exact this
    have hb1 : e1.size < scanBound := hsz ▸ room
    have ld : w.params.followText "set-order" = true ∨ u1.led = true := hl.imp id fun y => z4.trans y
    have fin : ∀ h', Heap.SameBut a s.heap h' → SetQ P w h' a (fun j => S j || decide (j = k)) e1.size → Q true { s with heap := h' } := fun h' sb r => by
      have q := hQ h' sb
      rw [hk] at q
      rw [hsz] at r
      exact q r
    refine wpAny_bind (gave _ ?_)
    split
    · refine wpAny_bind ?_
      rw [hashByValue_scannable 8 sc]
      refine wpAny_pure ?_
      refine setQ_tail ?_ ho hex hd el1 m1 hb1 ?_ ?_ ?_ ?_
      · intro b s₁ Q' q
        cases b <;> first | exact wpAny_pure q | exact wpAny_rule q
      · first | (split <;> first | exact z2 | exact SetTable.fits_plain_off z2) | exact z2
      · first | (split <;> exact z3) | exact z3
      · first | (split <;> exact ld) | exact ld
      · intro h' sb r
        dsimp only
        exact wpAny_pure (fin h' sb r)
    · refine wpAny_bind (wpAny_pure ?_)
      simp only [↓reduceIte]
      refine setQ_tail ?_ ho hex hd el1 m1 hb1 z2 z3 ld ?_
      · intro b s₁ Q' q
        cases b <;> first | exact wpAny_pure q | exact wpAny_rule q
      · intro h' sb r
        dsimp only
        exact wpAny_pure (fin h' sb r)
end
section
variable {prog : Program} {w : World} {A : Around} {R : Result → Shared → Prop} {I : Addr} {fp wr : List Addr} {G : Array GenState → Array GenState → Prop} {n : Nat} {P : Nat → Value → Prop} {St : Nat → Shared → Prop}
theorem loopQ (W : WalksS prog w A.in1 I fp wr G n P St) (b0 : Addr) (hfp : b0 ∉ fp) (val : Nat → Str) (hval : ∀ i v, P i v → ∃ t, v = .str (val i) t) (hb : n + 1 < scanBound) :
    ∀ (k i : Nat) (s : Shared), n - i = k → i ≤ n → St i s → SetQ prog w s.heap b0 (fun k' => (metS val i).any (· == k')) (metS val i).length →
      (∀ s', Moved (b0 :: wr) G s s' → SetQ prog w s'.heap b0 (fun k' => (metS val n).any (· == k')) (metS val n).length → R (.ok (.ret .none)) s') →
      codeAny (model prog w) A (.builtin "set.update.loop" ⟨[.ref b0, .ref I], []⟩) R s := by
  have hwr : b0 ∉ wr := fun h => hfp (W.sub _ h)
  have sub : ∀ b ∈ wr, b ∈ b0 :: wr := fun b h => List.mem_cons_of_mem _ h
  intro k
  induction k with
  | zero =>
    intro i s hk hi hst hS hR
    have hin : i = n := by omega
    subst hin
    refine codeAny_builtin PyProof.Rows.F.entry_set_update_loop ?_
    rw [Around.under_plainId PyProof.Rows.F.plain_set_update_loop _]
    show wpAny _ A.in1 (pyNext (.ref I) >>= _) _ _ s
    refine wpAny_bind (W.done s _ _ hst fun s' hm => ?_)
    show wpAny _ A.in1 (ret Value.none) _ _ s'
    exact wpAny_pure (hR s' (hm.mono sub) (hS.at fun o ho => hm.heap b0 _ hwr ho))
  | succ k ih =>
    intro i s hk hi hst hS hR
    have hlt : i < n := by omega
    refine codeAny_builtin PyProof.Rows.F.entry_set_update_loop ?_
    rw [Around.under_plainId PyProof.Rows.F.plain_set_update_loop _]
    show wpAny _ A.in1 (pyNext (.ref I) >>= _) _ _ s
    refine wpAny_bind (W.item i s _ _ hlt hst fun v s' hP hst' hm => ?_)
    obtain ⟨t, rfl⟩ := hval i v hP
    have hS1 : SetQ prog w s'.heap b0 (fun k' => (metS val i).any (· == k')) (metS val i).length := hS.at fun o ho => hm.heap b0 _ hwr ho
    show wpAny _ A.in1 (holding [Value.str (val i) t] (setAdd b0 (.str (val i) t)) >>= _) _ _ s'
    refine wpAny_bind (wpAny_holding ?_)
    unfold setAdd
    refine wpAny_holding ?_
    refine wpAny_bind ((PySem.strKind prog w).pyHash (k := val i) (strKind_is _ _ _ _) ?_)
    have room : (metS val i).length + 1 < scanBound := by
      have := metS_le val i
      omega
    refine setQ_put (s := { s' with toks := s'.toks + 1 }) hS1 room fun h' hsb hS2 => ?_
    have hSi : SetQ prog w h' b0 (fun k' => (metS val (i + 1)).any (· == k')) (metS val (i + 1)).length :=
      hS2.congr (fun k' => by rw [metS_succ, stepS_any]) (by rw [metS_succ, stepS_len])
    refine wpAny_pure ⟨plainId_quiet PyProof.Rows.F.plain_set_update_loop _, ih (i + 1) _ (by omega) hlt (W.frame _ s' _ _ hst' (Nat.le_succ _) fun b hbf o e => ?_) hSi fun s2 hm2 hS2' => ?_⟩
    · rw [hsb.2 b (fun h : b = b0 => hfp (by rw [← h]; exact hbf))]
      exact e
    · refine hR s2 (Moved.trans W.gtrans ((hm.mono sub).then_heap (Nat.le_succ _) fun b o hbw e => ?_) hm2) hS2'
      rw [hsb.2 b (fun h : b = b0 => hbw (by rw [h]; exact List.mem_cons_self))]
      exact e
end
section
variable {prog : Program} {w : World} {A : Around} {E : Value → Shared → Prop} {s : Shared}
abbrev ledSet (w : World) : Obj := newSet (!w.params.followText "set-order")
theorem setQ_fresh {h : Heap} : SetQ prog w (h.push (ledSet w)) h.objs.size (fun _ => false) 0 :=
  ⟨_, #[], 0, _, Heap.get?_push_size _ rfl, ⟨rfl, rfl, rfl⟩, rfl, (fun e he => by simp at he), (fun k => by simp), (by decide), (by rfl), rfl, List.Pairwise.nil, by
    show _ ∨ (!w.params.followText "set-order") = true
    cases w.params.followText "set-order"
    · exact .inr rfl
    · exact .inl rfl⟩
theorem code_set_led1 (a : Value) {Q₁ : Value → Shared → Prop} (h : Q₁ (.ref s.heap.objs.size) { s with heap := s.heap.push (ledSet w) }) :
    codeAny (model prog w) A (.call (.builtin "set.__new__") ⟨[.type "set", a], []⟩) (wants Q₁ E) s := by
  refine codeAny_of_tree ?_
  show wpAny _ A.in1 (do checkBuiltinCall "set.__new__" ⟨[.type "set", a], []⟩; again (.builtin "set.__new__" ⟨[.type "set", a], []⟩)) _ _ s
  refine wpAny_bind (wpAny_of_eq (PySem.F.newCall_set_1 a) (wpAny_pure ⟨plainId_quiet PySem.F.plain_set_new _, codeAny_builtin PySem.F.entry_set_new ?_⟩))
  rw [Around.under_plainId PySem.F.plain_set_new _]
  unfold Builtin.«set.__new__» Builtin.Frozenset.newClass
  have hsub := sub_set_self
  obtain ⟨hp, g, d, tk, os⟩ := s
  dsimp only
  wp_walk
  refine wpAny_askSetting (wpAny_pure ?_)
  dsimp only
  simp only [newObj]
  refine wpAny_bind (wpAny_alloc (wpAny_pure ?_))
  exact wpAny_pure h
end
end Ts

set_option Elab.async false
set_option linter.all false
set_option maxRecDepth 100000
set_option maxHeartbeats 4000000
namespace Ts
open PySem PySem.Spec PySem.Calls PyProof.Rows
section
variable {prog : Program} {w : World} {A : Around} {E : Value → Shared → Prop} {s : Shared}
set_option maxHeartbeats 6400000 in
theorem setQ_list {l : Addr} {items : Array Value} {val : Nat → Str} {Q : Value → Shared → Prop} (hh : A.handled = none) (hl : s.heap.IsList l items) (hi : ∀ (i : Nat) (v : Value), items[i]? = some v → ∃ t, v = .str (val i) t) (hb : items.size + 1 < scanBound)
    (h : ∀ (h' : Heap) (tk : Nat), SetQ prog w h' s.heap.objs.size (fun k' => (metS val items.size).any (· == k')) (metS val items.size).length →
      (∀ b o, b < s.heap.objs.size → s.heap.get? b = some o → h'.get? b = some o) → Q (.ref s.heap.objs.size) { s with heap := h', toks := tk }) :
    wpAny (model prog w) A (call (.type "set") [.ref l]) Q E s := by
  obtain ⟨c, tl, hmro⟩ := PySem.F.called_set.mro
  have hmade := PySem.F.called_set.made
  have hsub := PySem.F.called_set.sub
  refine wpAny_call (codeAny_of_tree ?_)
  show wpAny _ _ (callAny (.type "set") _) _ _ _
  refine wpAny_pure ⟨Code.quiet_builtin _ (by decide +kernel), codeAny_builtin PySem.F.entry_type_call ?_⟩
  rw [Around.under_plain (weight_type_call_type "set" [.ref l] []) rfl]
  have h1 := PySem.F.called_set.notType
  have h2 := PySem.F.called_set.canCreate
  have hct := PySem.F.typeCall_set_1 (.ref l)
  repeat (any_goals (first
    | assumption
    | wp_step))
  refine codeAny_mono (code_set_led1 (.ref l) (E := E) (Q₁ := fun obj s₁ => obj = .ref s.heap.objs.size ∧ s₁ = { s with heap := s.heap.push (ledSet w) }) ⟨rfl, rfl⟩) fun r s₁ hr => ?_
  cases r with
  | error e => exact hr
  | ok fl =>
    cases fl with
    | ret obj =>
      obtain ⟨rfl, rfl⟩ := hr
      have hS : (s.heap.push (ledSet w)).get? s.heap.objs.size = some (ledSet w) := Heap.get?_push_size _ rfl
      have hT : Shared.TypeIs { s with heap := s.heap.push (ledSet w) } (.ref s.heap.objs.size) "set" := ⟨_, hS, rfl⟩
      have hli := PySem.F.called_set.init.lookup
      have hbi := PySem.F.called_set.init.bind (.ref s.heap.objs.size)
      repeat (any_goals (first
        | assumption
        | wp_step))
      refine codeAny_mono (codeAny_call_builtin (R := wants (fun r s₂ => r = .none ∧ ∃ h' tk, s₂ = { s with heap := h', toks := tk } ∧ SetQ prog w h' s.heap.objs.size (fun k' => (metS val items.size).any (· == k')) (metS val items.size).length ∧
          (∀ b o, b < s.heap.objs.size → s.heap.get? b = some o → h'.get? b = some o)) E) PySem.F.called_set.init.plain PySem.F.entry_set_init (check_set_init_1 hT ?_)) fun r₂ s₂ hr₂ => ?_
      · obtain ⟨ol, hol, hcl, nl, hdl⟩ := hl
        obtain ⟨ocls, odict, odata, oslots⟩ := ol
        simp only at hcl hdl
        subst hcl
        subst hdl
        have hol' : (s.heap.push (ledSet w)).get? l = some { cls := .type "list", dict := odict, data := .seq items nl, slots := oslots } := Heap.get?_push_of_some _ hol
        have hsls := PySem.F.sub_list_set
        have hslf := PySem.F.sub_list_frozenset
        have hne : (Value.type "list" == Value.type "dict") = false := by decide
        have hl1 : (s.heap.push (ledSet w)).IsList l items := ⟨_, hol', rfl, nl, rfl⟩
        unfold Builtin.«set.__init__» noKeywords Builtin.Frozenset.updateFrom
        generalize hPI : pyIter = PI
        wp_walk
        subst hPI
        refine wpAny_pyIter_list hl1 ?_
        refine wpAny_bind (wpAny_runValue ?_)
        have hlS : l < s.heap.objs.size := Heap.lt_size hol
        have hh3 : A.in1.in1.in1.handled = none := by simp [hh]
        have sz : (s.heap.push (ledSet w)).objs.size = s.heap.objs.size + 1 := Heap.size_push _ _
        have hneI : l ≠ (s.heap.push (ledSet w)).objs.size := by
          rw [sz]
          exact Nat.ne_of_lt (Nat.lt_succ_of_lt hlS)
        have hSf : s.heap.objs.size ∉ [(s.heap.push (ledSet w)).objs.size, l] := by
          rw [sz]
          simp only [List.mem_cons, List.not_mem_nil, or_false, not_or]
          exact ⟨Nat.ne_of_lt (Nat.lt_succ_self _), Nat.ne_of_gt hlS⟩
        refine loopQ ((Walks.list hh3 _ l hneI items).toS) s.heap.objs.size hSf val hi hb (items.size - 0) 0 _ (by omega) (Nat.zero_le _) ⟨⟨_, Heap.get?_push_size _ rfl, rfl, rfl⟩, (hl1.push _)⟩ ?hS0 ?hR
        case hS0 =>
          have hget : ((s.heap.push (ledSet w)).push { cls := .type "list_iterator", data := .fields #[.ref l, .int 0 0] }).get? s.heap.objs.size = some (ledSet w) := Heap.get?_push_of_some _ hS
          exact (setQ_fresh (prog := prog) (w := w) (h := s.heap)).at fun o e => Heap.get?_push_of_some _ e
        case hR =>
          intro s' hm hS'
          obtain ⟨h', g', d', tk', os'⟩ := s'
          have eg : g' = s.gens := hm.gens
          have ed : d' = s.drawn := hm.drawn
          have eo : os' = s.os := hm.os
          subst eg
          subst ed
          subst eo
          show wpAny _ _ _ _ _ _
          refine wpAny_pure ?_
          show wpAny _ _ (ret Value.none) _ _ _
          refine wpAny_pure ⟨rfl, h', tk', rfl, hS', fun b o hbs e => ?_⟩
          refine hm.heap b o ?_ (Heap.get?_push_of_some _ (Heap.get?_push_of_some _ e))
          rw [sz]
          simp only [List.mem_cons, List.not_mem_nil, or_false, not_or]
          exact ⟨Nat.ne_of_lt hbs, Nat.ne_of_lt (Nat.lt_succ_of_lt hbs)⟩
      · cases r₂ with
        | error e => exact hr₂
        | ok fl₂ =>
          cases fl₂ with
          | ret r =>
            obtain ⟨rfl, h', tk, rfl, hS', hk'⟩ := hr₂
            repeat (any_goals (first
              | assumption
              | wp_step))
            exact h _ _ hS' hk'
          | _ => exact hr₂.elim
    | _ => exact hr.elim
end
end Ts

set_option Elab.async false
set_option linter.all false
set_option maxRecDepth 100000
set_option maxHeartbeats 4000000
namespace Ts
open PySem PySem.Spec PySem.Calls PyProof.Rows
section
variable {prog : Program} {w : World} {A : Around} {E : Value → Shared → Prop} {s : Shared}
set_option maxHeartbeats 6400000 in
theorem setQ_str {x : Str} {u : Tok} {val : Nat → Str} {Q : Value → Shared → Prop} (hh : A.handled = none) (hi : ∀ (i : Nat) (v : Value), SignAt x i v → ∃ t, v = .str (val i) t) (hb : x.cps.size + 1 < scanBound)
    (h : ∀ (h' : Heap) (tk : Nat), SetQ prog w h' s.heap.objs.size (fun k' => (metS val x.cps.size).any (· == k')) (metS val x.cps.size).length →
      (∀ b o, b < s.heap.objs.size → s.heap.get? b = some o → h'.get? b = some o) → Q (.ref s.heap.objs.size) { s with heap := h', toks := tk }) :
    wpAny (model prog w) A (call (.type "set") [.str x u]) Q E s := by
  obtain ⟨c, tl, hmro⟩ := PySem.F.called_set.mro
  have hmade := PySem.F.called_set.made
  have hsub := PySem.F.called_set.sub
  refine wpAny_call (codeAny_of_tree ?_)
  show wpAny _ _ (callAny (.type "set") _) _ _ _
  refine wpAny_pure ⟨Code.quiet_builtin _ (by decide +kernel), codeAny_builtin PySem.F.entry_type_call ?_⟩
  rw [Around.under_plain (weight_type_call_type "set" [.str x u] []) rfl]
  have h1 := PySem.F.called_set.notType
  have h2 := PySem.F.called_set.canCreate
  have hct := PySem.F.typeCall_set_1 (.str x u)
  repeat (any_goals (first
    | assumption
    | wp_step))
  refine codeAny_mono (code_set_led1 (.str x u) (E := E) (Q₁ := fun obj s₁ => obj = .ref s.heap.objs.size ∧ s₁ = { s with heap := s.heap.push (ledSet w) }) ⟨rfl, rfl⟩) fun r s₁ hr => ?_
  cases r with
  | error e => exact hr
  | ok fl =>
    cases fl with
    | ret obj =>
      obtain ⟨rfl, rfl⟩ := hr
      have hS : (s.heap.push (ledSet w)).get? s.heap.objs.size = some (ledSet w) := Heap.get?_push_size _ rfl
      have hT : Shared.TypeIs { s with heap := s.heap.push (ledSet w) } (.ref s.heap.objs.size) "set" := ⟨_, hS, rfl⟩
      have hli := PySem.F.called_set.init.lookup
      have hbi := PySem.F.called_set.init.bind (.ref s.heap.objs.size)
      repeat (any_goals (first
        | assumption
        | wp_step))
      refine codeAny_mono (codeAny_call_builtin (R := wants (fun r s₂ => r = .none ∧ ∃ h' tk, s₂ = { s with heap := h', toks := tk } ∧ SetQ prog w h' s.heap.objs.size (fun k' => (metS val x.cps.size).any (· == k')) (metS val x.cps.size).length ∧
          (∀ b o, b < s.heap.objs.size → s.heap.get? b = some o → h'.get? b = some o)) E) PySem.F.called_set.init.plain PySem.F.entry_set_init (check_set_init_1 hT ?_)) fun r₂ s₂ hr₂ => ?_
      · have hsls := PySem.F.sub_str_set
        have hslf := PySem.F.sub_str_frozenset
        have hne : (Value.type "str" == Value.type "dict") = false := by decide
        unfold Builtin.«set.__init__» noKeywords Builtin.Frozenset.updateFrom
        generalize hPI : pyIter = PI
        wp_walk
        subst hPI
        refine wpAny_pyIter_str fun oI StI hW hst => ?_
        refine wpAny_bind (wpAny_runValue ?_)
        have hh3 : A.in1.in1.in1.handled = none := by simp [hh]
        have sz : (s.heap.push (ledSet w)).objs.size = s.heap.objs.size + 1 := Heap.size_push _ _
        have hSf : s.heap.objs.size ∉ [(s.heap.push (ledSet w)).objs.size] := by
          rw [sz]
          simp only [List.mem_cons, List.not_mem_nil, or_false]
          exact Nat.ne_of_lt (Nat.lt_succ_self _)
        refine loopQ ((hW _ hh3).toS) s.heap.objs.size hSf val hi hb (x.cps.size - 0) 0 _ (by omega) (Nat.zero_le _) hst ?hS0 ?hR
        case hS0 =>
          have hget : ((s.heap.push (ledSet w)).push oI).get? s.heap.objs.size = some (ledSet w) := Heap.get?_push_of_some _ hS
          exact (setQ_fresh (prog := prog) (w := w) (h := s.heap)).at fun o e => Heap.get?_push_of_some _ e
        case hR =>
          intro s' hm hS'
          obtain ⟨h', g', d', tk', os'⟩ := s'
          have eg : g' = s.gens := hm.gens
          have ed : d' = s.drawn := hm.drawn
          have eo : os' = s.os := hm.os
          subst eg
          subst ed
          subst eo
          show wpAny _ _ _ _ _ _
          refine wpAny_pure ?_
          show wpAny _ _ (ret Value.none) _ _ _
          refine wpAny_pure ⟨rfl, h', tk', rfl, hS', fun b o hbs e => ?_⟩
          refine hm.heap b o ?_ (Heap.get?_push_of_some _ (Heap.get?_push_of_some _ e))
          rw [sz]
          simp only [List.mem_cons, List.not_mem_nil, or_false, not_or]
          exact ⟨Nat.ne_of_lt hbs, Nat.ne_of_lt (Nat.lt_succ_of_lt hbs)⟩
      · cases r₂ with
        | error e => exact hr₂
        | ok fl₂ =>
          cases fl₂ with
          | ret r =>
            obtain ⟨rfl, h', tk, rfl, hS', hk'⟩ := hr₂
            repeat (any_goals (first
              | assumption
              | wp_step))
            exact h _ _ hS' hk'
          | _ => exact hr₂.elim
    | _ => exact hr.elim
end
end Ts

set_option Elab.async false
set_option linter.all false
set_option maxRecDepth 100000
set_option maxHeartbeats 4000000
/-! sorted(set(a)): a a list of texts or a text -/
namespace Tb
open PySem PySem.Spec PyProof.Rows L2 TL
theorem perm_cover {α : Type} [BEq α] [LawfulBEq α] : ∀ {a b : List α}, a.Nodup → (∀ x ∈ a, x ∈ b) → b.length = a.length → b.Perm a
  | [], b, _, _, h => by
    rw [List.length_eq_zero_iff.mp h]
  | x :: a, b, nd, h, hl => by
    have h2 := List.nodup_cons.mp nd
    have hx := h x List.mem_cons_self
    have hp := List.perm_cons_erase hx
    refine hp.trans (List.Perm.cons x (perm_cover h2.2 (fun y hy => ?_) ?_))
    · rw [List.mem_erase_of_ne]
      · exact h y (List.mem_cons_of_mem _ hy)
      · exact fun z => h2.1 (z ▸ hy)
    · have := hp.length_eq
      rw [List.length_cons] at this hl
      omega
theorem perm_same {α : Type} [BEq α] [LawfulBEq α] {a b : List α} (ha : a.Nodup) (hb : b.Nodup) (h : ∀ x, x ∈ a ↔ x ∈ b) : b.Perm a := by
  have len : ∀ {a b : List α}, a.Nodup → (∀ x ∈ a, x ∈ b) → a.length ≤ b.length := by
    intro a
    induction a with
    | nil => exact fun _ _ => Nat.zero_le _
    | cons x a ih =>
      intro b nd h
      have h2 := List.nodup_cons.mp nd
      have hx := h x List.mem_cons_self
      have hp := (List.perm_cons_erase hx).length_eq
      have := ih (b := b.erase x) h2.2 fun y hy => by
        rw [List.mem_erase_of_ne]
        · exact h y (List.mem_cons_of_mem _ hy)
        · exact fun z => h2.1 (z ▸ hy)
      rw [List.length_cons] at hp ⊢
      omega
  exact perm_cover ha (fun x hx => (h x).mp hx) (Nat.le_antisymm (len hb fun x hx => (h x).mpr hx) (len ha fun x hx => (h x).mp hx))
/-- l is sorted(set(l)): strictly ascending -/
theorem sorted_set_iff {l zs : List (List Nat)} (nd : zs.Nodup) (hm : ∀ x, x ∈ zs ↔ x ∈ l) : l = sortL zs ↔ l.Pairwise (· < ·) := by
  constructor
  · intro e
    have hp : l.Perm zs := by
      conv => lhs; rw [e]
      exact sortL_perm zs
    have hl := sortL_le zs
    rw [← e] at hl
    have h1 : l.Pairwise (· ≠ ·) := hp.nodup_iff.mpr nd
    refine (h1.and hl).imp fun {a b} z => ?_
    exact Decidable.byContradiction fun y => z.1 (List.le_antisymm z.2 y)
  · intro h
    have h1 : l.Nodup := h.imp fun {a b} z (y : a = b) => List.lt_irrefl b (by rw [y] at z; exact z)
    exact sortL_of (perm_same nd h1 hm) (h.imp fun {a b} z y => List.lt_irrefl a (List.lt_trans z y))
theorem ones_asc {cs : List Nat} : (cs.map fun c => [c]).Pairwise (· < ·) ↔ cs.Pairwise (· < ·) := by
  rw [List.pairwise_map]
  refine ⟨fun h => h.imp fun {a b} z => ?_, fun h => h.imp fun {a b} z => ?_⟩
  · rcases List.cons_lt_cons_iff.mp z with y | y
    · exact y
    · exact absurd y.2 (List.lt_irrefl [])
  · exact List.cons_lt_cons_iff.mpr (.inl z)
def strV (v : Value) : Str := match v with | .str x _ => x | _ => Str.empty
theorem strs_of : ∀ (l : List Value), (∀ v ∈ l, ∃ k tk, v = Value.str k tk) → StrsAre l (l.map strV)
  | [], _ => .nil
  | v :: l, h => by
    obtain ⟨k, tk, rfl⟩ := h v List.mem_cons_self
    exact .cons k tk (strs_of l fun u hu => h u (List.mem_cons_of_mem _ hu))
theorem ded_nd : ∀ (xs acc : List Str), acc.Nodup → (xs.foldl Ts.stepS acc).Nodup
  | [], acc, h => h
  | x :: r, acc, h => by
    rw [List.foldl_cons]
    refine ded_nd r _ ?_
    unfold Ts.stepS
    split
    · exact h
    · rename_i hx
      rw [List.nodup_append]
      refine ⟨h, by simp, fun a ha b hb => ?_⟩
      rw [List.mem_singleton.mp hb]
      exact fun z => hx (List.any_eq_true.mpr ⟨x, z ▸ ha, beq_self_eq_true x⟩)
theorem ded_mem : ∀ (xs acc : List Str) (y : Str), y ∈ xs.foldl Ts.stepS acc ↔ y ∈ acc ∨ y ∈ xs
  | [], acc, y => by simp
  | x :: r, acc, y => by
    rw [List.foldl_cons, ded_mem r _ y]
    unfold Ts.stepS
    split
    · rename_i hx
      obtain ⟨z, hz, e⟩ := List.any_eq_true.mp hx
      rw [beq_iff_eq.mp e] at hz
      rw [List.mem_cons]
      exact ⟨fun h => h.elim .inl fun h => .inr (.inr h), fun h => h.elim .inl fun h => h.elim (fun e => .inl (e ▸ hz)) .inr⟩
    · rw [List.mem_append, List.mem_singleton, List.mem_cons]
      exact or_assoc
theorem sorted_setQ {P : Program} {w : World} {A : Around} {E : Value → Shared → Prop} {s : Shared} {a : Addr} {S : Str → Bool} {n : Nat} {ks : List Str} {Q : Value → Shared → Prop} (R : Ts.SetQ P w s.heap a S n) (hh : A.handled = none) (h64 : n < 64) (nd : ks.Nodup) (hm : ∀ k, S k = true ↔ k ∈ ks) (hl : ks.length = n)
    (hQ : ∀ s' p (out : Array Value) (c : Nat) (ys : List Str), (∀ b o, s.heap.get? b = some o → s'.heap.get? b = some o) → s'.gens = s.gens → s'.os = s.os → s.heap.objs.size ≤ p →
      s'.heap.get? p = some (seqObj "list" out c) → StrsAre out.toList ys → ys.Perm ks → sortedS ys = true → Q (.ref p) s') :
    wpAny (model P w) A (call (.builtin "sorted") [.ref a]) Q E s := by
  obtain ⟨o, es, ep, t, ho, hex, hd, hel, hmem, hb, hf, hn, hr, hled⟩ := R
  have shp : ∀ v ∈ es.toList.map (·.2), ∃ k tk, v = Value.str k tk := fun v hv => by
    obtain ⟨e, he, rfl⟩ := List.mem_map.mp hv
    obtain ⟨⟨k, hk, _⟩, _⟩ := hel e he
    obtain ⟨tk, e2⟩ := Value.isStrOf_shape hk
    exact ⟨k, tk, e2⟩
  have pk0 : ((es.toList.map (·.2)).map strV).Perm ks := by
    refine perm_cover nd (fun k hk => ?_) (by rw [List.length_map, List.length_map, Array.length_toList, hn, hl])
    obtain ⟨e, he, hi⟩ := (hmem k).mp ((hm k).mpr hk)
    obtain ⟨tk, e2⟩ := Value.isStrOf_shape hi
    refine List.mem_map.mpr ⟨e.2, List.mem_map.mpr ⟨e, he, rfl⟩, ?_⟩
    rw [e2]
    rfl
  refine Calls.call_function_entry PyProof.Rows.kind_sorted PyProof.Rows.plain_sorted PyProof.Rows.entry_sorted (PyProof.Rows.args_sorted1 _) ?_
  unfold Builtin.«sorted»
  refine wpAny_bind (m := checkCount "sorted" 1 1 _) (wpAny_pure ?_)
  refine wpAny_bind (collect_set (A := A.in1) hh ⟨o, ho, hex.1, hd⟩ hf hb hr hled fun s1 vs k1 hz g1 o1 pm => ?_)
  have hvl : vs.length = n := by rw [pm.length_eq, List.length_map, Array.length_toList]; exact hn
  have hS : StrsAre vs (vs.map strV) := strs_of vs fun v hv => shp v (pm.mem_iff.mp hv)
  have pk : (vs.map strV).Perm ks := (pm.map strV).trans pk0
  have h64' : vs.length < 64 := by rw [hvl]; exact h64
  refine wpAny_bind (wpAny_newList ?_ (by rw [hvl, sizeLine_eq]; omega))
  have hoL : (s1.heap.push (seqObj "list" vs.toArray 0)).get? s1.heap.objs.size = some (seqObj "list" vs.toArray 0) := Heap.get?_push_size _ rfl
  refine wpAny_bind (wpAny_holding (wpAny_call_entry PyProof.Rows.slot_list_sort ⟨_, hoL, rfl⟩ PyProof.Rows.entry_list_sort
    (list_sort_treeK strKind_oneLt (s := { s1 with heap := s1.heap.push (seqObj "list" vs.toArray 0) }) hoL hS.keysOf (fun v₁ v₂ rest e => keyKind_strs (by rw [← e]; exact hS)) h64' fun st' hp hs => ⟨_, rfl, ?_⟩)
    (PyProof.Rows.args_list_sort _)))
  obtain ⟨ys, z1, z2, z3⟩ := sorted_out_str hS hp hs
  obtain ⟨c, hc⟩ := PyProof.Rows.sortedHeap_at (vs := vs) (out := (arrOf st').map (·.2)) hoL
  refine wpAny_pure ⟨_, rfl, hQ _ s1.heap.objs.size _ c ys (fun b u e => ?_) g1 o1 hz hc z1 (z2.trans pk) z3⟩
  have q := k1 b u e
  have hlt := Heap.lt_size q
  show (PyProof.Rows.sortedHeap (s1.heap.push (seqObj "list" vs.toArray 0)) s1.heap.objs.size vs ((arrOf st').map (·.2))).get? b = some u
  rw [PyProof.Rows.sortedHeap_old (Nat.ne_of_lt hlt) (by rw [size_push']; exact Nat.lt_succ_of_lt hlt)]
  exact Heap.get?_push_of_some _ q
def tSortSet (K : PySem.W.Frag) (ta : TE) : TE := fun σ H Q => ta σ H fun x H1 => ∃ l : List (List Nat),
  ((∃ a, x = .ref a ∧ SqL K H1 a (txs l)) ∨ (∃ cs, x = .str (S cs) ∧ l = cs.map fun c => [c])) ∧ l.length < 64 ∧ ∀ zs : List (List Nat), zs.Nodup → (∀ x, x ∈ zs ↔ x ∈ l) → New H1 (.lst (txs (sortL zs))) Q
section
variable {X : Cx}
theorem pe_sortSet {a : Expr} {ta : TE} {p p2 q pos : Pos} (hc : X.calm = true) (hg : Gl X "sorted") (hm : X.mg "sorted" = none) (hg2 : Gl X "set") (hm2 : X.mg "set" = none) (ha : PE X a ta)
    (na : starEach [a] X.env = (false, eval a X.env) :: starEach [] X.env := by rfl) : PE X (.Call (.Name "sorted" p) [.Call (.Name "set" p2) [a] [] q] [] pos) (tSortSet X.K ta) := by
  refine ⟨fun pins s σ H Q I h => ?_⟩
  refine Call_ (ld_blt I hg hm (show PySem.bootBuiltins "sorted" = some (.builtin "sorted") by decide +kernel) ?_)
  refine PyProof.Rows.callWith_builtin1 (PyProof.Rows.args_cons ?_ rfl) rfl rfl
  refine Call_ (ld_blt I hg2 hm2 boot_set ?_)
  refine PyProof.Rows.callWith_type1 (PyProof.Rows.args_cons (thn (ha.run pins s σ H _ I h) fun v s1 ⟨x, H1, I1, r1, q1⟩ => PyProof.Rows.args_nil ?_) na) na rfl
  have scan : (1002 : Nat) < scanBound := by unfold scanBound; decide
  obtain ⟨l, hx, h64, q⟩ := q1
  obtain ⟨xs, hxs⟩ : ∃ xs, l.map S = xs := ⟨_, rfl⟩
  have lxs : xs.length = l.length := by rw [← hxs, List.length_map]
  have fin : ∀ (h' : Heap) (tk : Nat), Ts.SetQ X.prog X.w h' s1.heap.objs.size (fun k' => (Ts.metS (fun i => xs.getD i Str.empty) xs.length).any (· == k')) (Ts.metS (fun i => xs.getD i Str.empty) xs.length).length →
      (∀ b o, b < s1.heap.objs.size → s1.heap.get? b = some o → h'.get? b = some o) →
      wpAny (model X.prog X.w) X.A (spliced (backTo pos (starEach [] X.env))) (fun vs s₂ => wpAny (model X.prog X.w) X.A (call (.builtin "sorted") (Value.ref s1.heap.objs.size :: vs)) (EP X pins σ Q) X.xe s₂) X.xe { s1 with heap := h', toks := tk } := fun h' tk hS hk => by
    refine PyProof.Rows.args_nil ?_
    rw [metS_list] at hS
    have I2 : Inv X pins σ H1 { s1 with heap := h', toks := tk } := I1.kept fun b o e => hk b o (Heap.lt_size e) e
    have hle : (dedS xs).length ≤ xs.length := by
      rw [← metS_list]
      exact Ts.metS_le _ _
    refine sorted_setQ (ks := dedS xs) hS (I2.ok.hd hc) (by omega) (ded_nd xs [] List.nodup_nil) (fun k => ?_) rfl fun s' p out c ys k g o hp hg hi hpm hs => ?_
    · rw [List.any_eq_true]
      exact ⟨fun ⟨y, hy, e⟩ => by rw [← beq_iff_eq.mp e]; exact hy, fun hy => ⟨k, hy, beq_self_eq_true k⟩⟩
    · have ndz : ((dedS xs).map tl).Nodup := by
        rw [List.Nodup, List.pairwise_map]
        exact (ded_nd xs [] List.nodup_nil).imp fun {a b} z y => z (by rw [← S_tl a, ← S_tl b, y])
      have hpm2 : ys.Perm (((dedS xs).map tl).map S) := by
        rw [List.map_map, show (S ∘ tl) = id from funext fun x => S_tl x, List.map_id]
        exact hpm
      have ey := sorted_texts hpm2 hs
      have q := q ((dedS xs).map tl) ndz fun x => by
        rw [List.mem_map]
        constructor
        · rintro ⟨y, hy, rfl⟩
          have := (ded_mem xs [] y).mp hy
          rcases this with z | z
          · cases z
          · rw [← hxs] at z
            obtain ⟨x, hx, rfl⟩ := List.mem_map.mp z
            exact hx
        · intro hx
          exact ⟨S x, (ded_mem xs [] _).mpr (.inr (by rw [← hxs]; exact List.mem_map.mpr ⟨x, hx, rfl⟩)), rfl⟩
      have e2 : ys.map V.str = txs (sortL ((dedS xs).map tl)) := by
        rw [ey]
        unfold txs
        rw [List.map_map]
        rfl
      have hlen : (ys.map V.str).length ≤ sizeLine := by
        rw [List.length_map, hpm.length_eq]
        exact Nat.le_trans (Nat.le_trans hle (by omega)) (show 64 ≤ sizeLine by rw [sizeLine_eq]; decide)
      have hn : H1 p = none := I2.hok.fresh hp
      have J : Inv X pins σ (upd H1 p (.lst (ys.map V.str))) { s1 with heap := s'.heap, gens := s'.gens, drawn := s'.drawn, toks := s'.toks } :=
        Inv.call (s := { s1 with heap := h', toks := tk }) (ch := []) I2 (Un.laid k hp hn) (I2.hok.laid k hp ⟨hlen, out.toList, c, vals_of_strs hi, hg⟩) (by rw [g]; exact I2.bare) (fun _ z => nomatch z)
      have e : s' = { s1 with heap := s'.heap, gens := s'.gens, drawn := s'.drawn, toks := s'.toks } := by
        cases s'
        cases s1
        cases o
        rfl
      rw [e]
      rw [e2] at J
      exact ⟨.ref p, _, J, rfl, q.at p hn⟩
  rcases hx with ⟨a, rfl, hq⟩ | ⟨cs, rfl, hl⟩
  · cases r1
    obtain ⟨its, r, pl, hz⟩ := I1.list hq
    have sz : its.toArray.size = xs.length := by rw [List.size_toArray, ← r.length, txs, List.length_map, lxs]
    refine Ts.setQ_list (val := fun i => xs.getD i Str.empty) (I1.ok.hd hc) pl.isList (fun i v hv => ?_) (by omega) fun h' tk hS hk => fin h' tk (by rw [sz] at hS; exact hS) hk
    rw [List.getElem?_toArray] at hv
    have hlt : i < l.length := by
      have h1 := (List.getElem?_eq_some_iff.mp hv).1
      rw [← r.length, txs, List.length_map] at h1
      exact h1
    obtain ⟨u, hu, ru⟩ := r.get (i := i) (x := V.str (S l[i])) (by unfold txs; rw [List.getElem?_map, List.getElem?_eq_getElem hlt]; rfl)
    rw [hv] at hu
    cases hu
    obtain ⟨t, e⟩ := ru
    exact ⟨t, by rw [e, ← hxs, List.getD_eq_getElem?_getD, List.getElem?_map, List.getElem?_eq_getElem hlt]; rfl⟩
  · obtain ⟨t, rfl⟩ := r1
    have sz : (S cs).cps.size = xs.length := by
      rw [lxs, hl, List.length_map]
      rfl
    refine Ts.setQ_str (val := fun i => xs.getD i Str.empty) (I1.ok.hd hc) (fun i v ⟨c, u, hcv, e⟩ => ⟨u, ?_⟩) (by omega) fun h' tk hS hk => fin h' tk (by rw [sz] at hS; exact hS) hk
    have hc' : cs[i]? = some c := by
      rw [show (S cs).cps = cs.toArray from rfl, List.getElem?_toArray] at hcv
      exact hcv
    rw [e, ← hxs, hl, List.getD_eq_getElem?_getD, List.getElem?_map, List.getElem?_map, hc']
    rfl
end
end Tb

set_option Elab.async false
set_option linter.all false
set_option maxRecDepth 100000
set_option maxHeartbeats 4000000
/-! _law_head -/
namespace Tb
open PySem PySem.Spec PyProof.Rows L2 TL
section
variable {P : Program} {w : World} {K : PySem.W.Frag} {mg : Str → Option Value} {base : Heap}
abbrev nLHead : List Str := ["_law_line", "_law_word", "_law_signs_here", "_law_least", "_law_most", "_law_words", "_law_row", "_law_sign"]
theorem scLHead : FnScope nLHead ["_law_line", "_law_word", "_law_signs_here", "_law_least", "_law_most"] (defScope sLHead) := ⟨rfl, rfl, rfl, by decide +kernel, rfl, by decide +kernel, by decide +kernel⟩
def spLHead : Sp := fun vs H Q _ => ∃ (line word sg : List Nat) (lo hi : Nat), vs = [.str (S line), .str (S word), .str (S sg), .int (lo : Int), .int (hi : Int)] ∧ line.length ≤ 1000 ∧ (∀ c ∈ line, c < 1114112) ∧ hi < 64 ∧ ∀ H', Same H H' → Q (vO (lhF line word (fun c => decide (c ∈ sg)) lo hi)) H'
theorem tIfK {c : Bool} {ta : TE} {v a : V} {σ : L2.St} {H : Hp} {k : VK} (ha : c = true → k a H → ta σ H k) (go : ∀ x, (c = true → x = a) → (c = false → x = v) → k x H) : if c = true then ta σ H k else tC v σ H k := by
  cases c with
  | true => exact iteT (ha rfl (go a (fun _ => rfl) (fun z => nomatch z)))
  | false => exact iteF (go v (fun z => nomatch z) (fun _ => rfl))
theorem tAndK {c : Bool} {tb : TT} {σ : L2.St} {H : Hp} {k : Bool → Hp → Prop} (hb : c = true → k false H → tb σ H k) (g : k false H) : if c = true then tb σ H k else k false H := by
  cases c with
  | true => exact iteT (hb rfl g)
  | false => exact iteF g
theorem uni_ones {cs : List Nat} (h : ∀ c ∈ cs, c < 1114112) : Uni (cs.map fun c => [c]) := fun x hx c hc => by
  obtain ⟨d, hd, rfl⟩ := List.mem_map.mp hx
  rw [List.mem_singleton.mp hc]
  exact h d hd
theorem ok_lhead {f : Addr} {fd : FuncData} {k : Nat} (F : Fun K "_law_head" "_law_head" sLHead f fd) (ma : mg "all" = none) (ml : mg "len" = none) (mt : mg "set" = none) (mL : mg "list" = none) (mS : mg "sorted" = none) : FnOk P w K mg base CX0 (k + 1) f fd ["_law_line", "_law_word", "_law_signs_here", "_law_least", "_law_most"] spLHead := by
  refine F.ok scLHead (fun vs H Q E h => ?_) (fun cdv A outer s H vs Q E hr h => ?_)
  · obtain ⟨line, word, sg, lo, hi, rfl, _⟩ := h
    rfl
  · obtain ⟨line, word, sg, lo, hi, rfl, hl, huni, h64, q⟩ := h
    have big : (1000000 : Nat) ≤ sizeLine := by rw [sizeLine_eq]; decide
    refine ⟨_, pss_cons (ps_set (i := 5) scLHead.nd rfl (.inl rfl) (pe_split (pv 0) pe_str))
      (pss_cons (ps_set (i := 6) scLHead.nd rfl (.inl rfl) (pe_ifExp (pt_cmpR op_eq (pe_callB call_lenS (by rfl) ml PySem.boot_len (pa_cons (pv 5) pa_nil)) pe_int (nomark _)) (pe_ix ix_list (pv 5) pe_int (fun _ _ => rfl)) pe_str))
      (pss_cons (ps_if (PW.pt (pw_or (pt_cmpR op_ne (pe_ix ix_list (pv 5) pe_int (fun _ _ => rfl)) (pv 1) (nomark _)) (pw_or (pt_cmpR op_gt (pe_callB call_lenS (by rfl) ml PySem.boot_len (pa_cons (pv 5) pa_nil)) pe_int (nomark _)) (pw_or1 (PW.pt (pw_and (pt_cmpR op_eq (pe_callB call_lenS (by rfl) ml PySem.boot_len (pa_cons (pv 5) pa_nil)) pe_int (nomark _)) (pw_and1 (pt_cmpR op_eq (pv 6) pe_str (nomark _))))))))) (pss_one (ps_ret pe_non)) pss_nil)
      (pss_cons (ps_if (PW.pt (pw_or (pt_not (pt_chain op_le op_le (pv 3) (pe_callB call_len_str (by rfl) ml PySem.boot_len (pa_cons (pv 6) pa_nil)) (pv 4))) (pw_or1 (pt_cmpR (op_neD (by have := hr.un; show (A.deeper _).units + 64 < cLine; omega)) (pe_callTy (call_listStr rfl) (by rfl) mL (by decide +kernel) (pa_cons (pv 6) pa_nil)) (pe_sortSet rfl (by rfl) mS (by rfl) mt (pv 6)) (nomark _))))) (pss_one (ps_ret pe_non)) pss_nil)
      (pss_one (ps_ret (pe_ifExp (pt_val (pe_callB (cr_all rfl) (by rfl) ma (by decide +kernel) (pa_cons (pe_lc (own := [("_law_sign", 7)]) (g := gName 7) (tt := tYes) (te := tOp (fun x y H Q => ∃ (c : Nat) (z : Str), x = .str ⟨#[c]⟩ ∧ y = .str z ∧ Q (.bl (decide (c ∈ z.cps.toList))) H) (tVar 7) (tVar 2)) rfl scLHead.nd
          (pi_str (pv 6)) (blkOk_by (own := [("_law_sign", 7)]) (N := nLHead) (sc := defScope sLHead) (by decide +kernel)) (fun _ _ _ _ _ => pg_name (i := 7) scLHead.nd rfl (.inl rfl)) (fun _ _ _ _ _ => pts_nil) (fun _ _ _ _ _ => pe_cmpR op_in_sign (pv 7) (pv 2) (by rfl))) pa_nil))) (pv 6) pe_non)))))), ?_⟩
    refine ⟨_, rfl, ⟨_, rfl⟩, S line, Str.ofString " ", rfl, rfl, by decide +kernel, by rw [len_S]; omega, fun p np => ?_⟩
    rw [sp_str, split_any (by decide)]
    have huni2 : ∀ x ∈ splL 32 line, ∀ c ∈ x, c < 1114112 := fun x hx c hc => huni c (splL_mem 32 line x hx c hc)
    have hflat := splL_flat 32 line
    have hne := splL_ne 32 line
    unfold lhF lhRow at q
    generalize splL 32 line = ws at huni2 hflat hne q ⊢
    have lw : (txs ws).length = ws.length := txs_len _
    have s1 := same_upd (o := .lst (txs ws)) np
    have e1 : (upd H p (.lst (txs ws))) p = some (.lst (txs ws)) := upd_same
    generalize upd H p (.lst (txs ws)) = H1 at s1 e1
    have g0 : 0 < ws.length := List.length_pos_iff.mpr hne
    have no : ∀ (row : List Nat) {H'}, Same H1 H' → (row = if ws.length = 2 then wd ws 1 else []) → ((wd ws 0 ≠ word ∨ 2 < ws.length ∨ (ws.length = 2 ∧ row = [])) ∨ (¬ (lo ≤ row.length ∧ row.length ≤ hi) ∨ ¬ row.Pairwise (· < ·)) ∨ ¬ row.all (fun c => decide (c ∈ sg)) = true) → Q V.non H' := fun row H' s' er z => by
      have := q _ (s1.trans s')
      rw [← er] at this
      by_cases z1 : wd ws 0 ≠ word ∨ 2 < ws.length ∨ (ws.length = 2 ∧ row = [])
      · rw [if_pos z1] at this
        exact this
      · rw [if_neg z1] at this
        by_cases z2 : ¬ (lo ≤ row.length ∧ row.length ≤ hi) ∨ ¬ row.Pairwise (· < ·)
        · rw [if_pos z2] at this
          exact this
        · rw [if_neg z2, if_neg ((z.resolve_left z1).resolve_left z2)] at this
          exact this
    have yes : ∀ (row : List Nat) {H'}, Same H1 H' → (row = if ws.length = 2 then wd ws 1 else []) → ¬ (wd ws 0 ≠ word ∨ 2 < ws.length ∨ (ws.length = 2 ∧ row = [])) → ¬ (¬ (lo ≤ row.length ∧ row.length ≤ hi) ∨ ¬ row.Pairwise (· < ·)) → row.all (fun c => decide (c ∈ sg)) = true → Q (.str (S row)) H' := fun row H' s' er z1 z2 z3 => by
      have := q _ (s1.trans s')
      rw [← er, if_neg z1, if_neg z2, if_pos z3] at this
      exact this
    have len_is : ∀ n : Nat, decide (V.int ((txs ws).length : Int) = V.int (n : Int)) = decide (ws.length = n) := fun n => by
      rw [lw, decide_eq_decide]
      exact ⟨fun z => by injection z with z; omega, fun z => by rw [z]⟩
    refine ⟨_, rfl, p, txs ws, rfl, .inl (SqL.of e1), rfl, decide (ws.length = 2), congrArg V.bl (len_is 2), tIfK (a := .str (S (wd ws 1))) (fun c g => ⟨_, rfl, p, txs ws, 1, .str (S (wd ws 1)), rfl, rfl, SqL.of e1, atI_nat (j := 1) (wd_at (by have := of_decide_eq_true c; omega)), g⟩) fun x hx1 hx2 => ?_⟩
    obtain ⟨row, hx, er⟩ : ∃ row, x = V.str (S row) ∧ row = if ws.length = 2 then wd ws 1 else [] := by
      by_cases h2 : ws.length = 2
      · exact ⟨_, hx1 (decide_eq_true h2), (if_pos h2).symm⟩
      · exact ⟨[], by rw [hx2 (decide_eq_false h2), S_nilstr], (if_neg h2).symm⟩
    subst hx
    have lrow : row.length ≤ 1000 ∧ ∀ c ∈ row, c < 1114112 := by
      rw [er]
      split
      · exact ⟨Nat.le_trans (len_flat (wd_mem (by omega))) (Nat.le_trans hflat hl), huni2 _ (wd_mem (by omega))⟩
      · exact ⟨Nat.zero_le _, fun c hc => nomatch hc⟩
    have rf : Same H1 H1 := fun _ _ h => h
    refine ⟨_, rfl, p, txs ws, 0, .str (S (wd ws 0)), rfl, rfl, SqL.of e1, atI_nat (j := 0) (wd_at g0), _, rfl, rfl, _, rfl, ?_⟩
    rw [dec_S]
    by_cases c1 : wd ws 0 = word
    case neg =>
      rw [decide_eq_false c1]
      exact iteT (no row rf er (.inl (.inl c1)))
    rw [decide_eq_true c1]
    refine iteF ⟨_, rfl, p, txs ws, rfl, .inl (SqL.of e1), _, _, rfl, rfl, decide (2 < ws.length), ?_, ?_⟩
    · rw [lw]
      refine congrArg V.bl ?_
      rw [decide_eq_decide]
      omega
    by_cases c2 : 2 < ws.length
    · rw [decide_eq_true c2]
      exact iteT (no row rf er (.inl (.inr (.inl c2))))
    rw [decide_eq_false c2]
    refine iteF ⟨_, rfl, p, txs ws, rfl, .inl (SqL.of e1), rfl, decide (ws.length = 2), congrArg V.bl (len_is 2), ?_⟩
    have erow : decide (V.str (S row) = V.str (Str.ofString "")) = decide (row = []) := by rw [S_nilstr, dec_S]
    by_cases c3 : ws.length = 2 ∧ row = []
    · rw [decide_eq_true c3.1]
      refine iteT ⟨_, rfl, rfl, _, rfl, ?_⟩
      rw [erow, decide_eq_true c3.2]
      exact iteT (no row rf er (.inl (.inr (.inr c3))))
    have c123 : ¬ (wd ws 0 ≠ word ∨ 2 < ws.length ∨ (ws.length = 2 ∧ row = [])) := fun z => z.elim (fun y => y c1) fun z => z.elim c2 c3
    refine tAndK (fun hc g => ⟨_, rfl, rfl, decide (row = []), congrArg V.bl erow, ?_⟩) (iteF ?_)
    · rw [decide_eq_false (fun z => c3 ⟨of_decide_eq_true hc, z⟩)]
      exact g
    refine ⟨_, rfl, _, rfl, S row, rfl, by rw [len_S]; omega, _, _, rfl, rfl, decide (lo ≤ row.length), ?_, ?_⟩
    · rw [len_S]
      refine congrArg V.bl ?_
      rw [decide_eq_decide]
      omega
    by_cases d1 : lo ≤ row.length
    case neg =>
      rw [decide_eq_false d1]
      exact iteF ⟨false, rfl, iteT (no row rf er (.inr (.inl (.inl fun z => d1 z.1))))⟩
    rw [decide_eq_true d1]
    refine iteT ⟨_, rfl, _, _, rfl, rfl, decide (row.length ≤ hi), ?_, ?_⟩
    · rw [len_S]
      refine congrArg V.bl ?_
      rw [decide_eq_decide]
      omega
    by_cases d2 : row.length ≤ hi
    case neg =>
      rw [decide_eq_false d2]
      exact iteT (no row rf er (.inr (.inl (.inl fun z => d2 z.2))))
    rw [decide_eq_true d2]
    have lones : (row.map fun c => [c]).length = row.length := List.length_map _
    refine iteF ⟨_, rfl, row, rfl, by omega, fun l2 H2 s2 n2 e2 => ⟨_, rfl, row.map fun c => [c], .inr ⟨row, rfl, rfl⟩, by omega, fun zs nd hm l3 H3 s3 n3 e3 => ?_⟩⟩
    have e2' : H3 l2 = some (.lst (txs (row.map fun c => [c]))) := s3 _ _ (by rw [e2, sgs_txs])
    have u1 := uni_ones lrow.2
    have u2 : Uni (sortL zs) := fun x hx => u1 x ((hm x).mp ((sortL_perm _).mem_iff.mp hx))
    refine ⟨_, _, dTx_lst e2', dTx_lst e3, shaped_dTx u1, shaped_dTx u2, !decide (row.map (fun c => [c]) = sortL zs), ?_, ?_⟩
    · rw [← eqv_dTx]
      rfl
    have s13 := s2.trans s3
    by_cases d3 : row.Pairwise (· < ·)
    case neg =>
      rw [decide_eq_false fun z => d3 (ones_asc.mp ((sorted_set_iff nd hm).mp z))]
      exact iteT (no row s13 er (.inr (.inl (.inr d3))))
    rw [decide_eq_true ((sorted_set_iff nd hm).mpr (ones_asc.mpr d3))]
    refine iteF ⟨_, rfl, S row, rfl, fun D nD => lc_mapS (cs := row) (fun c => .bl (decide (c ∈ sg))) nD (Nat.lt_of_le_of_lt lrow.1 (by decide)) ?_ ?_⟩
    · intro c hc H' R s' r
      exact ⟨_, rfl, _, rfl, c, S sg, rfl, rfl, r⟩
    · intro H' s' e'
      refine ⟨D, row.map fun c => decide (c ∈ sg), rfl, SqL.of (by rw [e', List.map_map]; rfl), ?_⟩
      rw [List.all_map, show (id ∘ fun c => decide (c ∈ sg)) = fun c => decide (c ∈ sg) from rfl]
      have d12 : ¬ (¬ (lo ≤ row.length ∧ row.length ≤ hi) ∨ ¬ row.Pairwise (· < ·)) := fun z => z.elim (fun y => y ⟨d1, d2⟩) fun y => y d3
      by_cases d4 : row.all (fun c => decide (c ∈ sg)) = true
      · rw [d4]
        exact ⟨true, rfl, iteT ⟨_, rfl, yes row (s13.trans s') er c123 d12 d4⟩⟩
      · rw [Bool.eq_false_iff.mpr d4]
        exact ⟨false, rfl, iteF (no row (s13.trans s') er (.inr (.inr d4)))⟩
end
end Tb

set_option Elab.async false
set_option linter.all false
set_option maxRecDepth 100000
set_option maxHeartbeats 4000000
/-! text.split(sign, 1) where the sign stands in the text -/
namespace Tb
open PySem PySem.Spec PyProof.Rows L2 TL
theorem splitMax_in {s : Nat} {cs : List Nat} (hs : s < 256) (h : s ∈ cs) : Txt.splitMax (S cs) (S [s]) 1 = [S (pA s cs), S (pB s cs)] := by
  have hp := part_any s cs
  have h0 : pM s cs = [s] := if_pos h
  rw [h0] at hp
  have hl := StrLaws.occ_length_le (S cs) (S [s]) 0 (S cs).length 1
  have e1 : (S [s]).length = 1 := rfl
  have hk : (decide ((S cs).length < (S [s]).length) || decide (Builtin.Str.strKind (S cs) < Builtin.Str.strKind (S [s]))) = false := by
    rw [Bool.or_eq_false_iff]
    refine ⟨decide_eq_false ?_, decide_eq_false ?_⟩
    · rw [len_S, e1]
      have := List.length_pos_of_mem h
      omega
    · have e : Builtin.Str.strKind (S [s]) = 1 := if_pos (SX.all256 (b := [s]) (by simp [hs]))
      rw [e]
      unfold Builtin.Str.strKind
      split
      · decide
      · split <;> decide
  unfold Txt.splitMax
  rw [if_neg (by rw [hk]; exact Bool.false_ne_true)]
  rw [show limitOf (S cs) 1 = 1 from rfl]
  unfold Txt.partition at hp
  cases ho : Builtin.Str.occurrences (S cs) (S [s]) 0 (S cs).length 1 with
  | nil =>
    rw [ho] at hp
    have e : (S cs, Str.empty, Str.empty) = (S (pA s cs), S [s], S (pB s cs)) := hp
    have := S_inj (show S [] = S [s] from (Prod.mk.inj (Prod.mk.inj e).2).1)
    cases this
  | cons i r =>
    rw [ho] at hp hl
    have hr : r = [] := by
      rw [List.length_cons] at hl
      exact List.length_eq_zero_iff.mp (by omega)
    subst hr
    rw [if_neg (show ¬ [i].isEmpty = true from Bool.false_ne_true)]
    have e : (Builtin.Str.strSub (S cs) 0 i, S [s], Builtin.Str.strSub (S cs) (i + (S [s]).length) (S cs).length) = (S (pA s cs), S [s], S (pB s cs)) := hp
    have a1 := (Prod.mk.inj e).1
    have a2 := (Prod.mk.inj (Prod.mk.inj e).2).2
    show [Builtin.Str.strSub (S cs) 0 i, Builtin.Str.strSub (S cs) (i + (S [s]).length) (S cs).length] = _
    rw [a1, a2]
end Tb

set_option Elab.async false
set_option linter.all false
set_option maxRecDepth 100000
set_option maxHeartbeats 4000000
/-! _law_is_move -/
namespace Tb
open PySem PySem.Spec PyProof.Rows L2 TL
instance (ws : List (List Nat)) (L B before : List Nat) : Decidable (LmS ws L B before) := by unfold LmS; infer_instance
section
variable {P : Program} {w : World} {K : PySem.W.Frag} {mg : Str → Option Value} {base : Heap}
def onT (f : List Nat → List Nat) : V → V := fun v => match v with | .str x => .str (S (f (tl x))) | v => v
theorem txs_onT (f : List Nat → List Nat) (l : List (List Nat)) : (txs l).map (onT f) = txs (l.map f) := by
  unfold txs
  rw [List.map_map, List.map_map]
  rfl
abbrev rInS : R2 := fun x y H Q => ∃ (c : Nat) (z : Str), x = .str ⟨#[c]⟩ ∧ y = .str z ∧ Q (.bl (decide (c ∈ z.cps.toList))) H
abbrev rSpl : V → List V → Hp → VK → Prop := fun x xs H Q => ∃ a b, x = .str a ∧ xs = [.str b] ∧ (b.length == 0) = false ∧ a.length + 2 ≤ sizeLine ∧ rNewStrs (Txt.split a b) H Q
abbrev rSplM : V → List V → Hp → VK → Prop := fun x xs H Q => ∃ (a b : Str) (k : Int), x = .str a ∧ xs = [.str b, .int k] ∧ (b.length == 0) = false ∧ -(2 ^ 63) ≤ k ∧ k < 2 ^ 63 ∧ a.length + 2 ≤ sizeLine ∧ rNewStrs (Txt.splitMax a b k) H Q
abbrev rLenSt : List V → Hp → VK → Prop := fun xs H Q => ∃ z, xs = [.str z] ∧ z.length ≤ sizeLine ∧ Q (.int z.length) H
abbrev nLIsMove : List Str := ["_law_words", "_law_letters", "_law_boxes", "_law_before", "_law_heads", "_law_tails", "_law_word", "_law_head_here"]
theorem scLIsMove : FnScope nLIsMove ["_law_words", "_law_letters", "_law_boxes", "_law_before"] (defScope sLIsMove) := ⟨rfl, rfl, rfl, by decide +kernel, rfl, by decide +kernel, by decide +kernel⟩
def spLMove : Sp := fun vs H Q _ => ∃ (a : Addr) (ws : List (List Nat)) (L B before : List Nat), vs = [.ref a, .str (S L), .str (S B), .str (S before)] ∧ H a = some (.lst (txs ws)) ∧ ws.length ≤ 60 ∧ ws.flatten.length ≤ 1000 ∧ Uni ws ∧ L.length ≤ 1000 ∧ B.length ≤ 1000 ∧ ∀ H', Same H H' → Q (.bl (decide (LmS ws L B before))) H'
theorem ok_lmove {f : Addr} {fd : FuncData} {k : Nat} (F : Fun K "_law_is_move" "_law_is_move" sLIsMove f fd) (DN : Df P w K mg base (k + 1) "_law_is_name" ["_law_value"] spLName) (DF : Df P w K mg base (k + 1) "_law_is_filling" ["_law_value", "_law_boxes"] spLFill) (ma : mg "all" = none) (ml : mg "len" = none) (mt : mg "set" = none) (mS : mg "sorted" = none) : FnOk P w K mg base CX0 (k + 2) f fd ["_law_words", "_law_letters", "_law_boxes", "_law_before"] spLMove := by
  refine F.ok scLIsMove (fun vs H Q E h => ?_) (fun cdv A outer s H vs Q E hr h => ?_)
  · obtain ⟨a, ws, L, B, before, rfl, _⟩ := h
    rfl
  · obtain ⟨a, ws, L, B, before, rfl, ha, h60, hfl, huni, hL, hB, q⟩ := h
    have big : (1000000 : Nat) ≤ sizeLine := by rw [sizeLine_eq]; decide
    refine ⟨_, pss_cons (ps_if (PW.pt (pw_or (pt_cmpR op_lt (pe_callB call_lenS (by rfl) ml PySem.boot_len (pa_cons (pv 0) pa_nil)) pe_int (nomark _)) (pw_or (pt_cmpR op_ne (pe_callB call_len_str (by rfl) ml PySem.boot_len (pa_cons (pe_ix ix_list (pv 0) pe_int (fun _ _ => rfl)) pa_nil)) pe_int (nomark _)) (pw_or (pt_cmpR op_notIn_sign (pe_ix ix_list (pv 0) pe_int (fun _ _ => rfl)) (pv 1) (by rfl)) (pw_or1 (pt_not (pt_val (pe_df DN hr (pa_cons (pe_ix ix_list (pv 0) pe_int (fun _ _ => rfl)) pa_nil))))))))) (pss_one (ps_ret pe_bl)) pss_nil)
      (pss_cons (ps_setLc (i := 4) (own := [("_law_word", 6)]) (g := gName 6) (tt := tYes) (te := tOp (rIxL K) (tM1 rSpl (tVar 6) (tC (.str "="))) (tC (.int 0))) rfl scLIsMove.nd rfl rfl (sw_true rfl rfl (by decide) (by decide))
          (pi_list (pe_slice sl_listS (pv 0) (po_some pe_int) po_none)) (blkOk_by (own := [("_law_word", 6)]) (N := nLIsMove) (sc := defScope sLIsMove) (by decide +kernel)) (fun _ _ _ _ _ => pg_name (i := 6) scLIsMove.nd rfl (.inl rfl)) (fun _ _ _ _ _ => pts_nil) (fun _ _ _ _ _ => pe_ix ix_list (pe_split (pv 6) pe_str) pe_int (fun _ _ => rfl)))
      (pss_cons (ps_setLc (i := 5) (own := [("_law_word", 6)]) (g := gName 6) (tt := tYes) (te := tIf (tTest (tOp rInS (tC (.str "=")) (tVar 6))) (tOp (rIxL K) (tBM K "str" rSplM (tVar 6) (tCons (tC (.str "=")) (tCons (tC (.int 1)) tNil))) (tC (.int 1))) (tC (.str ""))) rfl scLIsMove.nd rfl rfl (sw_true rfl rfl (by decide) (by decide))
          (pi_list (pe_slice sl_listS (pv 0) (po_some pe_int) po_none)) (blkOk_by (own := [("_law_word", 6)]) (N := nLIsMove) (sc := defScope sLIsMove) (by decide +kernel)) (fun _ _ _ _ _ => pg_name (i := 6) scLIsMove.nd rfl (.inl rfl)) (fun _ _ _ _ _ => pts_nil) (fun _ _ _ _ _ => pe_ifExp (pt_cmpR op_in_sign pe_str (pv 6) (by rfl)) (pe_ix ix_list (pe_bm PySem.F.plainAttrs_str PySem.F.slot_str_split PySem.F.type_str_split mt_splitMax (pv 6) (pa_cons pe_str (pa_cons pe_int pa_nil))) pe_int (fun _ _ => rfl)) pe_str))
      (pss_cons (ps_if (PW.pt (pw_or (pt_cmpR op_in_seq pe_str (pv 5) (by rfl)) (pw_or (pt_not (pt_val (pe_callB (cr_all rfl) (by rfl) ma (by decide +kernel) (pa_cons (pe_lc (own := [("_law_head_here", 7)]) (g := gName 7) (tt := tYes) (te := tAndV (tOp rEq (tCB rLenSt (tCons (tVar 7) tNil)) (tC (.int 1))) (tOp rInS (tVar 7) (tVar 2))) rfl scLIsMove.nd
          (pi_list (pv 4)) (blkOk_by (own := [("_law_head_here", 7)]) (N := nLIsMove) (sc := defScope sLIsMove) (by decide +kernel)) (fun _ _ _ _ _ => pg_name (i := 7) scLIsMove.nd rfl (.inl rfl)) (fun _ _ _ _ _ => pts_nil) (fun _ _ _ _ _ => pe_and (pe_cmpR op_eq (pe_callB call_len_str (by rfl) ml PySem.boot_len (pa_cons (pv 7) pa_nil)) pe_int (nomark _)) (pe_one (pe_cmpR op_in_sign (pv 7) (pv 2) (by rfl))))) pa_nil)))) (pw_or1 (pt_cmpR (op_neD (by have := hr.un; show (A.deeper _).units + 64 < cLine; omega)) (pv 4) (pe_sortSet rfl (by rfl) mS (by rfl) mt (pv 4)) (nomark _)))))) (pss_one (ps_ret pe_bl)) pss_nil)
      (pss_one (ps_ret (pe_and (pe_cmpR op_lt_str (pv 3) (pe_ix ix_list (pv 0) pe_int (fun _ _ => rfl)) (nomark _)) (pe_one (pe_df DF hr (pa_cons (pe_join pe_str (pv 5)) (pa_cons (pv 2) pa_nil)))))))))), ?_⟩
    have no : ∀ {H'}, Same H H' → ¬ LmS ws L B before → Q (.bl false) H' := fun s' z => by
      have := q _ s'
      rw [decide_eq_false z] at this
      exact this
    have rf : Same H H := fun _ _ h => h
    have lw : (txs ws).length = ws.length := txs_len _
    have cut : cutV (txs ws) (some 2) none = txs (ws.drop 2) := by
      rw [cutV_drop2]
      unfold txs
      rw [List.map_drop]
    have wl : ∀ x ∈ ws, x.length ≤ 1000 := fun x hx => Nat.le_trans (len_flat hx) hfl
    have sub : ∀ x ∈ ws.drop 2, x ∈ ws := fun x hx => List.mem_of_mem_drop hx
    have ld : (ws.drop 2).length ≤ 58 := by rw [List.length_drop]; omega
    refine ⟨_, rfl, a, txs ws, rfl, .inl (SqL.of ha), _, _, rfl, rfl, decide (ws.length < 2), ?_, ?_⟩
    · rw [lw]
      refine congrArg V.bl ?_
      rw [decide_eq_decide]
      omega
    by_cases c1 : ws.length < 2
    · rw [decide_eq_true c1]
      exact iteT (no rf fun z => by have := z.1; omega)
    rw [decide_eq_false c1]
    have g1 : 1 < ws.length := by omega
    have g0 : 0 < ws.length := by omega
    refine iteF ⟨_, rfl, a, txs ws, 0, .str (S (wd ws 0)), rfl, rfl, SqL.of ha, atI_nat (j := 0) (wd_at g0), S (wd ws 0), rfl, by rw [len_S]; have := wl _ (wd_mem g0); omega, rfl, !decide ((wd ws 0).length = 1), ?_, ?_⟩
    · rw [len_S]
      refine congrArg (fun b => V.bl (!b)) ?_
      rw [decide_eq_decide]
      exact ⟨fun z => by injection z with z; omega, fun z => by rw [z]; rfl⟩
    by_cases c2 : (wd ws 0).length = 1
    case neg =>
      rw [decide_eq_false c2]
      exact iteT (no rf fun z => by
        obtain ⟨c, _, e⟩ := List.mem_map.mp z.2.1
        rw [← e] at c2
        exact c2 rfl)
    rw [decide_eq_true c2]
    obtain ⟨c0, hc0⟩ : ∃ c0, wd ws 0 = [c0] := List.length_eq_one_iff.mp c2
    refine iteF ⟨_, rfl, a, txs ws, 0, .str (S (wd ws 0)), rfl, rfl, SqL.of ha, atI_nat (j := 0) (wd_at g0), _, rfl, c0, S L, by rw [hc0]; rfl, rfl, !decide (c0 ∈ L), rfl, ?_⟩
    have m0 : wd ws 0 ∈ L.map (fun c => [c]) ↔ c0 ∈ L := by
      rw [hc0, List.mem_map]
      exact ⟨fun ⟨c, h, e⟩ => by cases e; exact h, fun h => ⟨c0, h, rfl⟩⟩
    by_cases c3 : c0 ∈ L
    case neg =>
      rw [decide_eq_false c3]
      exact iteT (no rf fun z => c3 (m0.mp z.2.1))
    rw [decide_eq_true c3]
    refine iteF ⟨_, rfl, a, txs ws, 1, .str (S (wd ws 1)), rfl, rfl, SqL.of ha, atI_nat (j := 1) (wd_at g1), wd ws 1, rfl, wl _ (wd_mem g1), fun H1 s1 => ⟨isName (wd ws 1), rfl, ?_⟩⟩
    by_cases c4 : isName (wd ws 1) = true
    case neg =>
      rw [Bool.eq_false_iff.mpr c4]
      exact iteT (no s1 fun z => c4 z.2.2.1)
    rw [c4]
    have hds_e : (ws.drop 2).map (pA 61) = hds ws := rfl
    have tls_e : (ws.drop 2).map (pB 61) = tls ws := rfl
    have ltx : (txs (ws.drop 2)).length ≤ 58 := by rw [txs_len]; exact ld
    refine iteF ⟨_, rfl, _, rfl, a, txs ws, rfl, SqL.of (s1 _ _ ha), fun k1 H2 s2 n2 e2 => ⟨k1, rfl, ⟨_, SqL.of e2⟩, fun D1 nD1 => ?_⟩⟩
    rw [cut] at e2
    refine lc_mapW (xs := txs (ws.drop 2)) (onT (pA 61)) (walk_list (K := K) (a := k1) (xs := txs (ws.drop 2))) rfl (fun i H x H' y => y) (fun H' s' => SqL.of (s' _ _ e2)) nD1 (by omega) ?_ ?_
    · intro x hx H' R s' r
      obtain ⟨w0, hw0, rfl⟩ := List.mem_map.mp hx
      have lw0 := wl _ (sub _ hw0)
      refine ⟨_, rfl, ⟨_, rfl⟩, S w0, _, rfl, rfl, by decide +kernel, by rw [len_S]; omega, fun p np => ?_⟩
      refine ⟨p, txs (splL 61 w0), 0, .str (S (pA 61 w0)), rfl, rfl, SqL.of (by rw [show Str.ofString "=" = S [61] by decide +kernel, split_any (by decide)]; exact upd_same), ?_, r _ (same_upd np)⟩
      rw [← wd0_split]
      exact atI_nat (j := 0) (wd_at (splL_pos 61 w0))
    intro H3 s3 e3
    rw [txs_onT, hds_e] at e3
    have s03 := s1.trans (s2.trans s3)
    refine ⟨_, rfl, _, rfl, a, txs ws, rfl, SqL.of (s03 _ _ ha), fun k2 H4 s4 n4 e4 => ⟨k2, rfl, ⟨_, SqL.of e4⟩, fun D2 nD2 => ?_⟩⟩
    rw [cut] at e4
    refine lc_mapW (xs := txs (ws.drop 2)) (onT (pB 61)) (walk_list (K := K) (a := k2) (xs := txs (ws.drop 2))) rfl (fun i H x H' y => y) (fun H' s' => SqL.of (s' _ _ e4)) nD2 (by omega) ?_ ?_
    · intro x hx H' R s' r
      obtain ⟨w0, hw0, rfl⟩ := List.mem_map.mp hx
      have lw0 := wl _ (sub _ hw0)
      refine ⟨_, rfl, 61, S w0, by decide +kernel, rfl, decide (61 ∈ w0), rfl, ?_⟩
      by_cases hi : 61 ∈ w0
      · rw [decide_eq_true hi]
        refine iteT ⟨_, rfl, rfl, S w0, _, 1, rfl, rfl, by decide +kernel, by decide, by decide, by rw [len_S]; omega, fun p np => ?_⟩
        refine ⟨p, txs [pA 61 w0, pB 61 w0], 1, .str (S (pB 61 w0)), rfl, rfl, SqL.of (by rw [show Str.ofString "=" = S [61] by decide +kernel, splitMax_in (by decide) hi]; exact upd_same), atI_nat (j := 1) rfl, r _ (same_upd np)⟩
      · rw [decide_eq_false hi]
        refine iteF ?_
        have := r _ (fun _ _ e => e)
        rw [show onT (pB 61) (V.str (S w0)) = V.str (S (pB 61 w0)) from rfl, pB_out hi] at this
        rw [S_nilstr]
        exact this
    intro H5 s5 e5
    rw [txs_onT, tls_e] at e5
    have s35 := s4.trans s5
    have e3' := s35 _ _ e3
    have s05 := s03.trans s35
    have lh : (hds ws).length ≤ 58 := by rw [← hds_e, List.length_map]; exact ld
    have lt : (tls ws).length ≤ 58 := by rw [← tls_e, List.length_map]; exact ld
    have hsub : ∀ h ∈ hds ws, h.length ≤ 1000 ∧ ∀ c ∈ h, c < 1114112 := fun h hh => by
      rw [← hds_e] at hh
      obtain ⟨x, hx, rfl⟩ := List.mem_map.mp hh
      exact ⟨Nat.le_trans (pA_len 61 x) (wl _ (sub _ hx)), fun c hc => huni x (sub _ hx) c (pA_mem hc)⟩
    have htl : (tls ws).flatten.length ≤ 1000 := by
      have h1 : ∀ l : List (List Nat), (l.map (pB 61)).flatten.length ≤ l.flatten.length := fun l => by
        induction l with
        | nil => exact Nat.zero_le _
        | cons x l ih =>
          rw [List.map_cons, List.flatten_cons, List.flatten_cons, List.length_append, List.length_append]
          have := pB_len 61 x
          omega
      have := h1 (ws.drop 2)
      rw [tls_e] at this
      have := drop_flat ws 2
      omega
    have aflat : ∀ l : List (List Nat), (txs l).all flatV = true := fun l => by
      unfold txs
      rw [List.all_map, List.all_eq_true]
      exact fun _ _ => rfl
    refine ⟨_, rfl, D2, txs (tls ws), rfl, .inl (SqL.of e5), rfl, aflat _, decide ([] ∈ tls ws), ?_, ?_⟩
    · rw [S_nilstr]
      unfold txs
      rw [inV_S]
      rfl
    by_cases c5 : [] ∈ tls ws
    · rw [decide_eq_true c5]
      exact iteT (no s05 fun z => z.2.2.2.1 c5)
    rw [decide_eq_false c5]
    refine iteF ⟨_, rfl, D1, rfl, ⟨_, SqL.of e3'⟩, fun D3 nD3 => ?_⟩
    refine lc_mapW (xs := txs (hds ws)) (fun v => match v with | .str x => .bl (decide (tl x ∈ B.map fun b => [b])) | _ => .bl false) (walk_list (K := K) (a := D1) (xs := txs (hds ws))) rfl (fun i H x H' y => y) (fun H' s' => SqL.of (s' _ _ e3')) nD3 (by rw [txs_len]; omega) ?_ ?_
    · intro x hx H' R s' r
      obtain ⟨h0, hh0, rfl⟩ := List.mem_map.mp hx
      have r := r _ (fun _ _ e => e)
      have r : R (.bl (decide (h0 ∈ B.map fun b => [b]))) H' := r
      refine ⟨_, rfl, S h0, rfl, by rw [len_S]; have := (hsub h0 hh0).1; omega, rfl, decide (h0.length = 1), ?_, ?_⟩
      · rw [len_S]
        refine congrArg V.bl ?_
        rw [decide_eq_decide]
        exact ⟨fun z => by injection z with z; omega, fun z => by rw [z]; rfl⟩
      by_cases z1 : h0.length = 1
      · rw [decide_eq_true z1]
        obtain ⟨c, rfl⟩ := List.length_eq_one_iff.mp z1
        refine iteT ⟨_, rfl, _, rfl, c, S B, rfl, rfl, ?_⟩
        rw [show decide ([c] ∈ B.map fun b => [b]) = decide (c ∈ B) by
          rw [decide_eq_decide, List.mem_map]
          exact ⟨fun ⟨b, hb, e⟩ => by cases e; exact hb, fun hb => ⟨c, hb, rfl⟩⟩] at r
        exact r
      · rw [decide_eq_false z1]
        rw [decide_eq_false (fun z => z1 (by obtain ⟨b, _, e⟩ := List.mem_map.mp z; rw [← e]; rfl))] at r
        exact iteF r
    intro H6 s6 e6
    have e6 : H6 D3 = some (.lst (((hds ws).map fun h => decide (h ∈ B.map fun b => [b])).map V.bl)) := by
      rw [e6]
      unfold txs
      rw [List.map_map, List.map_map]
      rfl
    refine ⟨D3, _, rfl, SqL.of e6, ?_⟩
    rw [List.all_map, show (id ∘ fun h => decide (h ∈ B.map fun b => [b])) = fun h => decide (h ∈ B.map fun b => [b]) from rfl]
    have s06 := s05.trans s6
    have all6 : (hds ws).all (fun h => decide (h ∈ B.map fun b => [b])) = true ↔ ∀ h ∈ hds ws, h ∈ B.map fun b => [b] := by
      rw [List.all_eq_true]
      exact ⟨fun z h hh => of_decide_eq_true (z h hh), fun z h hh => decide_eq_true (z h hh)⟩
    by_cases c6 : (hds ws).all (fun h => decide (h ∈ B.map fun b => [b])) = true
    case neg =>
      rw [Bool.eq_false_iff.mpr c6]
      exact ⟨false, rfl, iteT (no s06 fun z => c6 (all6.mpr z.2.2.2.2.1))⟩
    rw [c6]
    have d1 := s6 _ _ e3'
    refine ⟨true, rfl, iteF ⟨_, rfl, _, rfl, hds ws, .inl ⟨D1, rfl, SqL.of d1⟩, by omega, fun zs nd hm l3 H7 s7 n7 e7 => ?_⟩⟩
    have u1 : Uni (hds ws) := fun x hx => (hsub x hx).2
    have u2 : Uni (sortL zs) := fun x hx => u1 x ((hm x).mp ((sortL_perm _).mem_iff.mp hx))
    refine ⟨_, _, dTx_lst (s7 _ _ d1), dTx_lst e7, shaped_dTx u1, shaped_dTx u2, !decide (hds ws = sortL zs), ?_, ?_⟩
    · rw [← eqv_dTx]
      rfl
    have s07 := s06.trans s7
    by_cases c7 : (hds ws).Pairwise (· < ·)
    case neg =>
      rw [decide_eq_false fun z => c7 ((sorted_set_iff nd hm).mp z)]
      exact iteT (no s07 fun z => c7 z.2.2.2.2.2.1)
    rw [decide_eq_true ((sorted_set_iff nd hm).mpr c7)]
    refine iteF ⟨_, rfl, _, rfl, a, txs ws, 0, .str (S (wd ws 0)), rfl, rfl, SqL.of (s07 _ _ ha), atI_nat (j := 0) (wd_at g0), S before, S (wd ws 0), rfl, rfl, decide (before < wd ws 0), rfl, ?_⟩
    by_cases c8 : before < wd ws 0
    case neg =>
      rw [decide_eq_false c8]
      exact iteF (no s07 fun z => c8 z.2.2.2.2.2.2.1)
    rw [decide_eq_true c8]
    have e5' := (s6.trans s7) _ _ e5
    refine iteT ⟨⟨_, rfl⟩, _, rfl, Str.ofString "", D2, (tls ws).map S, rfl, rfl, .inl (SqL.of (by rw [e5']; unfold txs; rw [List.map_map]; rfl)), ?_, _, rfl, (tls ws).flatten, B, ?_, htl, hB, fun H8 s8 => ?_⟩
    · rw [flat_len, S_nilstr, len_S]
      show _ + _ * 0 ≤ _
      omega
    · rw [S_nilstr, join_S, joinL_nil]
      rfl
    · have := q _ (s07.trans s8)
      have e : decide (LmS ws L B before) = isFill (tls ws).flatten B := by
        rw [Bool.eq_iff_iff, decide_eq_true_iff]
        exact ⟨fun z => z.2.2.2.2.2.2.2, fun z => ⟨by omega, m0.mpr c3, c4, c5, all6.mp c6, c7, c8, z⟩⟩
      rw [e] at this
      exact this
end
end Tb

set_option Elab.async false
set_option linter.all false
set_option maxRecDepth 100000
set_option maxHeartbeats 4000000
/-! _law_due -/
namespace Tb
open PySem PySem.Spec PyProof.Rows L2 TL
section
variable {P : Program} {w : World} {K : PySem.W.Frag} {mg : Str → Option Value} {base : Heap}
instance (ws ps : List (List Nat)) (B : List Nat) : Decidable (PlG ws ps B) := by unfold PlG; infer_instance
abbrev nLDue : List Str := ["_law_text", "_law_lines_here", "_law_letters", "_law_boxes", "_law_places", "_law_led", "_law_before", "_law_at", "_law_line", "_law_words", "_law_good", "_law_lost", "_law_name_here"]
theorem scLDue : FnScope nLDue ["_law_text"] (defScope sLDue) := ⟨rfl, rfl, rfl, by decide +kernel, rfl, by decide +kernel, by decide +kernel⟩
def dueV (cs : List Nat) : V := match paF cs with
  | .inl n => .int (n : Int)
  | .inr _ => .non
def spLDue : Sp := fun vs H Q _ => ∃ cs : List Nat, vs = [.str (S cs)] ∧ TxB cs ∧ (splL 10 cs).length ≤ 50 ∧ ∀ H', Same H H' → Q (dueV cs) H'
/-- what stands in the heap within the loop: places at pl, what was led at g -/
def LdL (g : Addr) (H : Hp) (T : Addr) (q : Nat × List Nat) : Prop := ∃ l, l ≠ g ∧ H T = some (.tup [.ref l, .int (q.1 : Int)]) ∧ H l = some (.lst [.str (S q.2)])
structure LdI (Hb H : Hp) (pl g : Addr) (ps : List (List Nat)) (ls : List (Nat × List Nat)) : Prop where
  old : ∀ x o, Hb x = some o → x ≠ g → H x = some o
  hp : H pl = some (.lst (txs ps))
  hg : ∃ ts : List Addr, H g = some (.lst (ts.map V.ref)) ∧ Paired (LdL g H) ts ls
  ne : pl ≠ g
theorem LdL.same {g : Addr} {H H' : Hp} {T : Addr} {q : Nat × List Nat} (h : LdL g H T q) (s : Same H H') : LdL g H' T q := by
  obtain ⟨l, n, e1, e2⟩ := h
  exact ⟨l, n, s _ _ e1, s _ _ e2⟩
theorem LdI.same {Hb H H' : Hp} {pl g : Addr} {ps ls} (h : LdI Hb H pl g ps ls) (s : Same H H') : LdI Hb H' pl g ps ls := by
  obtain ⟨ts, e, p⟩ := h.hg
  exact ⟨fun x o e n => s _ _ (h.old x o e n), s _ _ h.hp, ⟨ts, s _ _ e, Paired.mono (fun _ _ z => z.same s) p⟩, h.ne⟩
theorem LdI.place {Hb H H' : Hp} {pl pl' g : Addr} {ps ls} {w0 : List Nat} (h : LdI Hb H pl g ps ls) (s : Same H H') (n : H pl' = none) (e : H' pl' = some (.lst (txs (ps ++ [w0])))) : LdI Hb H' pl' g (ps ++ [w0]) ls := by
  obtain ⟨ts, e2, p⟩ := h.hg
  exact ⟨fun x o e n => s _ _ (h.old x o e n), e, ⟨ts, s _ _ e2, Paired.mono (fun _ _ z => z.same s) p⟩, (ne_of_none e2 n).symm⟩
theorem LdI.lead {Hb H : Hp} {pl g T : Addr} {ps ls} {ts : List Addr} {q : Nat × List Nat} (h : LdI Hb H pl g ps ls) (eg : H g = some (.lst (ts.map V.ref))) (hp : Paired (LdL g H) ts ls) (hq : LdL g H T q) : LdI Hb (upd H g (.lst (ts.map V.ref ++ [.ref T]))) pl g ps (ls ++ [q]) := by
  have up : ∀ {T q}, LdL g H T q → LdL g (upd H g (.lst (ts.map V.ref ++ [.ref T]))) T q := fun {T q} ⟨l, n, e1, e2⟩ => ⟨l, n, by rw [upd_ne (fun z => by rw [z, eg] at e1; cases e1)]; exact e1, by rw [upd_ne n]; exact e2⟩
  have up2 : ∀ {T2 q}, LdL g H T2 q → LdL g (upd H g (.lst (ts.map V.ref ++ [.ref T]))) T2 q := fun {T2 q} ⟨l, n, e1, e2⟩ => ⟨l, n, by rw [upd_ne (fun z => by rw [z, eg] at e1; cases e1)]; exact e1, by rw [upd_ne n]; exact e2⟩
  refine ⟨fun x o e n => by rw [upd_ne n]; exact h.old x o e n, by rw [upd_ne h.ne]; exact h.hp, ⟨ts ++ [T], by rw [upd_same, List.map_append]; rfl, ?_⟩, h.ne⟩
  exact Paired.snoc (Paired.mono (fun _ _ z => up2 z) hp) (up2 hq)
theorem tAndV3 {ta tb tc : TE} {σ : L2.St} {H : Hp} {k : VK} (A B C : Prop) [Decidable A] [Decidable B] [Decidable C]
    (ha : ∀ R : VK, (∀ H', Same H H' → R (.bl (decide A)) H') → ta σ H R)
    (hb : A → ∀ H1, Same H H1 → ∀ R : VK, (∀ H', Same H1 H' → R (.bl (decide B)) H') → tb σ H1 R)
    (hc : A → B → ∀ H1, Same H H1 → ∀ R : VK, (∀ H', Same H1 H' → R (.bl (decide C)) H') → tc σ H1 R)
    (g : ∀ H', Same H H' → k (.bl (decide (A ∧ B ∧ C))) H') : tAndV ta (tAndV tb tc) σ H k := by
  have no : ∀ {H'}, Same H H' → ¬ (A ∧ B ∧ C) → k (.bl false) H' := fun s z => by
    have := g _ s
    rw [decide_eq_false z] at this
    exact this
  refine ha _ fun H1 s1 => ⟨_, rfl, ?_⟩
  by_cases a : A
  case neg =>
    rw [decide_eq_false a]
    exact iteF (no s1 fun z => a z.1)
  rw [decide_eq_true a]
  refine iteT (hb a H1 s1 _ fun H2 s2 => ⟨_, rfl, ?_⟩)
  by_cases b : B
  case neg =>
    rw [decide_eq_false b]
    exact iteF (no (s1.trans s2) fun z => b z.2.1)
  rw [decide_eq_true b]
  refine iteT (hc a b H2 (s1.trans s2) _ fun H3 s3 => ?_)
  have := g _ (s1.trans (s2.trans s3))
  rw [show decide (A ∧ B ∧ C) = decide C from by rw [decide_eq_decide]; exact ⟨fun z => z.2.2, fun z => ⟨a, b, z⟩⟩] at this
  exact this
theorem tAndV2 {ta tb : TE} {σ : L2.St} {H : Hp} {k : VK} (A B : Prop) [Decidable A] [Decidable B]
    (ha : ∀ R : VK, (∀ H', Same H H' → R (.bl (decide A)) H') → ta σ H R)
    (hb : A → ∀ H1, Same H H1 → ∀ R : VK, (∀ H', Same H1 H' → R (.bl (decide B)) H') → tb σ H1 R)
    (g : ∀ H', Same H H' → k (.bl (decide (A ∧ B))) H') : tAndV ta tb σ H k := by
  refine ha _ fun H1 s1 => ⟨_, rfl, ?_⟩
  by_cases a : A
  case neg =>
    rw [decide_eq_false a]
    have := g _ s1
    rw [decide_eq_false (fun z => a z.1)] at this
    exact iteF this
  rw [decide_eq_true a]
  refine iteT (hb a H1 s1 _ fun H2 s2 => ?_)
  have := g _ (s1.trans s2)
  rw [show decide (A ∧ B) = decide B from by rw [decide_eq_decide]; exact ⟨fun z => z.2, fun z => ⟨a, z⟩⟩] at this
  exact this
theorem tAnd3 {ta tb tc : TT} {σ : L2.St} {H : Hp} {k : Bool → Hp → Prop} (A B C : Prop) [Decidable A] [Decidable B] [Decidable C]
    (ha : ∀ R : Bool → Hp → Prop, R (decide A) H → ta σ H R) (hb : A → ∀ R : Bool → Hp → Prop, R (decide B) H → tb σ H R) (hc : A → B → ∀ R : Bool → Hp → Prop, R (decide C) H → tc σ H R)
    (g : k (decide (A ∧ B ∧ C)) H) : tAnd ta (tAnd tb tc) σ H k := by
  refine ha _ ?_
  by_cases a : A
  case neg =>
    rw [decide_eq_false (fun z => a z.1)] at g
    rw [decide_eq_false a]
    exact iteF g
  rw [decide_eq_true a]
  refine iteT (hb a _ ?_)
  by_cases b : B
  case neg =>
    rw [decide_eq_false (fun z => b z.2.1)] at g
    rw [decide_eq_false b]
    exact iteF g
  rw [decide_eq_true b]
  refine iteT (hc a b _ ?_)
  rw [show decide (A ∧ B ∧ C) = decide C from by rw [decide_eq_decide]; exact ⟨fun z => z.2.2, fun z => ⟨a, b, z⟩⟩] at g
  exact g
theorem tSeqIf {tt : TT} {ta tr : TS} {D : Ends} {σ σ' : L2.St} {H : Hp} (A : Prop) [Decidable A] (ht : ∀ R : Bool → Hp → Prop, R (decide A) H → tt σ H R)
    (ha : A → ∀ D' : Ends, (∀ H', Same H H' → D'.nx σ' H') → ta D' σ H) (hb : ¬ A → σ = σ') (g : ∀ H', Same H H' → tr D σ' H') : tSeq (tIfS tt ta tNext) tr D σ H := by
  refine ht _ ?_
  by_cases a : A
  · rw [decide_eq_true a]
    exact iteT (ha a _ fun H' s => g H' s)
  · rw [decide_eq_false a]
    refine iteF ?_
    have := g H fun _ _ h => h
    rw [← hb a] at this
    exact this
theorem in23 (n : Nat) : inV (.int (n : Int)) [.int 2, .int 3] = decide (n = 2 ∨ n = 3) := by
  show ((2 : Int) == (n : Int) || ((3 : Int) == (n : Int) || false)) = _
  rw [Bool.eq_iff_iff, Bool.or_eq_true, Bool.or_eq_true, beq_iff_eq, beq_iff_eq, decide_eq_true_iff]
  constructor
  · rintro (z | z | z)
    · exact .inl (by omega)
    · exact .inr (by omega)
    · cases z
  · rintro (z | z)
    · exact .inl (by omega)
    · exact .inr (.inl (by omega))
theorem cut12 (xs : List V) : cutV xs (some 1) (some 2) = (xs.drop 1).take 1 := by
  unfold cutV
  rw [show (some (1 : Int)) = some ((1 : Nat) : Int) from rfl, show (some (2 : Int)) = some ((2 : Nat) : Int) from rfl, HT.sIx_nat, HT.sIx_nat]
  match xs with
  | [] => rfl
  | [_] => rfl
  | _ :: _ :: r => 
    have h1 : min 1 (r.length + 1 + 1) = 1 := by omega
    have h2 : min 2 (r.length + 1 + 1) = 2 := by omega
    simp only [List.length_cons, h1, h2]
/-! lists of numbers as data -/
def dIn (l : List (Nat × List Nat)) : List PyData := l.map fun q => .int (q.1 : Int)
def vIn (l : List (Nat × List Nat)) : List V := l.map fun q => .int (q.1 : Int)
theorem dIn_all {H : Hp} : ∀ l, DpAll K H (vIn l) (dIn l)
  | [] => .nil
  | _ :: l => .cons (.int _) (dIn_all l)
theorem canLay_dIn : ∀ l, PyData.canLayAll0 (dIn l) = true
  | [] => rfl
  | _ :: l => by
    show (true && PyData.canLayAll0 (dIn l)) = true
    rw [canLay_dIn l]
    rfl
theorem depth_dIn : ∀ l, PyData.depthAll (dIn l) ≤ 1
  | [] => Nat.zero_le _
  | q :: l => by
    show max (PyData.depth (.int (q.1 : Int))) (PyData.depthAll (dIn l)) ≤ 1
    exact Nat.max_le.mpr ⟨Nat.le_succ_of_le (Nat.le_of_eq rfl), depth_dIn l⟩
theorem shaped_dIn (l : List (Nat × List Nat)) : SeqAt.shaped (.list (dIn l)) = true := by
  unfold SeqAt.shaped
  rw [Bool.and_eq_true]
  refine ⟨canLay_dIn l, decide_eq_true ?_⟩
  show PyData.depthAll (dIn l) + 1 ≤ 64
  have := depth_dIn l
  omega
theorem eqv_dIn (l : List (Nat × List Nat)) : PyData.eqvAll (dIn l) (dTx []) = decide (l = []) := by
  cases l <;> rfl
theorem ok_ldue {f : Addr} {fd : FuncData} {k : Nat} (F : Fun K "_law_due" "_law_due" sLDue f fd) (DH : Df P w K mg base (k + 1) "_law_head" ["_law_line", "_law_word", "_law_signs_here", "_law_least", "_law_most"] spLHead) (DN : Df P w K mg base (k + 1) "_law_is_name" ["_law_value"] spLName) (DF : Df P w K mg base (k + 1) "_law_is_filling" ["_law_value", "_law_boxes"] spLFill) (DM : Df P w K mg base (k + 2) "_law_is_move" ["_law_words", "_law_letters", "_law_boxes", "_law_before"] spLMove) (ml : mg "len" = none) (me : mg "enumerate" = none) : FnOk P w K mg base CX0 (k + 3) f fd ["_law_text"] spLDue := by
  refine F.ok scLDue (fun vs H Q E h => ?_) (fun cdv A outer s H vs Q E hr h => ?_)
  · obtain ⟨cs, rfl, _⟩ := h
    rfl
  · obtain ⟨cs, rfl, ⟨hlen, hln, hlb⟩, h50, q⟩ := h
    have big : (1000000 : Nat) ≤ sizeLine := by rw [sizeLine_eq]; decide
    have hu64 : (A.deeper (envOfC (Str.ofString "_law_due") (defScope sLDue) s.heap.objs.size f cdv)).units + 64 < cLine := by
      have := hr.un
      omega
    refine ⟨_, pss_cons (ps_set (i := 1) scLDue.nd rfl (.inl rfl) (pe_split (pv 0) pe_str))
      (pss_cons (ps_set (i := 2) scLDue.nd rfl (.inl rfl) (pe_df DH hr (pa_cons (pe_ix ix_list (pv 1) pe_int (fun _ _ => rfl)) (pa_cons pe_str (pa_cons pe_str (pa_cons pe_int (pa_cons pe_int pa_nil)))))))
      (pss_cons (ps_if (pt_cmpR op_isN (pv 2) pe_non (nomark _)) (pss_one (ps_ret pe_int)) pss_nil)
      (pss_cons (ps_set (i := 3) scLDue.nd rfl (.inl rfl) (pe_ifExp (pt_cmpR op_gt (pe_callB call_lenS (by rfl) ml PySem.boot_len (pa_cons (pv 1) pa_nil)) pe_int (nomark _)) (pe_df DH hr (pa_cons (pe_ix ix_list (pv 1) pe_int (fun _ _ => rfl)) (pa_cons pe_str (pa_cons pe_str (pa_cons pe_int (pa_cons pe_int pa_nil)))))) pe_non))
      (pss_cons (ps_if (pt_cmpR op_isN (pv 3) pe_non (nomark _)) (pss_one (ps_ret pe_int)) pss_nil)
      (pss_cons (ps_asg (pe_tupS (pa_cons (pe_lstS pa_nil) (pa_cons (pe_lstS pa_nil) (pa_cons pe_str pa_nil)))) (pg_tup rfl (pgs_cons (pg_name (i := 4) scLDue.nd rfl (.inr rfl)) (pgs_cons (pg_name (i := 5) scLDue.nd rfl (.inl rfl)) (pgs_cons (pg_name (i := 6) scLDue.nd rfl (.inl rfl)) pgs_nil)))))
      (pss_cons (ps_for PassesOwn.never rfl (pi_enum (by rfl) me (pa_cons (pe_slice sl_listS (pv 1) (po_some pe_int) po_none) pa_nil)) (pg_tup rfl (pgs_cons (pg_name (i := 7) scLDue.nd rfl (.inl rfl)) (pgs_cons (pg_name (i := 8) scLDue.nd rfl (.inl rfl)) pgs_nil)))
        (pss_cons (ps_set (i := 9) scLDue.nd rfl (.inl rfl) (pe_split (pv 8) pe_str))
        (pss_cons (ps_if (pt_cmpR op_eq (pe_ix ix_list (pv 9) pe_int (fun _ _ => rfl)) pe_str (nomark _))
          (pss_cons (ps_set (i := 10) scLDue.nd rfl (.inl rfl) (pe_and (pe_cmpR op_in_seq (pe_callB call_lenS (by rfl) ml PySem.boot_len (pa_cons (pv 9) pa_nil)) (pe_tupS (pa_cons pe_int (pa_cons pe_int pa_nil))) (by rfl)) (pe_and (pe_df DN hr (pa_cons (pe_ix ix_list (pv 9) pe_int (fun _ _ => rfl)) pa_nil)) (pe_one (pe_cmpR op_notIn_seq (pe_ix ix_list (pv 9) pe_int (fun _ _ => rfl)) (pv 4) (by rfl))))))
          (pss_cons (ps_if (PW.pt (pw_and (pt_val (pv 10)) (pw_and (pt_cmpR op_eq (pe_callB call_lenS (by rfl) ml PySem.boot_len (pa_cons (pv 9) pa_nil)) pe_int (nomark _)) (pw_and1 (pt_cmpR op_ne (pe_ix ix_list (pv 9) pe_int (fun _ _ => rfl)) pe_str (nomark _))))))
            (pss_one (ps_set (i := 10) scLDue.nd rfl (.inl rfl) (pe_and (pe_cmpR op_ne (pe_ix ix_list (pv 9) pe_int (fun _ _ => rfl)) pe_str (nomark _)) (pe_one (pe_df DF hr (pa_cons (pe_ix ix_list (pv 9) pe_int (fun _ _ => rfl)) (pa_cons (pv 3) pa_nil))))))) pss_nil)
          (pss_one (ps_asg (pe_tupS (pa_cons (pe_op op_catS (pv 4) (pe_slice sl_listS (pv 9) (po_some pe_int) (po_some pe_int))) (pa_cons pe_str pa_nil))) (pg_tup rfl (pgs_cons (pg_name (i := 4) scLDue.nd rfl (.inr rfl)) (pgs_cons (pg_name (i := 6) scLDue.nd rfl (.inl rfl)) pgs_nil)))))))
          (pss_cons (ps_set (i := 10) scLDue.nd rfl (.inl rfl) (pe_and (pe_cmpR (op_neD hu64) (pv 4) (pe_lstS pa_nil) (nomark _)) (pe_one (pe_df DM hr (pa_cons (pv 9) (pa_cons (pv 2) (pa_cons (pv 3) (pa_cons (pv 6) pa_nil))))))))
          (pss_cons (ps_set (i := 6) scLDue.nd rfl (.inl rfl) (pe_ix ix_list (pv 9) pe_int (fun _ _ => rfl)))
          (pss_one (ps_expr (pe_bm PySem.F.plainAttrs_list PySem.F.slot_list_append PySem.F.type_list_append mt_append (pv 5) (pa_cons (pe_tupS (pa_cons (pe_slice sl_listS (pv 9) (po_some pe_int) (po_some pe_int)) (pa_cons (pe_op op_add (pv 7) pe_int) pa_nil))) pa_nil)))))))
        (pss_one (ps_if (pt_not (pt_val (pv 10))) (pss_one (ps_ret (pe_op op_add (pv 7) pe_int))) pss_nil)))))
      (pss_cons (ps_if (pt_cmpR op_lt (pe_callB call_lenS (by rfl) ml PySem.boot_len (pa_cons (pv 1) pa_nil)) pe_int (nomark _)) (pss_one (ps_ret pe_int)) pss_nil)
      (pss_cons (ps_setLc (i := 11) (own := [("_law_name_here", 12), ("_law_at", 7)]) (g := gTup K 2 (gCons (gName 12) (gCons (gName 7) gNil))) (tt := tTest (tOp (rIn K true) (tOp (rIxL K) (tVar 12) (tC (.int 0))) (tVar 4))) (te := tVar 7) rfl scLDue.nd rfl rfl (sw_true rfl rfl (by decide) (by decide))
          (pi_list (pv 5)) (blkOk_by (own := [("_law_name_here", 12), ("_law_at", 7)]) (N := nLDue) (sc := defScope sLDue) (by decide +kernel)) (fun _ _ _ _ _ => pg_tup rfl (pgs_cons (pg_name (i := 12) scLDue.nd rfl (.inl rfl)) (pgs_cons (pg_name (i := 7) scLDue.nd rfl (.inl rfl)) pgs_nil))) (fun _ _ _ _ _ => pts_one (pt_cmpR op_notIn_seq (pe_ix ix_list (pv 12) pe_int (fun _ _ => rfl)) (pv 4) (by rfl))) (fun _ _ _ _ _ => pv 7))
      (pss_one (ps_ret (pe_ifExp (pt_cmpR (op_neD hu64) (pv 11) (pe_lstS pa_nil) (nomark _)) (pe_ix ix_list (pv 11) pe_int (fun _ _ => rfl)) pe_non))))))))))), ?_⟩
    have qd : ∀ v, dueV cs = v → ∀ H', Same H H' → Q v H' := fun v e H' s' => e ▸ q H' s'
    refine ⟨_, rfl, ⟨_, rfl⟩, S cs, Str.ofString "\n", rfl, rfl, by decide +kernel, by rw [len_S]; omega, fun p0 np => ?_⟩
    rw [nl_str, split_any (by decide)]
    have due : dueV cs = match (match hdF (splL 10 cs) with
      | .inl n => (.inl n : Nat ⊕ (List Nat × List Nat × RS))
      | .inr q => match plF q.1 q.2 ((splL 10 cs).drop 2) with
        | .inl n => .inl n
        | .inr st => .inr (q.1, q.2, st)) with
      | .inl n => V.int (n : Int)
      | .inr _ => .non := rfl
    have lne : splL 10 cs ≠ [] := splL_ne 10 cs
    generalize splL 10 cs = ls at hln hlb h50 due lne ⊢
    have s1 := same_upd (o := .lst (txs ls)) np
    have e1 : (upd H p0 (.lst (txs ls))) p0 = some (.lst (txs ls)) := upd_same
    generalize upd H p0 (.lst (txs ls)) = H1 at s1 e1
    have g0 : 0 < ls.length := List.length_pos_iff.mpr lne
    have lw : (txs ls).length = ls.length := txs_len _
    obtain ⟨b1, _, b3⟩ := hlb _ (wd_mem g0)
    have isl : (fun c => decide (c ∈ az)) = isLow := funext low_az
    have isc : (fun c => decide (c ∈ AZ)) = isCap := funext cap_AZ
    refine ⟨_, rfl, p0, txs ls, 0, .str (S (wd ls 0)), rfl, rfl, SqL.of e1, atI_nat (j := 0) (wd_at g0), wd ls 0, lettersW, az, 1, 5, by rw [letters_str, az_str]; rfl, b1, b3, by decide, fun H2 s2 => ?_⟩
    rw [isl, lh_letters]
    unfold hdF at due
    refine ⟨_, rfl, rfl, decide (rlF (wd ls 0) = none), ?_, ?_⟩
    · cases rlF (wd ls 0) <;> rfl
    cases hL : rlF (wd ls 0) with
    | none =>
      rw [hL] at due
      exact iteT (qd _ due _ (s1.trans s2))
    | some L =>
    rw [hL] at due
    refine iteF ?_
    have due : dueV cs = match (match (if ls.length < 2 then (.inl 2 : Nat ⊕ (List Nat × List Nat)) else match rbF (wd ls 1) with
        | none => .inl 2
        | some B => if ls.length < 3 then .inl 3 else .inr (L, B)) with
      | .inl n => (.inl n : Nat ⊕ (List Nat × List Nat × RS))
      | .inr q => match plF q.1 q.2 (ls.drop 2) with
        | .inl n => .inl n
        | .inr st => .inr (q.1, q.2, st)) with
      | .inl n => V.int (n : Int)
      | .inr _ => .non := due
    have s02 := s1.trans s2
    have e1 := s2 _ _ e1
    refine ⟨_, rfl, p0, txs ls, rfl, .inl (SqL.of e1), _, _, rfl, rfl, decide (1 < ls.length), ?_, ?_⟩
    · rw [lw]
      refine congrArg V.bl ?_
      rw [decide_eq_decide]
      omega
    by_cases g1 : 1 < ls.length
    case neg =>
      rw [decide_eq_false g1]
      rw [if_pos (by omega)] at due
      exact iteF ⟨_, rfl, rfl, true, rfl, iteT (qd _ due _ s02)⟩
    rw [decide_eq_true g1]
    rw [if_neg (by omega)] at due
    obtain ⟨c1, _, c3⟩ := hlb _ (wd_mem g1)
    refine iteT ⟨_, rfl, p0, txs ls, 1, .str (S (wd ls 1)), rfl, rfl, SqL.of e1, atI_nat (j := 1) (wd_at g1), wd ls 1, boxesW, AZ, 0, 6, by rw [boxes_str, AZ_str]; rfl, c1, c3, by decide, fun H3 s3 => ?_⟩
    rw [isc, lh_boxes]
    refine ⟨_, rfl, rfl, decide (rbF (wd ls 1) = none), ?_, ?_⟩
    · cases rbF (wd ls 1) <;> rfl
    cases hB : rbF (wd ls 1) with
    | none =>
      rw [hB] at due
      exact iteT (qd _ due _ (s02.trans s3))
    | some B =>
    rw [hB] at due
    refine iteF ?_
    have due : dueV cs = match (match (if ls.length < 3 then (.inl 3 : Nat ⊕ (List Nat × List Nat)) else .inr (L, B)) with
      | .inl n => (.inl n : Nat ⊕ (List Nat × List Nat × RS))
      | .inr q => match plF q.1 q.2 (ls.drop 2) with
        | .inl n => .inl n
        | .inr st => .inr (q.1, q.2, st)) with
      | .inl n => V.int (n : Int)
      | .inr _ => .non := due
    have oL : L.length ≤ 1000 := by
      unfold rlF at hL
      split at hL
      · rename_i z
        cases hL
        have z := z.2.1
        unfold okLetters at z
        simp at z
        omega
      · cases hL
    have oB : B.length ≤ 1000 := by
      unfold rbF at hB
      split at hB
      · cases hB
        exact Nat.zero_le _
      · split at hB
        · rename_i z
          cases hB
          have z := z.2.2.1
          unfold okBoxes at z
          simp at z
          omega
        · cases hB
    refine ⟨by show 0 ≤ sizeLine; omega, fun g4 H4 s4 n4 e4 => ⟨by show 0 ≤ sizeLine; omega, fun g H5 s5 n5 e5 => ⟨by show 3 ≤ sizeLine; omega, fun T0 H6 s6 n6 e6 => ⟨T0, _, rfl, SqT.of e6, rfl, _, _, rfl, _, _, rfl, _, _, rfl, rfl, ?_⟩⟩⟩⟩
    have s06 := s02.trans (s3.trans (s4.trans (s5.trans s6)))
    have p0g : p0 ≠ g := ne_of_none ((s3.trans s4) _ _ e1) n5
    have e1 := (s3.trans (s4.trans (s5.trans s6))) _ _ e1
    refine ⟨_, rfl, _, rfl, p0, txs ls, rfl, SqL.of e1, fun c1 H7 s7 n7 e7 => ?_⟩
    obtain ⟨ds, hds⟩ : ∃ ds, ls.drop 2 = ds := ⟨_, rfl⟩
    rw [hds] at due
    have e7' : H7 c1 = some (.lst (txs ds)) := by
      rw [e7, cutV_drop2, ← hds]
      unfold txs
      rw [List.map_drop]
    have lds : ds.length ≤ 48 := by rw [← hds, List.length_drop]; omega
    have hdb : ∀ l ∈ ds, LnB l := fun l hl => hlb l (List.mem_of_mem_drop (hds ▸ hl))
    have s07 := s06.trans s7
    have eg : H7 g = some (.lst []) := (s6.trans s7) _ _ e5
    have e4' : H7 g4 = some (.lst (txs [])) := (s5.trans (s6.trans s7)) _ _ e4
    have ne4 : g4 ≠ g := ne_of_none e4 n5
    have c1g : c1 ≠ g := (ne_of_none (s6 _ _ e5) n7).symm
    have old : ∀ {H' : Hp} {pl ps es}, LdI H7 H' pl g ps es → Same H H' := fun r x o e => r.old x o (s07 _ _ e) (ne_of_none ((s02.trans (s3.trans s4)) _ _ e) n5)
    have e17 := s7 _ _ e1
    refine ⟨c1, txs ds, rfl, SqL.of e7', for_it (walk_enum (K := K) (a := c1) (xs := txs ds)) (fun i σ H' => ∃ v7 v8 v9 v10 pl st, σ = [some (.str (S cs)), some (.ref p0), some (.str (S L)), some (.str (S B)), some (.ref pl), some (.ref g), some (.str (S st.last)), v7, v8, v9, v10, none, none] ∧
        LdI H7 H' pl g st.ps st.ld ∧ st.ps.length ≤ i ∧ st.ld.length ≤ i ∧ Uni st.ps ∧ rdF L B 3 RS.init ds = rdF L B (3 + i) st (ds.drop i))
      ⟨none, none, none, none, g4, RS.init, by rw [S_nilstr]; rfl, ⟨fun _ _ e _ => e, e4', ⟨[], eg, .nil⟩, ne4⟩, Nat.le_refl _, Nat.le_refl _, (fun _ h => nomatch h), rfl⟩ (fun i σ H' _ ⟨_, _, _, _, _, _, _, r, _⟩ => SqL.of (r.old _ _ e7' c1g)) ?_ ?_⟩
    · rintro i x σ H8 H8' hi ⟨v7, v8, v9, v10, pl, st, rfl, r8, lps, lls, ups, hrd⟩ ⟨T, x1, y, rfl, nT, rfl, hx, hy⟩
      cases (Option.some.inj hx)
      obtain ⟨l, hl', rfl⟩ : ∃ l, ds[i]? = some l ∧ y = V.str (S l) := by
        have hy : (txs ds)[i]? = some y := hy
        unfold txs at hy
        rw [List.getElem?_map] at hy
        cases z : ds[i]? with
        | none => rw [z] at hy; cases hy
        | some l =>
          rw [z] at hy
          exact ⟨l, rfl, (Option.some.inj hy).symm⟩
      have hil : i < ds.length := (List.getElem?_eq_some_iff.mp hl').1
      have hdrop : ds.drop i = l :: ds.drop (i + 1) := by
        rw [List.drop_eq_getElem_cons hil]
        rw [List.getElem?_eq_getElem hil] at hl'
        rw [Option.some.inj hl']
      obtain ⟨lb1, lb2, lb3⟩ := hdb l (List.mem_of_getElem? hl')
      rw [hdrop, rdF_law (by omega)] at hrd
      refine ⟨T, _, rfl, SqT.of upd_same, rfl, _, _, rfl, _, _, rfl, rfl, ?_⟩
      have r9 := r8.same (same_upd (o := .tup [.int (i : Int), .str (S l)]) nT)
      generalize upd H8 T (.tup [.int (i : Int), .str (S l)]) = H9 at r9
      refine ⟨_, rfl, ⟨_, rfl⟩, S l, Str.ofString " ", rfl, rfl, by decide +kernel, by rw [len_S]; omega, fun p np => ?_⟩
      rw [sp_str, split_any (by decide)]
      have wne : splL 32 l ≠ [] := splL_ne 32 l
      have wfl : (splL 32 l).flatten.length ≤ 1000 := Nat.le_trans (splL_flat 32 l) lb1
      have wun : Uni (splL 32 l) := fun x hx c hc => lb3 c (splL_mem 32 l x hx c hc)
      generalize splL 32 l = ws at hrd lb2 wne wfl wun ⊢
      have wl : ∀ x ∈ ws, x.length ≤ 1000 := fun x hx => Nat.le_trans (len_flat hx) wfl
      have lws : (txs ws).length = ws.length := txs_len _
      have w0 : 0 < ws.length := List.length_pos_iff.mpr wne
      have s9 := same_upd (o := .lst (txs ws)) np
      have e9 : (upd H9 p (.lst (txs ws))) p = some (.lst (txs ws)) := upd_same
      have r10 := r9.same s9
      generalize upd H9 p (.lst (txs ws)) = H10 at s9 e9 r10
      refine ⟨_, rfl, p, txs ws, 0, .str (S (wd ws 0)), rfl, rfl, SqL.of e9, atI_nat (j := 0) (wd_at w0), rfl, decide (wd ws 0 = placeW), ?_, ?_⟩
      · rw [place_str, dec_S]
      have bad : rdF L B 3 RS.init ds = .inl (3 + i) → ∀ {H12 : Hp}, Same H H12 → Q (.int ((i : Int) + 3)) H12 := fun hb {H12} s' => by
        have l3 : ¬ ls.length < 3 := by
          have := congrArg List.length hds
          rw [List.length_drop] at this
          omega
        rw [if_neg l3] at due
        have due : dueV cs = match (match plF L B ds with
            | .inl n => (.inl n : Nat ⊕ (List Nat × List Nat × RS))
            | .inr st => .inr (L, B, st)) with
          | .inl n => V.int (n : Int)
          | .inr _ => .non := due
        have e : plF L B ds = .inl (3 + i) := by unfold plF; rw [hb]
        rw [e] at due
        refine qd _ ?_ _ s'
        rw [due]
        show V.int ((3 + i : Nat) : Int) = _
        rw [show ((3 + i : Nat) : Int) = (i : Int) + 3 by omega]
      by_cases hz : wd ws 0 = placeW
      · rw [decide_eq_true hz]
        rw [if_pos hz] at hrd
        have nin : ∀ v, inV (.str (S v)) (txs st.ps) = decide (v ∈ st.ps) := fun v => by
          unfold txs
          rw [inV_S]
        refine iteT (tAndV3 (ws.length = 2 ∨ ws.length = 3) (isName (wd ws 1) = true) (wd ws 1 ∉ st.ps) (fun R r => ?_) (fun c2 H11 s11 R r => ?_) (fun c2 c3 H11 s11 R r => ?_) (fun H11 s11 => ?_))
        · refine ⟨_, rfl, p, txs ws, rfl, .inl (SqL.of e9), by show 2 ≤ sizeLine; omega, fun t2 H11 s11 n11 e11 => ⟨t2, _, rfl, .inr (SqT.of e11), rfl, rfl, ?_⟩⟩
          rw [lws]
          have := r _ s11
          rw [← in23] at this
          exact this
        · exact ⟨_, rfl, p, txs ws, 1, .str (S (wd ws 1)), rfl, rfl, SqL.of (s11 _ _ e9), atI_nat (j := 1) (wd_at (by omega)), wd ws 1, rfl, wl _ (wd_mem (by omega)), fun H12 s12 => by
            have := r _ s12
            rw [show decide (isName (wd ws 1) = true) = isName (wd ws 1) by cases isName (wd ws 1) <;> rfl] at this
            exact this⟩
        · refine ⟨_, rfl, p, txs ws, 1, .str (S (wd ws 1)), rfl, rfl, SqL.of (s11 _ _ e9), atI_nat (j := 1) (wd_at (by omega)), _, rfl, pl, txs st.ps, rfl, .inl (SqL.of (r10.same s11).hp), rfl, ?_, ?_⟩
          · unfold txs
            rw [List.all_map, List.all_eq_true]
            exact fun _ _ => rfl
          · have := r _ (fun _ _ h => h)
            rw [show decide (wd ws 1 ∉ st.ps) = !decide (wd ws 1 ∈ st.ps) by rw [decide_not], ← nin] at this
            exact this
        · have e11 := s11 _ _ e9
          have r11 := r10.same s11
          dsimp only [gName]
          have hne3 : ∀ n : Nat, decide (V.int ((txs ws).length : Int) = V.int (n : Int)) = decide (ws.length = n) := fun n => by
            rw [lws, decide_eq_decide]
            exact ⟨fun z => by injection z with z; omega, fun z => by rw [z]⟩
          refine tSeqIf (σ' := [some (.str (S cs)), some (.ref p0), some (.str (S L)), some (.str (S B)), some (.ref pl), some (.ref g), some (.str (S st.last)), some (.int (i : Int)), some (.str (S l)), some (.ref p), some (.bl (decide (PlG ws st.ps B))), none, none])
            (((ws.length = 2 ∨ ws.length = 3) ∧ isName (wd ws 1) = true ∧ wd ws 1 ∉ st.ps) ∧ ws.length = 3 ∧ wd ws 2 ≠ [45]) (fun R r => ?_) (fun c D' h' => ?_) (fun c => ?_) (fun H12 s12 => ?_)
          · refine tAnd3 ((ws.length = 2 ∨ ws.length = 3) ∧ isName (wd ws 1) = true ∧ wd ws 1 ∉ st.ps) (ws.length = 3) (wd ws 2 ≠ [45]) (fun R2 r2 => ⟨_, rfl, _, rfl, r2⟩) (fun c R2 r2 => ⟨_, rfl, p, txs ws, rfl, .inl (SqL.of e11), rfl, _, congrArg V.bl (hne3 3), r2⟩) (fun c c3 R2 r2 => ⟨_, rfl, p, txs ws, 2, .str (S (wd ws 2)), rfl, rfl, SqL.of e11, atI_nat (j := 2) (wd_at (by omega)), rfl, !decide (wd ws 2 = [45]), by rw [dash_str, dec_S], by rw [decide_not] at r2; exact r2⟩) r
          · refine tAndV2 (wd ws 2 ≠ []) (isFill (wd ws 2) B = true) (fun R2 r2 => ⟨_, rfl, p, txs ws, 2, .str (S (wd ws 2)), rfl, rfl, SqL.of e11, atI_nat (j := 2) (wd_at (by omega)), rfl, ?_⟩) (fun c4 H13 s13 R2 r2 => ⟨_, rfl, p, txs ws, 2, .str (S (wd ws 2)), rfl, rfl, SqL.of (s13 _ _ e11), atI_nat (j := 2) (wd_at (by omega)), _, rfl, wd ws 2, B, rfl, wl _ (wd_mem (by omega)), oB, fun H14 s14 => ?_⟩) (fun H13 s13 => ?_)
            · have := r2 _ (fun _ _ h => h)
              rw [decide_not, ← dec_S, ← S_nilstr] at this
              exact this
            · have := r2 _ s14
              rw [show decide (isFill (wd ws 2) B = true) = isFill (wd ws 2) B by cases isFill (wd ws 2) B <;> rfl] at this
              exact this
            · have := h' _ s13
              rw [show decide (PlG ws st.ps B) = decide (wd ws 2 ≠ [] ∧ isFill (wd ws 2) B = true) by
                rw [decide_eq_decide]
                exact ⟨fun z => z.2 c.2.1 c.2.2, fun z => ⟨c.1, fun _ _ => z⟩⟩] at this
              exact this
          · show [some (V.str (S cs)), some (.ref p0), some (.str (S L)), some (.str (S B)), some (.ref pl), some (.ref g), some (.str (S st.last)), some (.int (i : Int)), some (.str (S l)), some (.ref p), some (.bl (decide ((ws.length = 2 ∨ ws.length = 3) ∧ isName (wd ws 1) = true ∧ wd ws 1 ∉ st.ps))), none, none] = _
            rw [show decide (PlG ws st.ps B) = decide ((ws.length = 2 ∨ ws.length = 3) ∧ isName (wd ws 1) = true ∧ wd ws 1 ∉ st.ps) by
              rw [decide_eq_decide]
              exact ⟨fun z => z.1, fun z => ⟨z, fun y1 y2 => absurd ⟨z, y1, y2⟩ c⟩⟩]
          have e12 := s12 _ _ e11
          have r12 := r11.same s12
          have lwk : ((ws.drop 1).take 1).length ≤ 1 := by rw [List.length_take]; omega
          refine ⟨_, rfl, _, rfl, _, rfl, _, rfl, p, txs ws, rfl, SqL.of e12, fun k1 H13 s13 n13 e13 => ?_⟩
          have e13' : H13 k1 = some (.lst (txs ((ws.drop 1).take 1))) := by
            rw [e13, cut12]
            unfold txs
            rw [List.map_take, List.map_drop]
          refine ⟨pl, k1, txs st.ps, txs ((ws.drop 1).take 1), txs (st.ps ++ (ws.drop 1).take 1), rfl, rfl, (r12.same s13).hp, e13', by rw [txs_len, txs_len]; omega, by unfold txs; rw [List.map_append], fun l2 H14 s14 n14 e14 => ⟨by show 2 ≤ sizeLine; omega, fun T3 H15 s15 n15 e15 => ⟨T3, _, rfl, SqT.of e15, rfl, _, _, rfl, _, _, rfl, rfl, _, rfl, _, rfl, ?_⟩⟩⟩
          by_cases hP : PlG ws st.ps B
          · rw [if_pos hP] at hrd
            have w2 : 1 < ws.length := by have := hP.1.1; omega
            have ew : (ws.drop 1).take 1 = [wd ws 1] := by
              match ws, w2 with
              | _ :: b :: r, _ => rfl
            rw [ew] at e14
            rw [decide_eq_true hP]
            refine iteF ⟨_, _, _, _, l2, stP st ws, by rw [S_nilstr]; rfl, ((r12.same s13).place s14 n14 e14).same s15, ?_, Nat.le_succ_of_le lls, ?_, hrd⟩
            · show (st.ps ++ [wd ws 1]).length ≤ _
              rw [List.length_append]
              simp only [List.length_singleton]
              omega
            · intro x hx c hc
              rcases List.mem_append.mp (show x ∈ st.ps ++ [wd ws 1] from hx) with z | z
              · exact ups x z c hc
              · rw [List.mem_singleton.mp z] at hc
                exact wun _ (wd_mem w2) c hc
          · rw [if_neg hP] at hrd
            rw [decide_eq_false hP]
            exact iteT ⟨_, rfl, _, _, rfl, rfl, bad hrd ((old r12).trans ((s13.trans s14).trans s15))⟩
      · rw [decide_eq_false hz]
        rw [if_neg hz] at hrd
        refine iteF (tAndV2 (st.ps ≠ []) (LmS ws L B st.last) (fun R r => ⟨_, rfl, by show 0 ≤ sizeLine; omega, fun k0 H11 s11 n11 e11 => ⟨_, _, dTx_lst (r10.same s11).hp, dTx_lst (l := []) e11, shaped_dTx ups, shaped_dTx (l := []) (fun _ h => nomatch h), ?_⟩⟩) (fun c2 H11 s11 R r => ⟨_, rfl, _, rfl, _, rfl, _, rfl, p, ws, L, B, st.last, rfl, s11 _ _ e9, lb2, wfl, wun, oL, oB, fun H12 s12 => r _ s12⟩) (fun H11 s11 => ?_))
        · have := r _ s11
          rw [show decide (st.ps ≠ []) = !decide (st.ps = []) by rw [decide_not], ← eqv_dTx] at this
          exact this
        · have e11 := s11 _ _ e9
          have r11 := r10.same s11
          obtain ⟨ts, hts, hpt⟩ := r11.hg
          have lwk : ((ws.drop 1).take 1).length ≤ 1 := by rw [List.length_take]; omega
          refine ⟨_, rfl, p, txs ws, 0, .str (S (wd ws 0)), rfl, rfl, SqL.of e11, atI_nat (j := 0) (wd_at w0), ?_⟩
          refine ⟨_, rfl, .inl ⟨rfl, _, SqL.of hts⟩, _, rfl, _, rfl, _, rfl, p, txs ws, rfl, SqL.of e11, fun k1 H13 s13 n13 e13 => ⟨_, rfl, _, _, rfl, rfl, by show 2 ≤ sizeLine; omega, fun T3 H14 s14 n14 e14 => ⟨g, _, _, rfl, rfl, (s13.trans s14) _ _ hts, by rw [List.length_map, Paired.length hpt]; omega, ?_⟩⟩⟩
          have e13' : H13 k1 = some (.lst (txs ((ws.drop 1).take 1))) := by
            rw [e13, cut12]
            unfold txs
            rw [List.map_take, List.map_drop]
          have r14 := r11.same (s13.trans s14)
          refine ⟨_, rfl, _, rfl, ?_⟩
          by_cases hP : st.ps ≠ [] ∧ LmS ws L B st.last
          · rw [if_pos hP] at hrd
            rw [decide_eq_true hP]
            have w2 : 1 < ws.length := by have := hP.2.1; omega
            have ew : (ws.drop 1).take 1 = [wd ws 1] := by
              match ws, w2 with
              | _ :: b :: r, _ => rfl
            rw [ew] at e13'
            have hq : LdL g H14 T3 (3 + i, wd ws 1) := ⟨k1, (ne_of_none hts n13).symm, by rw [e14]; show some (HO.tup [.ref k1, .int ((i : Int) + 3)]) = some (HO.tup [.ref k1, .int ((3 + i : Nat) : Int)]); rw [show ((3 + i : Nat) : Int) = (i : Int) + 3 by omega], s14 _ _ e13'⟩
            refine iteF ⟨_, _, _, _, pl, stM st (3 + i) ws, rfl, r14.lead ((s13.trans s14) _ _ hts) (Paired.mono (fun _ _ z => z.same (s13.trans s14)) hpt) hq, Nat.le_succ_of_le lps, ?_, ups, hrd⟩
            show (st.ld ++ [(3 + i, wd ws 1)]).length ≤ _
            rw [List.length_append]
            simp only [List.length_singleton]
            omega
          · rw [if_neg hP] at hrd
            rw [decide_eq_false hP]
            refine iteT ⟨_, rfl, _, _, rfl, rfl, bad hrd fun x o e => ?_⟩
            rw [upd_ne (ne_of_none ((s02.trans (s3.trans s4)) _ _ e) n5)]
            exact old r14 _ _ e
    · rintro σ H8 ⟨v7, v8, v9, v10, pl, st, rfl, r8, lps, lls, ups, hrd⟩
      rw [txs_len, List.drop_length] at hrd
      have hrd : rdF L B 3 RS.init ds = .inr st := hrd
      rw [txs_len] at lps lls
      have s08 := old r8
      refine ⟨_, rfl, p0, txs ls, rfl, .inl (SqL.of (r8.old _ _ e17 p0g)), _, _, rfl, rfl, decide (ls.length < 3), ?_, ?_⟩
      · rw [lw]
        refine congrArg V.bl ?_
        rw [decide_eq_decide]
        omega
      by_cases l3 : ls.length < 3
      · rw [decide_eq_true l3]
        rw [if_pos l3] at due
        exact iteT (qd _ due _ s08)
      rw [decide_eq_false l3]
      rw [if_neg l3] at due
      have due : dueV cs = match (match plF L B ds with
          | .inl n => (.inl n : Nat ⊕ (List Nat × List Nat × RS))
          | .inr st => .inr (L, B, st)) with
        | .inl n => V.int (n : Int)
        | .inr _ => .non := due
      have hpl : plF L B ds = match lost st with
          | some q => .inl q.1
          | none => .inr st := by
        unfold plF
        rw [hrd] <;> rfl
      obtain ⟨ts, hts, hpt⟩ := r8.hg
      refine iteF ⟨_, rfl, g, rfl, ⟨_, SqL.of hts⟩, fun D nD => lc_it (g := gTup K 2 (gCons (gName 12) (gCons (gName 7) gNil))) (tt := tTest (tOp (rIn K true) (tOp (rIxL K) (tVar 12) (tC (.int 0))) (tVar 4))) (te := tVar 7) (vs := [12, 7]) (walk_list (K := K) (a := g) (xs := ts.map V.ref)) (fun j Hc => Same H8 Hc ∧ Hc D = some (.lst (vIn ((st.ld.take j).filter fun q => decide (q.2 ∉ st.ps))))) ⟨same_upd nD, upd_same⟩ (fun j Hc _ h => SqL.of (h.1 _ _ hts)) ?_ ?_⟩
      · rintro j x Hc Hc' hj ⟨sc, eD⟩ ⟨rfl, hx⟩
        rw [List.getElem?_map] at hx
        cases z : ts[j]? with
        | none => rw [z] at hx; cases hx
        | some T =>
          rw [z] at hx
          cases (Option.some.inj hx)
          obtain ⟨c, hc, l, lg, eT, el⟩ := paired_get2 hpt z
          refine ⟨T, _, rfl, SqT.of (sc _ _ eT), rfl, _, _, rfl, _, _, rfl, rfl, rfl, ?_⟩
          have ht := take_succ hc
          refine ⟨_, rfl, l, [.str (S c.2)], 0, .str (S c.2), rfl, rfl, SqL.of (sc _ _ el), atI_nat (j := 0) rfl, _, rfl, pl, txs st.ps, rfl, .inl (SqL.of (sc _ _ r8.hp)), rfl, ?_, !decide (c.2 ∈ st.ps), ?_, ?_⟩
          · unfold txs
            rw [List.all_map, List.all_eq_true]
            exact fun _ _ => rfl
          · unfold txs
            rw [inV_S]
            rfl
          have ft : (st.ld.take (j + 1)).filter (fun q => decide (q.2 ∉ st.ps)) = (st.ld.take j).filter (fun q => decide (q.2 ∉ st.ps)) ++ (if c.2 ∈ st.ps then [] else [c]) := by
            rw [ht, List.filter_append]
            congr 1
            by_cases y : c.2 ∈ st.ps <;> simp [y]
          by_cases hin : c.2 ∈ st.ps
          · rw [decide_eq_true hin]
            refine iteF ⟨sc, ?_⟩
            rw [ft, if_pos hin, List.append_nil]
            exact eD
          · rw [decide_eq_false hin]
            refine iteT ⟨_, rfl, _, eD, ?_, fun b o eb => ?_, ?_⟩
            · unfold vIn
              rw [List.length_map]
              have h1 := List.length_filter_le (fun q : Nat × List Nat => decide (q.2 ∉ st.ps)) (st.ld.take j)
              rw [List.length_take] at h1
              omega
            · rw [upd_ne (ne_of_none eb nD)]
              exact sc _ _ eb
            · rw [upd_same, ft, if_neg hin]
              unfold vIn
              rw [List.map_append]
              rfl
      · rintro Hc ⟨sc, eD⟩
        rw [List.length_map, Paired.length hpt, List.take_length] at eD
        refine ⟨_, rfl, by show 0 ≤ sizeLine; omega, fun k0 H9 s9 n9 e9 => ?_⟩
        have eD9 := s9 _ _ eD
        have hf : (st.ld.filter fun q => decide (q.2 ∉ st.ps)).head? = lost st := by
          unfold lost
          rw [List.head?_filter]
        generalize st.ld.filter (fun q => decide (q.2 ∉ st.ps)) = zs at eD9 hf
        refine ⟨_, _, .lst (SqL.of eD9) (dIn_all zs), dTx_lst (l := []) e9, shaped_dIn zs, shaped_dTx (l := []) (fun _ h => nomatch h), !decide (zs = []), ?_, ?_⟩
        · rw [← eqv_dIn]
          rfl
        have s09 := s08.trans (sc.trans s9)
        cases zs with
        | nil =>
          rw [← hf] at hpl
          have hpl : plF L B ds = .inr st := hpl
          rw [hpl] at due
          exact iteF (qd _ due _ s09)
        | cons c r =>
          rw [← hf] at hpl
          have hpl : plF L B ds = .inl c.1 := hpl
          rw [hpl] at due
          exact iteT ⟨_, rfl, D, _, 0, _, rfl, rfl, SqL.of eD9, atI_nat (j := 0) rfl, qd _ due _ s09⟩
end
end Tb

set_option Elab.async false
set_option linter.all false
set_option maxRecDepth 100000
set_option maxHeartbeats 4000000
namespace Tb
open PySem PySem.Spec PyProof.Rows L2 TL
section
variable {P : Program} {w : World} {K : PySem.W.Frag} {mg : Str → Option Value} {base : Heap}
/-! ### the law's own lines -/
abbrev nLines : List Str := ["_law_parts", "_law_letters", "_law_boxes", "_law_places", "_law_moves", "_law_ends", "_law_lines_here", "_law_place", "_law_words", "_law_letter", "_law_to", "_law_fillings", "_law_box"]
theorem scLines : FnScope nLines ["_law_parts"] (defScope sLLines) := ⟨rfl, rfl, rfl, by decide +kernel, rfl, by decide +kernel, by decide +kernel⟩
abbrev rAddStr : R2 := fun x y H Q => ∃ i j, x = .str i ∧ y = .str j ∧ i.length + j.length ≤ sizeLine ∧ Q (.str (i ++ j)) H
def linesW (pt : Pt) : List (List Nat) := headW (sortN pt.letters) (sortN pt.boxes) ++ pt.places.flatMap (blockW (sortN pt.letters) (pt.moves.map keptM) pt.ends)
def spLines : Sp := fun vs H Q _ => ∃ (a : Addr) (pt : Pt), vs = [.ref a] ∧ PtAt H a pt ∧ GoodP pt ∧ ∀ p H', Same H H' → H p = none → H' p = some (.lst (txs (linesW pt))) → Q (.ref p) H'
def wordsF (fl : Fil) (bs : List Nat) : List (List Nat) := ((bs.map fun b => ([b], (getF fl [b]).getD [])).filter fun q : List Nat × List Nat => decide (q.2 ≠ [])).map fillWord
theorem wordsF_snoc {fl : Fil} {bs : List Nat} {b : Nat} {f : List Nat} (h : getF fl [b] = some f) : wordsF fl (bs ++ [b]) = wordsF fl bs ++ (if f ≠ [] then [fillWord ([b], f)] else []) := by
  unfold wordsF
  rw [List.map_append, List.filter_append, List.map_append]
  congr 1
  have e : ([b].map fun b => ([b], (getF fl [b]).getD [])) = [([b], f)] := by
    show [([b], (getF fl [b]).getD [])] = _
    rw [h]
    rfl
  rw [e]
  by_cases z : f = []
  · rw [if_neg (fun y => y z), z]
    rfl
  · rw [if_pos z]
    simp [z]
theorem len_S_sp : (Str.ofString " ").length = 1 := by decide +kernel
theorem placeWords_flat {c : List Nat} {e : Option (List Nat)} (hc : c.length ≤ 8) (he : ∀ f, e = some f → f.length ≤ 1000) : (placeWords c e).flatten.length + (placeWords c e).length * 1 ≤ 2000 := by
  cases e with
  | none =>
    show (placeW ++ (c ++ [])).length + 2 * 1 ≤ _
    rw [List.append_nil, List.length_append]
    show 5 + _ + _ ≤ _
    omega
  | some f =>
    have hf := he f rfl
    show (placeW ++ (c ++ ((if f = [] then [45] else f) ++ []))).length + 3 * 1 ≤ _
    rw [List.append_nil, List.length_append, List.length_append]
    have : (if f = [] then [45] else f).length ≤ 1000 := by
      split
      · decide
      · exact hf
    show 5 + (_ + _) + _ ≤ _
    omega
theorem placeWords_ok {σ : L2.St} {H : Hp} {Q : VK} {c : List Nat} {te : Addr} {es : Fil} (h7 : σ[7]? = some (some (.str (S c)))) (h5 : σ[5]? = some (some (.ref te))) (he : H te = some (.dK (fkv es))) (q : ∀ l H', Same H H' → H' l = some (.lst (txs (placeWords c (getF es c)))) → H l = none → Q (.ref l) H') :
    (tOp rCatS (tLstS (tCons (tC (.str (Str.ofString "place"))) (tCons (tVar 7) tNil))) (tIf (tB (tDIn (tVar 7) (tVar 5))) (tLstS (tCons (tIf (tTest (tOp rNe (tDGet (tVar 5) (tVar 7)) (tC (.str (Str.ofString ""))))) (tDGet (tVar 5) (tVar 7)) (tC (.str (Str.ofString "-")))) tNil)) (tLstS tNil))) σ H Q := by
  have big : (1000000 : Nat) ≤ sizeLine := by rw [sizeLine_eq]; decide
  refine ⟨_, h7, by show 2 ≤ sizeLine; omega, fun l1 H1 s1 n1 e1 => ?_⟩
  have e1' : H1 l1 = some (.lst (txs [placeW, c])) := by rw [e1, place_str]; rfl
  have hv : valV (fkv es) (Sum.inr (S c)) = (getF es c).map fun f => V.str (S f) := val_fkv c es
  refine ⟨_, h7, _, h5, te, _, rfl, DGet.k (k := Sum.inr (S c)) (s1 _ _ he), _, rfl, ?_⟩
  rw [hv]
  cases hg : getF es c with
  | none =>
    rw [hg] at q
    refine iteF ⟨by show 0 ≤ sizeLine; omega, fun l2 H2 s2 n2 e2 => ⟨l1, l2, _, _, _, rfl, rfl, s2 _ _ e1', e2, by show 2 + 0 ≤ sizeLine; omega, rfl, fun l3 H3 s3 n3 e3 => ?_⟩⟩
    refine q l3 H3 (s1.trans (s2.trans s3)) ?_ ((s1.trans s2).free n3)
    rw [e3, List.append_nil]
    rfl
  | some f =>
    rw [hg] at q
    refine iteT ?_
    rw [hg] at hv
    have hv : valV (fkv es) (Sum.inr (S c)) = some (.str (S f)) := hv
    refine ⟨_, h5, _, h7, te, .str (S f), rfl, hv ▸ DGet.k (k := Sum.inr (S c)) (s1 _ _ he), rfl, decide (f ≠ []), ?_, ?_⟩
    · rw [S_nilstr]
      by_cases z : f = []
      · rw [z]
        rfl
      · have := S_ne z
        rw [decide_eq_false this, decide_eq_true z]
        rfl
    have fin : ∀ x : List Nat, x = (if f = [] then [45] else f) → (1 ≤ sizeLine ∧ New H1 (.lst [V.str (S x)]) fun v H2 => rCatS (.ref l1) v H2 Q) := by
      intro x hx
      refine ⟨by omega, fun l2 H2 s2 n2 e2 => ⟨l1, l2, _, _, _, rfl, rfl, s2 _ _ e1', e2, by show 2 + 1 ≤ sizeLine; omega, rfl, fun l3 H3 s3 n3 e3 => ?_⟩⟩
      refine q l3 H3 (s1.trans (s2.trans s3)) ?_ ((s1.trans s2).free n3)
      rw [e3, hx]
      rfl
    by_cases z : f = []
    · rw [decide_eq_false (fun y => y z)]
      refine iteF ?_
      rw [dash_str]
      exact fin [45] (by rw [if_pos z])
    · rw [decide_eq_true z]
      exact iteT ⟨_, h5, _, h7, te, .str (S f), rfl, hv ▸ DGet.k (k := Sum.inr (S c)) (s1 _ _ he), fin f (by rw [if_neg z])⟩
theorem ok_lines {f : Addr} {fd : FuncData} {k : Nat} (F : Fun K "_law_lines" "_law_lines" sLLines f fd) (ms' : mg "sorted" = none) (mI : mg "int" = none) : FnOk P w K mg base CX0 (k + 1) f fd ["_law_parts"] spLines := by
  refine F.ok scLines (fun vs H Q E h => ?_) (fun cdv A outer s H vs Q E hr h => ?_)
  · obtain ⟨a, pt, rfl, _⟩ := h
    rfl
  · obtain ⟨a, pt, rfl, hp, g, q⟩ := h
    have hu := hu_of hr
    have big : (1000000 : Nat) ≤ sizeLine := by rw [sizeLine_eq]; decide
    refine ⟨_, pss_cons (ps_asg (pv 0) (pg_unl rfl (pgs_cons (pg_name (i := 1) scLines.nd rfl (.inl rfl)) (pgs_cons (pg_name (i := 2) scLines.nd rfl (.inl rfl)) (pgs_cons (pg_name (i := 3) scLines.nd rfl (.inl rfl)) (pgs_cons (pg_name (i := 4) scLines.nd rfl (.inl rfl)) (pgs_cons (pg_name (i := 5) scLines.nd rfl (.inl rfl)) pgs_nil)))))))
      (pss_cons (ps_set (i := 6) scLines.nd rfl (.inl rfl) (pe_lstS (pa_cons (pe_op op_add_str pe_str (pe_join pe_str (pe_callB (call_sortStr rfl) (by rfl) ms' (by decide +kernel) (pa_cons (pv 1) pa_nil)))) (pa_cons (pe_join pe_str (pe_op op_catS (pe_lstS (pa_cons pe_str pa_nil)) (pe_op op_repS (pe_lstS (pa_cons (pe_join pe_str (pe_callB (call_sortStr rfl) (by rfl) ms' (by decide +kernel) (pa_cons (pv 2) pa_nil))) pa_nil)) (pe_callTy call_int1 (by rfl) mI (by decide +kernel) (pa_cons (pe_cmpR op_ne (pv 2) pe_str (nomark _)) pa_nil))))) pa_nil))))
      (pss_cons (ps_for PassesOwn.never rfl (pi_list (pv 3)) (pg_name (i := 7) scLines.nd rfl (.inl rfl))
        (pss_cons (ps_set (i := 8) scLines.nd rfl (.inl rfl) (pe_op op_catS (pe_lstS (pa_cons pe_str (pa_cons (pv 7) pa_nil))) (pe_ifExp (pt_cmp (pc_din hu (pv 7) (pv 5))) (pe_lstS (pa_cons (pe_ifExp (pt_cmpR op_ne (pe_dget hu (pv 5) (pv 7) (fun _ _ => rfl)) pe_str (nomark _)) (pe_dget hu (pv 5) (pv 7) (fun _ _ => rfl)) pe_str) pa_nil)) (pe_lstS pa_nil))))
        (pss_cons (ps_expr (pe_bm PySem.F.plainAttrs_list PySem.F.slot_list_append PySem.F.type_list_append mt_append (pv 6) (pa_cons (pe_join pe_str (pv 8)) pa_nil)))
        (pss_one (ps_for PassesOwn.never rfl (pi_list (pe_callB (call_sortStr rfl) (by rfl) ms' (by decide +kernel) (pa_cons (pv 1) pa_nil))) (pg_name (i := 9) scLines.nd rfl (.inl rfl))
          (pss_one (ps_if (pt_cmp (pc_din hu (pe_tupS (pa_cons (pv 7) (pa_cons (pv 9) pa_nil))) (pv 4)))
            (pss_cons (ps_asg (pe_dget hu (pv 4) (pe_tupS (pa_cons (pv 7) (pa_cons (pv 9) pa_nil))) (fun _ _ => rfl)) (pg_tup rfl (pgs_cons (pg_name (i := 10) scLines.nd rfl (.inl rfl)) (pgs_cons (pg_name (i := 11) scLines.nd rfl (.inr rfl)) pgs_nil))))
            (pss_cons (ps_set (i := 8) scLines.nd rfl (.inl rfl) (pe_op op_catS (pe_lstS (pa_cons (pv 9) (pa_cons (pv 10) pa_nil))) (pe_lc (own := [("_law_box", 12)]) (g := gName 12) (tt := tTest (tOp rNe (tDGet (tVar 11) (tVar 12)) (tC (.str "")))) (te := tOp rAddStr (tOp rAddStr (tVar 12) (tC (.str "="))) (tDGet (tVar 11) (tVar 12))) rfl scLines.nd
              (pi_list (pe_callB (call_sortedD rfl) (by rfl) ms' (by decide +kernel) (pa_cons (pv 11) pa_nil))) (blkOk_by (own := [("_law_box", 12)]) (N := nLines) (sc := defScope sLLines) (by decide +kernel)) (fun _ _ _ _ _ => pg_name (i := 12) scLines.nd rfl (.inl rfl)) (fun _ _ _ _ _ => pts_one (pt_cmpR op_ne (pe_dget hu (pv 11) (pv 12) (fun _ _ => rfl)) pe_str (nomark _))) (fun _ _ _ _ _ => pe_op op_add_str (pe_op op_add_str (pv 12) pe_str) (pe_dget hu (pv 11) (pv 12) (fun _ _ => rfl))))))
            (pss_one (ps_expr (pe_bm PySem.F.plainAttrs_list PySem.F.slot_list_append PySem.F.type_list_append mt_append (pv 6) (pa_cons (pe_join pe_str (pv 8)) pa_nil))))))
            pss_nil)))))))
      (pss_one (ps_ret (pv 6))))), ?_⟩
    obtain ⟨tp, tm, te, kvs, hL, htp, htm, hmv, hte⟩ := hp.ex
    have lL : pt.letters.length < 64 := by have := g.l5; omega
    have lB : pt.boxes.length < 64 := by have := g.b6; omega
    refine ⟨_, rfl, a, _, rfl, SqL.of hL, rfl, _, _, rfl, _, _, rfl, _, _, rfl, _, _, rfl, _, _, rfl, rfl, ?_⟩
    -- the head
    refine ⟨⟨_, rfl⟩, _, rfl, pt.letters, rfl, lL, fun ys hpm hs p1 H1 s1 n1 e1 => ?_⟩
    have ey := sorted_signs hpm hs
    subst ey
    refine ⟨_, p1, (sortN pt.letters).map fun c => S [c], rfl, rfl, .inl (SqL.of e1), ?_, ?_⟩
    · have h1 : (sortN pt.letters).length < 64 := by rw [(sortN_perm _).length_eq]; exact lL
      rw [sum_ones, str_empty, len_S]
      show _ + _ * 0 ≤ _
      omega
    rw [str_empty, join_signs]
    have ll : (S (sortN pt.letters)).length ≤ 64 := by rw [len_S, (sortN_perm _).length_eq]; omega
    refine ⟨_, _, rfl, rfl, ?_, ?_⟩
    · show 8 + _ ≤ _
      omega
    obtain ⟨bw, hbw⟩ : ∃ bw : List (List Nat), bw = if pt.boxes = [] then [] else [sortN pt.boxes] := ⟨_, rfl⟩
    have hkb : (if (!decide (V.str (S pt.boxes) = V.str (S []))) = true then (1 : Int) else 0) = if pt.boxes = [] then 0 else 1 := by
      by_cases z : pt.boxes = []
      · rw [z]
        rfl
      · rw [decide_eq_false (S_ne z), if_neg z]
        rfl
    have hrep : (List.replicate (if (!decide (V.str (S pt.boxes) = V.str (S []))) = true then (1 : Int) else 0).toNat [V.str (S (sortN pt.boxes))]).flatten = txs bw := by
      rw [hkb, hbw]
      by_cases z : pt.boxes = []
      · rw [if_pos z, if_pos z]
        rfl
      · rw [if_neg z, if_neg z]
        rfl
    have hbw2 : boxesW :: bw = if sortN pt.boxes = [] then [boxesW] else [boxesW, sortN pt.boxes] := by
      rw [hbw]
      by_cases z : pt.boxes = []
      · rw [if_pos z, z, if_pos (show sortN [] = [] by unfold sortN; simp)]
      · rw [if_neg z, if_neg]
        intro y
        have := (sortN_perm pt.boxes).length_eq
        rw [y] at this
        exact z (List.length_eq_zero_iff.mp this.symm)
    have hbl : bw.flatten.length ≤ 6 ∧ bw.length ≤ 1 := by
      rw [hbw]
      by_cases z : pt.boxes = []
      · rw [if_pos z]
        exact ⟨Nat.zero_le _, Nat.zero_le _⟩
      · rw [if_neg z]
        refine ⟨?_, Nat.le_refl _⟩
        rw [List.flatten_cons, List.flatten_nil, List.append_nil, (sortN_perm _).length_eq]
        exact g.b6
    refine ⟨⟨_, rfl⟩, by show 1 ≤ sizeLine; omega, fun b1 H2 s2 n2 e2 => ?_⟩
    refine ⟨⟨_, rfl⟩, _, rfl, pt.boxes, rfl, lB, fun ys hpm hs p2 H3 s3 n3 e3 => ?_⟩
    have ey := sorted_signs hpm hs
    subst ey
    refine ⟨_, p2, (sortN pt.boxes).map fun c => S [c], rfl, rfl, .inl (SqL.of e3), ?_, by show 1 ≤ sizeLine; omega, fun b2 H4 s4 n4 e4 => ?_⟩
    · have h1 : (sortN pt.boxes).length < 64 := by rw [(sortN_perm _).length_eq]; exact lB
      rw [sum_ones, len_S]
      show _ + _ * 0 ≤ _
      omega
    rw [join_signs] at e4
    refine ⟨_, rfl, rfl, .inr ⟨_, rfl, ⟨b2, _, [.str (S (sortN pt.boxes))], txs bw, rfl, rfl, e4, ?_, ?_, ?_, hrep, fun b3 H5 s5 n5 e5 => ?_⟩⟩⟩
    · rw [hkb]
      split <;> decide
    · rw [hkb]
      split <;> decide
    · rw [hkb]
      show 1 * _ ≤ _
      split
      · show 1 * 0 ≤ _
        omega
      · show 1 * 1 ≤ _
        omega
    refine ⟨b1, b3, _, _, txs (boxesW :: bw), rfl, rfl, (s3.trans (s4.trans s5)) _ _ e2, e5, ?_, by rw [boxes_str]; rfl, fun b4 H6 s6 n6 e6 => ?_⟩
    · show 1 + (txs bw).length ≤ _
      rw [txs_len]
      omega
    refine ⟨_, b4, (boxesW :: bw).map S, rfl, rfl, .inl (SqL.of (by rw [e6]; unfold txs; rw [List.map_map]; rfl)), ?_, by show 2 ≤ sizeLine; omega, fun gg H7 s7 n7 e7 => ?_⟩
    · rw [flat_len, sp_str, len_S, List.length_map]
      show (boxesW ++ bw.flatten).length + (bw.length + 1) * 1 ≤ _
      rw [List.length_append]
      show 5 + _ + _ ≤ _
      omega
    have e7' : H7 gg = some (.lst (txs (headW (sortN pt.letters) (sortN pt.boxes)))) := by
      rw [e7, sp_str, join_S, hbw2]
      unfold headW txs
      have : Str.ofString "letters " ++ S (sortN pt.letters) = S (joinL [32] [lettersW, sortN pt.letters]) := by
        rw [show Str.ofString "letters " = S (lettersW ++ [32]) by decide +kernel, S_app]
        show S (lettersW ++ [32] ++ _) = S (lettersW ++ ([32] ++ _))
        rw [List.append_assoc]
        rfl
      rw [this]
      rfl
    have sA := s1.trans (s2.trans (s3.trans (s4.trans (s5.trans s6))))
    have s07 := sA.trans s7
    have nHg : H gg = none := sA.free n7
    have tx := g.tx
    have hmg := g.mv
    have fq := fun m hm => g.filq (pt := pt) (m := m) hm
    have kql := fun m hm => g.keptl (pt := pt) (m := m) hm
    have kqw := fun m hm => g.keptws (pt := pt) (m := m) hm
    have to8 : ∀ m ∈ pt.moves, m.to.length ≤ 8 := fun m hm => (g.pp _ (g.mv m hm).2.2.1).2.1
    have fl6 := fun m hm => g.flen (pt := pt) (m := m) hm
    have fb := fun m hm => (g.fok (pt := pt) (m := m) hm).len
    have l5 : (sortN pt.letters).length ≤ 5 := tx.l
    obtain ⟨L, hLs⟩ : ∃ L, L = sortN pt.letters := ⟨_, rfl⟩
    obtain ⟨ms, hms⟩ : ∃ ms, ms = pt.moves.map keptM := ⟨_, rfl⟩
    unfold linesW at q
    rw [← hLs, ← hms] at q
    rw [← hLs] at e7' l5
    obtain ⟨hd, hhd⟩ : ∃ hd, hd = headW L (sortN pt.boxes) := ⟨_, rfl⟩
    have hdl : hd.length = 2 := by rw [hhd]; rfl
    rw [← hhd] at e7' q
    have up : ∀ {H' : Hp} {o : HO}, Same H H' → Same H (upd H' gg o) := fun s' b o eb => by
      rw [upd_ne (ne_of_none eb nHg)]
      exact s' _ _ eb
    refine ⟨_, rfl, tp, rfl, ⟨_, SqL.of (s07 _ _ htp)⟩, for_it (walk_list (K := K) (a := tp) (xs := txs pt.places)) (fun i σ H' => ∃ (v7 v8 v9 v10 v11 : Option V) (ls : List (List Nat)), σ = [some (.ref a), some (.str (S pt.letters)), some (.str (S pt.boxes)), some (.ref tp), some (.ref tm), some (.ref te), some (.ref gg), v7, v8, v9, v10, v11, none] ∧ Same H H' ∧ H' gg = some (.lst (txs ls)) ∧ ls = hd ++ (pt.places.take i).flatMap (blockW L ms pt.ends) ∧ ls.length ≤ 2 + 6 * i)
      ⟨none, none, none, none, none, hd, rfl, s07, e7', by simp, by omega⟩ (fun i σ H' _ ⟨_, _, _, _, _, _, _, s', _⟩ => SqL.of (s' _ _ htp)) ?_ ?_⟩
    · rintro i x σ H8 H8' hi ⟨v7, v8, v9, v10, v11, ls, rfl, s8, e8, hls, hn⟩ ⟨rfl, hx⟩
      obtain ⟨c, hc, rfl⟩ : ∃ c, pt.places[i]? = some c ∧ x = V.str (S c) := by
        unfold txs at hx
        rw [List.getElem?_map] at hx
        cases z : pt.places[i]? with
        | none =>
          rw [z] at hx
          cases hx
        | some c =>
          rw [z] at hx
          exact ⟨c, rfl, (Option.some.inj hx).symm⟩
      have hcl := tx.c c (List.mem_of_getElem? hc)
      have hi50 : i < 50 := by
        have := (List.getElem?_eq_some_iff.mp hc).1
        have := tx.p
        omega
      have he := tx.e c
      have lpl := placeLine_len hcl he
      refine placeWords_ok (c := c) (te := te) (es := pt.ends) rfl rfl (s8 _ _ hte) fun l H9 s9 e9 n9 => ?_
      have e9g := s9 _ _ e8
      refine ⟨_, rfl, .inl ⟨rfl, _, SqL.of e9g⟩, ⟨⟨_, rfl⟩, _, rfl, Str.ofString " ", l, (placeWords c (getF pt.ends c)).map S, rfl, rfl, .inl (SqL.of (by rw [e9]; unfold txs; rw [List.map_map]; rfl)), ?_, ⟨gg, _, _, rfl, rfl, e9g, by rw [txs_len]; omega, ?_⟩⟩⟩
      · rw [flat_len, len_S_sp, List.length_map]
        have := placeWords_flat (c := c) (e := getF pt.ends c) hcl he
        omega
      rw [sp_str, join_S, show joinL [32] (placeWords c (getF pt.ends c)) = placeLine c (getF pt.ends c) from rfl]
      have e10 : (upd H9 gg (.lst (txs ls ++ [.str (S (placeLine c (getF pt.ends c)))]))) gg = some (.lst (txs (ls ++ [placeLine c (getF pt.ends c)]))) := by
        rw [upd_same]
        unfold txs
        rw [List.map_append]
        rfl
      have s10 := up (o := .lst (txs ls ++ [.str (S (placeLine c (getF pt.ends c)))])) (s8.trans s9)
      generalize upd H9 gg (.lst (txs ls ++ [.str (S (placeLine c (getF pt.ends c)))])) = H10 at e10 s10
      refine ⟨_, rfl, pt.letters, rfl, lL, fun ys hpm hs q1 H11 s11 n11 e11 => ?_⟩
      have ey := sorted_signs hpm hs
      subst ey
      have e11' : H11 q1 = some (.lst (sgs L)) := by
        rw [e11, hLs]
        unfold sgs
        rw [List.map_map]
        rfl
      have q1g : q1 ≠ gg := (ne_of_none e10 n11).symm
      refine ⟨q1, rfl, ⟨_, SqL.of e11'⟩, for_it (walk_list (K := K) (a := q1) (xs := sgs L)) (fun j σ H' => ∃ (v8 v9 v10 v11 : Option V) (l2 : List (List Nat)), σ = [some (.ref a), some (.str (S pt.letters)), some (.str (S pt.boxes)), some (.ref tp), some (.ref tm), some (.ref te), some (.ref gg), some (.str (S c)), v8, v9, v10, v11, none] ∧ Same H H' ∧ H' q1 = some (.lst (sgs L)) ∧ H' gg = some (.lst (txs l2)) ∧ l2 = ls ++ [placeLine c (getF pt.ends c)] ++ moveLines ms c (L.take j) ∧ l2.length ≤ ls.length + 1 + j)
        ⟨some (.ref l), v9, v10, v11, ls ++ [placeLine c (getF pt.ends c)], rfl, s10.trans s11, e11', s11 _ _ e10, (List.append_nil _).symm, by rw [List.length_append]; exact Nat.le_refl _⟩ (fun j σ H' _ ⟨_, _, _, _, _, _, _, e', _⟩ => SqL.of e') ?_ ?_⟩
      · rintro j x σ H12 H12' hj ⟨w8, w9, w10, w11, l2, rfl, s12, eq12, e12, hl2, hn2⟩ ⟨rfl, hx⟩
        obtain ⟨al, ha, rfl⟩ : ∃ al, L[j]? = some al ∧ x = V.str (S [al]) := by
          unfold sgs at hx
          rw [List.getElem?_map] at hx
          cases z : L[j]? with
          | none =>
            rw [z] at hx
            cases hx
          | some al =>
            rw [z] at hx
            exact ⟨al, rfl, (Option.some.inj hx).symm⟩
        have hj5 : j < 5 := by
          have := (List.getElem?_eq_some_iff.mp ha).1
          omega
        have et := take_succ ha
        refine ⟨_, rfl, _, rfl, by show 2 ≤ sizeLine; omega, fun kT H13 s13 n13 e13 => ?_⟩
        have s013 := s12.trans s13
        refine ⟨_, rfl, tm, _, rfl, DGet.t (k := mkey c al) (s013 _ _ htm) e13, _, rfl, ?_⟩
        have hv := val_moves (pl := c) (c := al) hmv
        have hfk := findM_kept pt.moves c al
        rw [← hms] at hfk
        cases hf : findM pt.moves c al with
        | none =>
          rw [hf] at hv hfk
          have hv' : valV kvs (mkey c al) = none := hv
          rw [hv']
          refine iteF ⟨_, _, _, _, l2, rfl, s013, s13 _ _ eq12, s13 _ _ e12, ?_, by omega⟩
          have hfk : findM ms c al = none := hfk
          rw [hl2, et, moveLines_snoc, hfk, List.append_nil]
        | some m =>
          rw [hf] at hv hfk
          have hfk : findM ms c al = some (keptM m) := hfk
          obtain ⟨tt, fd', hv', htt, hfd⟩ := hv
          rw [hv']
          have hmm : m ∈ pt.moves := by
            unfold findM at hf
            exact List.mem_of_find?_eq_some hf
          refine iteT ⟨_, rfl, _, rfl, _, rfl, by show 2 ≤ sizeLine; omega, fun kT2 H14 s14 n14 e14 => ?_⟩
          have s014 := s013.trans s14
          refine ⟨tm, .ref tt, rfl, hv' ▸ DGet.t (k := mkey c al) (s014 _ _ htm) e14, tt, _, rfl, SqT.of (s014 _ _ htt), rfl, _, _, rfl, _, _, rfl, rfl, ?_⟩
          refine ⟨_, rfl, _, rfl, by show 2 ≤ sizeLine; omega, fun l1 H15 s15 n15 e15 => ?_⟩
          have s015 := s014.trans s15
          have hq := fq m hmm
          have hks : (fkv m.fl).map (·.1) = ((m.fl.map fun q => q.1.headD 0).map fun b => S [b]).map Sum.inr := by
            have h1 : (fkv m.fl).map (·.1) = (m.fl.map (·.1)).map fun c => (Sum.inr (S c) : Key) := by
              unfold fkv
              rw [List.map_map, List.map_map]
              rfl
            rw [h1, heads_keys hq.ones]
            simp only [List.map_map]
            rfl
          have hfl6 := fl6 m hmm
          refine ⟨_, rfl, fd', fkv m.fl, _, rfl, .inl (s015 _ _ hfd), hks, by rw [List.length_map, List.length_map]; omega, fun ys q2 hp hs nq2 => ?_⟩
          have ey := sorted_signs hp hs
          obtain ⟨hds, hhds⟩ : ∃ hds, hds = sortN (m.fl.map fun q => q.1.headD 0) := ⟨_, rfl⟩
          have ey2 : ys.map V.str = sgs hds := by
            rw [ey, hhds]
            unfold sgs
            rw [List.map_map]
            rfl
          have s16 := same_upd (o := .lst (ys.map V.str)) nq2
          have e16 : (upd H15 q2 (.lst (ys.map V.str))) q2 = some (.lst (sgs hds)) := by rw [upd_same, ey2]
          generalize upd H15 q2 (.lst (ys.map V.str)) = H16 at s16 e16
          have s016 := s015.trans s16
          have lhd : hds.length ≤ 6 := by rw [hhds, (sortN_perm _).length_eq, List.length_map]; exact hfl6
          have hget : ∀ b ∈ hds, ∃ f, getF m.fl [b] = some f ∧ valV (fkv m.fl) (Sum.inr (S [b])) = some (.str (S f)) ∧ f.length ≤ 100 := fun b hb => by
            rw [hhds] at hb
            have hb2 := (sortN_perm _).mem_iff.mp hb
            obtain ⟨f, e⟩ := get_kept hq.ones hb2
            refine ⟨f, e, by rw [val_fkv, e]; rfl, ?_⟩
            have hf2 : f ∈ m.fl.map (·.2) := by
              unfold getF at e
              obtain ⟨qq, hqq, rfl⟩ := Option.map_eq_some_iff.mp e
              exact List.mem_map.mpr ⟨qq, List.mem_of_find?_eq_some hqq, rfl⟩
            exact Nat.le_trans (len_flat hf2) (fb m hmm)
          refine ⟨q2, rfl, ⟨_, SqL.of e16⟩, fun D nD => lc_it (g := gName 12) (vs := [12]) (walk_list (K := K) (a := q2) (xs := sgs hds)) (fun i H' => Same H16 H' ∧ H' D = some (.lst (txs (wordsF m.fl (hds.take i))))) ⟨same_upd nD, upd_same⟩ (fun i H' _ h => SqL.of (h.1 _ _ e16)) ?_ ?_⟩
          · rintro i x H17 H17' hi ⟨s17, e17⟩ ⟨rfl, hx⟩
            obtain ⟨b, hb, rfl⟩ : ∃ b, hds[i]? = some b ∧ x = V.str (S [b]) := by
              unfold sgs at hx
              rw [List.getElem?_map] at hx
              cases z : hds[i]? with
              | none =>
                rw [z] at hx
                cases hx
              | some b =>
                rw [z] at hx
                exact ⟨b, rfl, (Option.some.inj hx).symm⟩
            obtain ⟨f, g1, g2, g3⟩ := hget b (List.mem_of_getElem? hb)
            have dg : DGet H17' fd' (.str (S [b])) (some (.str (S f))) := g2 ▸ DGet.k (k := Sum.inr (S [b])) (s17 _ _ (s016 _ _ hfd))
            have ets := take_succ hb
            refine ⟨rfl, _, rfl, _, rfl, fd', .str (S f), rfl, dg, rfl, decide (f ≠ []), ?_, ?_⟩
            · by_cases z : f = []
              · rw [z]
                rfl
              · rw [decide_eq_false (S_ne z), decide_eq_true z]
                rfl
            by_cases z : f = []
            · rw [decide_eq_false (fun y => y z)]
              refine iteF ⟨s17, ?_⟩
              rw [ets, wordsF_snoc g1, if_neg (fun y => y z), List.append_nil]
              exact e17
            · rw [decide_eq_true z]
              refine iteT ⟨_, rfl, S [b], Str.ofString "=", rfl, rfl, by rw [len_S]; show 1 + 1 ≤ _; omega, _, rfl, _, rfl, fd', .str (S f), rfl, dg, S [b] ++ Str.ofString "=", S f, rfl, rfl, ?_, _, e17, ?_, ?_, ?_⟩
              · rw [eq_str, S_app, len_S, len_S]
                show 2 + _ ≤ _
                omega
              · rw [txs_len]
                have : (wordsF m.fl (hds.take i)).length ≤ 6 := by
                  unfold wordsF
                  rw [List.length_map]
                  refine Nat.le_trans (List.length_filter_le _ _) ?_
                  rw [List.length_map, List.length_take]
                  omega
                omega
              · intro b' o eb
                rw [upd_ne (ne_of_none eb nD)]
                exact s17 _ _ eb
              · rw [upd_same, ets, wordsF_snoc g1, if_pos z]
                unfold txs
                rw [List.map_append, eq_str, S_app, S_app]
                rfl
          · rintro H17 ⟨s17, e17⟩
            have lsz : (sgs hds).length = hds.length := List.length_map _
            rw [lsz, List.take_length] at e17
            have ew : wordsF m.fl hds = (keptF m.fl).map fillWord := by rw [hhds]; rfl
            rw [ew] at e17
            have s017 := s016.trans s17
            have e15' : H17 l1 = some (.lst [.str (S [al]), .str (S m.to)]) := s17 _ _ (s16 _ _ e15)
            have lk := kql m hmm
            refine ⟨l1, D, _, _, txs ([al] :: m.to :: (keptF m.fl).map fillWord), rfl, rfl, e15', e17, ?_, rfl, fun l3 H18 s18 n18 e18 => ?_⟩
            · show 2 + (txs ((keptF m.fl).map fillWord)).length ≤ _
              rw [txs_len, List.length_map]
              omega
            have s018 := s017.trans s18
            have eg18 : H18 gg = some (.lst (txs l2)) := s18 _ _ (s17 _ _ (s16 _ _ (s15 _ _ (s14 _ _ (s13 _ _ e12)))))
            have eq18 : H18 q1 = some (.lst (sgs L)) := s18 _ _ (s17 _ _ (s16 _ _ (s15 _ _ (s14 _ _ (s13 _ _ eq12)))))
            refine ⟨_, rfl, .inl ⟨rfl, _, SqL.of eg18⟩, ⟨⟨_, rfl⟩, _, rfl, Str.ofString " ", l3, ([al] :: m.to :: (keptF m.fl).map fillWord).map S, rfl, rfl, .inl (SqL.of (by rw [e18]; unfold txs; rw [List.map_map]; rfl)), ?_, ⟨gg, _, _, rfl, rfl, eg18, by rw [txs_len]; omega, ?_⟩⟩⟩
            · rw [flat_len, len_S_sp, List.length_map, List.flatten_cons, List.flatten_cons, List.length_append, List.length_append]
              simp only [List.length_cons, List.length_map, List.length_nil]
              have h1 := kqw m hmm
              have h2 := to8 m hmm
              omega
            rw [sp_str, join_S, show joinL [32] ([al] :: m.to :: (keptF m.fl).map fillWord) = moveLine al m.to (keptF m.fl) from rfl]
            refine ⟨_, _, _, _, l2 ++ [moveLine al m.to (keptF m.fl)], rfl, up s018, ?_, ?_, ?_, ?_⟩
            · rw [upd_ne q1g]
              exact eq18
            · rw [upd_same]
              unfold txs
              rw [List.map_append]
              rfl
            · rw [hl2, et, moveLines_snoc, hfk]
              simp [List.append_assoc, keptM]
            · rw [List.length_append]
              show _ + 1 ≤ _
              omega
      · rintro σ H12 ⟨w8, w9, w10, w11, l2, rfl, s12, eq12, e12, hl2, hn2⟩
        have lsz : (sgs L).length = L.length := List.length_map _
        rw [lsz] at hl2 hn2
        rw [List.take_length] at hl2
        refine ⟨_, _, _, _, _, l2, rfl, s12, e12, ?_, by omega⟩
        rw [hl2, hls, take_succ hc]
        simp [blockW, List.append_assoc]
    · rintro σ H8 ⟨v7, v8, v9, v10, v11, ls, rfl, s8, e8, hls, hn⟩
      rw [txs_len, List.take_length] at hls
      rw [hls] at e8
      exact ⟨_, rfl, q gg H8 s8 nHg e8⟩
end
end Tb

set_option Elab.async false
set_option linter.all false
set_option maxRecDepth 100000
set_option maxHeartbeats 4000000
namespace Tb
open PySem PySem.Spec PyProof.Rows L2 TL
/-! ### the lines of a program's text, as what they tell -/
theorem flatMap_at {α β : Type} {f : α → List β} : ∀ {l : List α} {i : Nat} {d : β}, (l.flatMap f)[i]? = some d → ∃ l1 c l2 j, l = l1 ++ c :: l2 ∧ (f c)[j]? = some d ∧ (l.flatMap f).take i = l1.flatMap f ++ (f c).take j
  | [], _, _, h => by simp at h
  | c :: l, i, d, h => by
    rw [List.flatMap_cons] at h ⊢
    by_cases hi : i < (f c).length
    · rw [List.getElem?_append_left hi] at h
      refine ⟨[], c, l, i, rfl, h, ?_⟩
      rw [List.take_append_of_le_length (Nat.le_of_lt hi)]
      rfl
    · have hi := Nat.le_of_not_lt hi
      rw [List.getElem?_append_right hi] at h
      obtain ⟨l1, c', l2, j, e, h1, h2⟩ := flatMap_at h
      refine ⟨c :: l1, c', l2, j, by rw [e]; rfl, h1, ?_⟩
      rw [List.take_append, List.take_of_length_le hi, h2, List.flatMap_cons, List.append_assoc]
theorem filterMap_at {α β : Type} {f : α → Option β} : ∀ {l : List α} {i : Nat} {d : β}, (l.filterMap f)[i]? = some d → ∃ l1 c l2, l = l1 ++ c :: l2 ∧ f c = some d ∧ (l.filterMap f).take i = l1.filterMap f
  | [], _, _, h => by simp at h
  | c :: l, i, d, h => by
    cases hc : f c with
    | none =>
      rw [List.filterMap_cons_none hc] at h ⊢
      obtain ⟨l1, c', l2, e, h1, h2⟩ := filterMap_at h
      exact ⟨c :: l1, c', l2, by rw [e]; rfl, h1, by rw [h2, List.filterMap_cons_none hc]⟩
    | some b =>
      rw [List.filterMap_cons_some hc] at h ⊢
      cases i with
      | zero =>
        refine ⟨[], c, l, rfl, ?_, rfl⟩
        rw [List.getElem?_cons_zero] at h
        rw [hc]
        exact h
      | succ i =>
        rw [List.getElem?_cons_succ] at h
        obtain ⟨l1, c', l2, e, h1, h2⟩ := filterMap_at h
        exact ⟨c :: l1, c', l2, by rw [e]; rfl, h1, by rw [List.take_succ_cons, h2, List.filterMap_cons_some hc]⟩
def blockD (L : List Nat) (ms : List Mv) (es : Fil) (c : List Nat) : List Ln := Ln.pl c (getF es c) :: (L.filterMap (findM ms c)).map Ln.mv
def linesD (L : List Nat) (ms : List Mv) (es : Fil) (ps : List (List Nat)) : List Ln := ps.flatMap (blockD L ms es)
theorem findM_is {ms : List Mv} {c : List Nat} {a : Nat} {m : Mv} (h : findM ms c a = some m) : m ∈ ms ∧ m.pl = c ∧ m.lt = a := by
  unfold findM at h
  have h1 := List.find?_some h
  exact ⟨List.mem_of_find?_eq_some h, of_decide_eq_true h1⟩
theorem blockD_lines (L : List Nat) (ms : List Mv) (es : Fil) (c : List Nat) : (blockD L ms es c).map Ln.line = blockW L ms es c := by
  unfold blockD blockW moveLines
  rw [List.map_cons, List.map_map]
  congr 1
  rw [List.map_filterMap]
  refine congrArg (List.filterMap · L) (funext fun a => ?_)
  cases h : findM ms c a with
  | none => rfl
  | some m =>
    obtain ⟨_, _, e⟩ := findM_is h
    show some (joinL [32] ([m.lt] :: m.to :: m.fl.map fillWord)) = some (joinL [32] ([a] :: m.to :: m.fl.map fillWord))
    rw [e]
theorem linesD_lines (L : List Nat) (ms : List Mv) (es : Fil) (ps : List (List Nat)) : (linesD L ms es ps).map Ln.line = ps.flatMap (blockW L ms es) := by
  unfold linesD
  rw [List.map_flatMap]
  exact congrArg (List.flatMap · ps) (funext fun c => blockD_lines L ms es c)
theorem plOf_app (a b : List Ln) : plOf (a ++ b) = plOf a ++ plOf b := by unfold plOf; simp
theorem mvOf_app (a b : List Ln) : mvOf (a ++ b) = mvOf a ++ mvOf b := by unfold mvOf; simp
theorem enOf_app (a b : List Ln) : enOf (a ++ b) = enOf a ++ enOf b := by unfold enOf; simp
theorem plOf_mv (l : List Mv) : plOf (l.map Ln.mv) = [] := by
  unfold plOf
  induction l with
  | nil => rfl
  | cons m l ih => rw [List.map_cons, List.flatMap_cons, ih]; rfl
theorem mvOf_mv (l : List Mv) : mvOf (l.map Ln.mv) = l := by
  unfold mvOf
  induction l with
  | nil => rfl
  | cons m l ih => rw [List.map_cons, List.flatMap_cons, ih]; rfl
theorem enOf_mv (l : List Mv) : enOf (l.map Ln.mv) = [] := by
  unfold enOf
  induction l with
  | nil => rfl
  | cons m l ih => rw [List.map_cons, List.flatMap_cons, ih]; rfl
def endP (es : Fil) (c : List Nat) : Option (List Nat × List Nat) := (getF es c).map fun f => (c, f)
theorem plOf_block (L : List Nat) (ms : List Mv) (es : Fil) (c : List Nat) (l : List Mv) : plOf (Ln.pl c (getF es c) :: l.map Ln.mv) = [c] := by
  show [c] ++ plOf (l.map Ln.mv) = _
  rw [plOf_mv, List.append_nil]
theorem mvOf_block (c : List Nat) (e : Option (List Nat)) (l : List Mv) : mvOf (Ln.pl c e :: l.map Ln.mv) = l := by
  show [] ++ mvOf (l.map Ln.mv) = _
  rw [mvOf_mv, List.nil_append]
theorem enOf_block (es : Fil) (c : List Nat) (l : List Mv) : enOf (Ln.pl c (getF es c) :: l.map Ln.mv) = (endP es c).toList := by
  show Ln.ens (.pl c (getF es c)) ++ enOf (l.map Ln.mv) = _
  rw [enOf_mv, List.append_nil]
  unfold endP
  cases getF es c <;> rfl
theorem plOf_lines (L : List Nat) (ms : List Mv) (es : Fil) : ∀ ps, plOf (linesD L ms es ps) = ps
  | [] => rfl
  | c :: ps => by
    unfold linesD
    rw [List.flatMap_cons, plOf_app]
    have h1 : plOf (blockD L ms es c) = [c] := plOf_block L ms es c _
    have h2 := plOf_lines L ms es ps
    unfold linesD at h2
    rw [h1, h2]
    rfl
theorem mvOf_lines (L : List Nat) (ms : List Mv) (es : Fil) : ∀ ps, mvOf (linesD L ms es ps) = ps.flatMap fun c => L.filterMap (findM ms c)
  | [] => rfl
  | c :: ps => by
    unfold linesD
    rw [List.flatMap_cons, mvOf_app, List.flatMap_cons]
    have h1 : mvOf (blockD L ms es c) = L.filterMap (findM ms c) := mvOf_block _ _ _
    have h2 := mvOf_lines L ms es ps
    unfold linesD at h2
    rw [h1, h2]
theorem enOf_lines (L : List Nat) (ms : List Mv) (es : Fil) : ∀ ps, enOf (linesD L ms es ps) = ps.filterMap (endP es)
  | [] => rfl
  | c :: ps => by
    unfold linesD
    rw [List.flatMap_cons, enOf_app]
    have h1 : enOf (blockD L ms es c) = (endP es c).toList := enOf_block _ _ _
    have h2 := enOf_lines L ms es ps
    unfold linesD at h2
    rw [h1, h2]
    cases h : endP es c with
    | none => rw [List.filterMap_cons_none h]; rfl
    | some x => rw [List.filterMap_cons_some h]; rfl
theorem mvOf_key {L : List Nat} {ms : List Mv} {ps : List (List Nat)} {m : Mv} (h : m ∈ ps.flatMap fun c => L.filterMap (findM ms c)) : m ∈ ms ∧ m.pl ∈ ps ∧ m.lt ∈ L ∧ findM ms m.pl m.lt = some m := by
  obtain ⟨c, hc, hm⟩ := List.mem_flatMap.mp h
  obtain ⟨a, ha, e⟩ := List.mem_filterMap.mp hm
  obtain ⟨h1, h2, h3⟩ := findM_is e
  exact ⟨h1, by rw [h2]; exact hc, by rw [h3]; exact ha, by rw [h2, h3]; exact e⟩
theorem flatMap_len {α β : Type} {f : α → List β} {n : Nat} (h : ∀ x, (f x).length ≤ n) : ∀ l : List α, (l.flatMap f).length ≤ n * l.length
  | [] => Nat.zero_le _
  | x :: l => by
    rw [List.flatMap_cons, List.length_append, List.length_cons, Nat.mul_succ]
    have := h x
    have := flatMap_len h l
    omega
end Tb

set_option Elab.async false
set_option linter.all false
set_option maxRecDepth 100000
set_option maxHeartbeats 4000000
namespace Tb
open PySem PySem.Spec PyProof.Rows L2 TL
/-! ### the lines of a drawn program's text can be read -/
section
variable {pt : Pt}
theorem GoodP.caps2 (g : GoodP pt) : ∀ c ∈ sortN pt.boxes, 65 ≤ c ∧ c ≤ 90 := fun c hc => g.bb c ((sortN_perm _).mem_iff.mp hc)
theorem GoodP.lows2 (g : GoodP pt) : ∀ c ∈ sortN pt.letters, 97 ≤ c ∧ c ≤ 122 := fun c hc => g.ll c ((sortN_perm _).mem_iff.mp hc)
theorem GoodP.ndL (g : GoodP pt) : (sortN pt.letters).Nodup := (sortN_perm _).nodup_iff.mpr g.ln
theorem GoodP.mvl (g : GoodP pt) {m : Mv} (hm : m ∈ pt.moves) : MvL (sortN pt.letters) (sortN pt.boxes) (keptM m) where
  lt := (sortN_perm _).mem_iff.mpr (g.mv m hm).2.1
  to := isName_iff.mpr (g.pp _ (g.mv m hm).2.2.1)
  tl := Nat.le_trans (g.pp _ (g.mv m hm).2.2.1).2.1 (by decide)
  one := kept_ones (g.filq hm).nd (g.filq hm).ones
  srt := kept_sorted (g.filq hm).nd (g.filq hm).ones
  ne := fun q hq => (kept_mem (g.filq hm).nd (g.filq hm).ones hq).2
  ok := by
    unfold okFils okKeys
    have h1 : (((keptM m).fl.map (·.1)).all fun c => decide (c ∈ (sortN pt.boxes).map fun b => [b])) = true := by
      refine List.all_eq_true.mpr fun c hc => decide_eq_true ?_
      obtain ⟨q, hq, rfl⟩ := List.mem_map.mp hc
      obtain ⟨⟨b, hb, e⟩, _⟩ := g.keptq hm hq
      rw [e]
      exact List.mem_map.mpr ⟨b, (sortN_perm _).mem_iff.mpr hb, rfl⟩
    rw [h1, Bool.true_and]
    refine isFill_of g.caps2 (fun c hc => ?_) (fun b hb => ?_)
    · obtain ⟨x, hx, hcx⟩ := List.mem_flatten.mp hc
      obtain ⟨q, hq, rfl⟩ := List.mem_map.mp hx
      exact ((g.keptq hm hq).2.2.2 c hcx).imp id fun h => (sortN_perm _).mem_iff.mpr h
    · exact Nat.le_trans ((kept_flat (g.filq hm).nd (g.filq hm).ones).2 b) ((g.fok hm).one b ((sortN_perm _).mem_iff.mp hb))
  w := by
    refine ⟨kept_nodup (g.filq hm).nd (g.filq hm).ones, fun q hq z => ?_, Nat.le_trans (g.keptl hm) (by decide), fun q hq => ?_⟩
    · obtain ⟨⟨b, hb, e⟩, _⟩ := g.keptq hm hq
      rw [e, List.mem_singleton] at z
      have := g.bb b hb
      omega
    · exact Nat.le_trans (g.keptw hm (List.mem_map.mpr ⟨q, hq, rfl⟩)) (by decide)
  l6 := Nat.lt_of_le_of_lt (g.keptl hm) (by decide)
  fl := Nat.le_trans (kept_flat (g.filq hm).nd (g.filq hm).ones).1 (Nat.le_trans (g.fok hm).len (by decide))
theorem GoodP.endw (g : GoodP pt) (c : List Nat) : EndW (sortN pt.boxes) (getF pt.ends c) := fun f h => by
  obtain ⟨h1, h2, h3⟩ := g.endl h
  refine ⟨?_, by omega, fun z => ?_⟩
  · obtain ⟨a, b⟩ := isFill_iff.mp h3
    exact isFill_iff.mpr ⟨a, fun c hc => (sortN_perm _).mem_iff.mpr (b c hc)⟩
  · rw [z] at h2
    rcases h2 45 (List.mem_singleton.mpr rfl) with h | h
    · omega
    · have := g.bb 45 h
      omega
/-- a word that can be seen -/
def Seen (x : List Nat) : Prop := ∀ ch ∈ x, 33 ≤ ch
theorem seen_name {x : List Nat} (h : NameL x) : Seen x := fun ch hc => by
  have := h.2.2 ch hc
  omega
theorem GoodP.seen_fill (g : GoodP pt) {f : List Nat} (h : ∀ x ∈ f, (97 ≤ x ∧ x ≤ 122) ∨ x ∈ pt.boxes) : Seen f := fun ch hc => by
  rcases h ch hc with h | h
  · omega
  · have := g.bb ch h
    omega
theorem GoodP.seen_pl (g : GoodP pt) {c : List Nat} (hc : c ∈ pt.places) : ∀ x ∈ placeWords c (getF pt.ends c), Seen x := by
  have h1 : Seen placeW := by unfold placeW Seen; decide
  have h2 := seen_name (g.pp c hc)
  intro x hx
  unfold placeWords at hx
  cases e : getF pt.ends c with
  | none =>
    rw [e] at hx
    have hx : x ∈ [placeW, c] := by simpa using hx
    rcases List.mem_cons.mp hx with h | h
    · rw [h]; exact h1
    · rw [List.mem_singleton.mp h]; exact h2
  | some f =>
    rw [e] at hx
    have hx : x ∈ [placeW, c, if f = [] then [45] else f] := hx
    rcases List.mem_cons.mp hx with h | h
    · rw [h]; exact h1
    · rcases List.mem_cons.mp h with h | h
      · rw [h]; exact h2
      · rw [List.mem_singleton.mp h]
        split
        · intro ch hch
          rw [List.mem_singleton.mp hch]
          decide
        · exact g.seen_fill (g.endl e).2.1
theorem GoodP.seen_mv (g : GoodP pt) {m : Mv} (hm : m ∈ pt.moves) : ∀ x ∈ moveWords (keptM m), Seen x := by
  intro x hx
  unfold moveWords at hx
  rcases List.mem_cons.mp hx with h | h
  · rw [h]
    intro ch hch
    rw [List.mem_singleton.mp hch]
    have : 97 ≤ m.lt := (g.ll _ (g.mv m hm).2.1).1
    show 33 ≤ m.lt
    omega
  · rcases List.mem_cons.mp h with h | h
    · rw [h]
      exact seen_name (g.pp _ (g.mv m hm).2.2.1)
    · obtain ⟨q, hq, rfl⟩ := List.mem_map.mp h
      obtain ⟨⟨b, hb, e⟩, _, _, h4⟩ := g.keptq hm hq
      intro ch hch
      unfold fillWord at hch
      rw [e] at hch
      rcases List.mem_append.mp hch with h | h
      · rcases List.mem_append.mp h with h | h
        · rw [List.mem_singleton.mp h]
          have := g.bb b hb
          omega
        · rw [List.mem_singleton.mp h]
          decide
      · exact g.seen_fill h4 ch h
theorem lt_single {x y : Nat} (h : x < y) : [x] < [y] := List.cons_lt_cons_iff.mpr (.inl h)
theorem nil_lt_single {y : Nat} : ([] : List Nat) < [y] := List.nil_lt_cons _ _
theorem GoodP.lns (g : GoodP pt) : LnsOk (sortN pt.letters) (sortN pt.boxes) (linesD (sortN pt.letters) (pt.moves.map keptM) pt.ends pt.places) := by
  intro i d h
  have tx := g.tx
  obtain ⟨L, hL⟩ : ∃ L, L = sortN pt.letters := ⟨_, rfl⟩
  obtain ⟨ms, hms⟩ : ∃ ms, ms = pt.moves.map keptM := ⟨_, rfl⟩
  have ndL := g.ndL
  have sL : L.Pairwise (· ≤ ·) := by rw [hL]; exact sortN_le _
  rw [← hL] at ndL
  rw [← hL, ← hms] at h ⊢
  have l5 : L.length ≤ 5 := by rw [hL]; exact tx.l
  have hin : ∀ m ∈ ms, ∃ m0 ∈ pt.moves, m = keptM m0 := fun m hm => by
    rw [hms] at hm
    obtain ⟨m0, h0, e⟩ := List.mem_map.mp hm
    exact ⟨m0, h0, e.symm⟩
  obtain ⟨l1, c, l2, j, e, hj, ht⟩ := flatMap_at h
  have ht : (linesD L ms pt.ends pt.places).take i = linesD L ms pt.ends l1 ++ (blockD L ms pt.ends c).take j := ht
  have nd := g.pn
  rw [e, List.nodup_append] at nd
  have hcl1 : c ∉ l1 := fun z => nd.2.2 c z c List.mem_cons_self rfl
  have hc : c ∈ pt.places := by rw [e]; exact List.mem_append_right _ List.mem_cons_self
  have l1l : l1.length ≤ 49 := by
    have h8 := g.p8
    rw [e, List.length_append, List.length_cons] at h8
    omega
  have hl1 : (l1.flatMap fun c => L.filterMap (findM ms c)).length ≤ 245 := by
    have := flatMap_len (f := fun c => L.filterMap (findM ms c)) (n := 5) (fun x => Nat.le_trans (List.length_filterMap_le _ _) l5) l1
    omega
  have el1 : (l1.filterMap (endP pt.ends)).length ≤ 49 := Nat.le_trans (List.length_filterMap_le _ _) l1l
  have ek : ∀ x ∈ (l1.filterMap (endP pt.ends)).map (·.1), x ∈ l1 := fun x hx => by
    obtain ⟨q, hq, rfl⟩ := List.mem_map.mp hx
    obtain ⟨c', hc', e'⟩ := List.mem_filterMap.mp hq
    unfold endP at e'
    obtain ⟨f, _, rfl⟩ := Option.map_eq_some_iff.mp e'
    exact hc'
  rw [ht]
  cases j with
  | zero =>
    have hd : d = .pl c (getF pt.ends c) := (Option.some.inj hj).symm
    rw [List.take_zero, List.append_nil, hd]
    refine ⟨Nat.le_trans (placeLine_len (c := c) (e := getF pt.ends c) (tx.c c hc) (tx.e c)) (by decide), fun x hx z => ?_, by rw [plOf_lines]; omega, by rw [mvOf_lines]; omega, isName_iff.mpr (g.pp c hc), Nat.le_trans (tx.c c hc) (by decide), by rw [plOf_lines]; exact hcl1, ?_, by rw [enOf_lines]; omega, g.endw c, by rw [plOf_lines]; omega⟩
    · have := g.seen_pl hc x hx 32 z
      omega
    · rw [enOf_lines]
      exact fun z => hcl1 (ek c z)
  | succ t =>
    have hj : ((L.filterMap (findM ms c)).map Ln.mv)[t]? = some d := hj
    rw [List.getElem?_map] at hj
    obtain ⟨m, hm, rfl⟩ := Option.map_eq_some_iff.mp hj
    obtain ⟨L1, al, L2, eL, hf, htk⟩ := filterMap_at hm
    obtain ⟨hmm, hpl, hlt⟩ := findM_is hf
    obtain ⟨m0, hm0, em⟩ := hin m hmm
    have hbt : (blockD L ms pt.ends c).take (t + 1) = Ln.pl c (getF pt.ends c) :: (L1.filterMap (findM ms c)).map Ln.mv := by
      unfold blockD
      rw [List.take_succ_cons, ← List.map_take, htk]
    rw [hbt]
    have ndL2 := ndL
    rw [eL, List.nodup_append] at ndL2
    have hal : al ∉ L1 := fun z => ndL2.2.2 al z al List.mem_cons_self rfl
    have hL1l : (L1.filterMap (findM ms c)).length ≤ 5 := by
      refine Nat.le_trans (List.length_filterMap_le _ _) ?_
      have := l5
      rw [eL, List.length_append] at this
      omega
    have ep : plOf (linesD L ms pt.ends l1 ++ Ln.pl c (getF pt.ends c) :: (L1.filterMap (findM ms c)).map Ln.mv) = l1 ++ [c] := by
      rw [plOf_app, plOf_lines, plOf_block L ms]
    have emv : mvOf (linesD L ms pt.ends l1 ++ Ln.pl c (getF pt.ends c) :: (L1.filterMap (findM ms c)).map Ln.mv) = (l1.flatMap fun c => L.filterMap (findM ms c)) ++ L1.filterMap (findM ms c) := by
      rw [mvOf_app, mvOf_lines, mvOf_block]
    have to8 : m.to.length ≤ 8 := tx.to m (by rw [← hms]; exact hmm)
    have mll : (Ln.mv m).line.length ≤ 3000 := by
      rw [em]
      exact moveLine_len (by rw [em] at to8; exact to8) (g.keptl hm0) (Nat.le_trans (g.keptws hm0) (by decide))
    have mvl : MvL L (sortN pt.boxes) m := by rw [em, hL]; exact g.mvl hm0
    refine ⟨by omega, fun x hx z => ?_, by rw [ep, List.length_append]; show _ + 1 ≤ _; omega, by rw [emv, List.length_append]; omega, mvl, by rw [ep, hpl]; simp, ?_, ?_, ?_, ?_⟩
    · have hx : x ∈ moveWords m := hx
      rw [em] at hx
      have := g.seen_mv hm0 x hx 32 z
      omega
    · -- the last letter
      by_cases z : L1.filterMap (findM ms c) = []
      · rw [z]
        have : lastOf (linesD L ms pt.ends l1 ++ [Ln.pl c (getF pt.ends c)]) = [] := lastOf_snoc _ _
        rw [List.map_nil, this]
        exact nil_lt_single
      · obtain ⟨pre, m', e'⟩ : ∃ pre m', L1.filterMap (findM ms c) = pre ++ [m'] := ⟨_, _, (List.dropLast_concat_getLast z).symm⟩
        have hm' : m' ∈ L1.filterMap (findM ms c) := by rw [e']; simp
        obtain ⟨a', ha', f'⟩ := List.mem_filterMap.mp hm'
        obtain ⟨_, _, lt'⟩ := findM_is f'
        have e2 : linesD L ms pt.ends l1 ++ Ln.pl c (getF pt.ends c) :: (L1.filterMap (findM ms c)).map Ln.mv = (linesD L ms pt.ends l1 ++ Ln.pl c (getF pt.ends c) :: pre.map Ln.mv) ++ [Ln.mv m'] := by
          rw [e', List.map_append]
          simp
        rw [e2, lastOf_snoc]
        show [m'.lt] < [m.lt]
        rw [lt', hlt]
        refine lt_single ?_
        rw [eL, List.pairwise_append] at sL
        have h1 := sL.2.2 a' ha' al List.mem_cons_self
        have h2 : a' ≠ al := fun z => hal (z ▸ ha')
        omega
    · rw [emv, List.map_append]
      intro z
      rcases List.mem_append.mp z with z | z
      · obtain ⟨m', hm', ek'⟩ := List.mem_map.mp z
        obtain ⟨_, h2, _, _⟩ := mvOf_key hm'
        have hk : m'.key = mkey m.pl m.lt := ek'
        obtain ⟨e1, e2⟩ := key_inj hk
        rw [e1, hpl] at h2
        exact hcl1 h2
      · obtain ⟨m', hm', ek'⟩ := List.mem_map.mp z
        obtain ⟨a', ha', f'⟩ := List.mem_filterMap.mp hm'
        obtain ⟨_, _, lt'⟩ := findM_is f'
        have hk : m'.key = mkey m.pl m.lt := ek'
        obtain ⟨e1, e2⟩ := key_inj hk
        rw [lt', hlt] at e2
        exact hal (e2 ▸ ha')
    · rw [plOf_lines, em]
      exact (g.mv m0 hm0).2.2.1
    · intro z
      have h1 := congrArg List.length z
      exact absurd (show (1 : Nat) = 5 from h1) (by decide)
end
end Tb

set_option Elab.async false
set_option linter.all false
set_option maxRecDepth 100000
set_option maxHeartbeats 4000000
/-! how far lines grow when they are bent: pure -/
namespace Tb
open PySem PySem.Spec PyProof.Rows L2 TL
def bndL (k : Nat) (l : List Nat) : Prop := l.length ≤ 700 + 20 * k ∧ l.count 32 ≤ 10 + 4 * k ∧ l.count 10 ≤ k ∧ ∀ c ∈ l, c < 256
structure Bnd (k : Nat) (ls : List (List Nat)) : Prop where
  n : ls.length ≤ 14 + k
  l : ∀ l ∈ ls, bndL k l
theorem bndL.up {k : Nat} {l : List Nat} (h : bndL k l) : bndL (k + 1) l := ⟨by have := h.1; omega, by have := h.2.1; omega, by have := h.2.2.1; omega, h.2.2.2⟩
theorem Bnd.up {k : Nat} {ls : List (List Nat)} (h : Bnd k ls) : Bnd (k + 1) ls := ⟨by have := h.n; omega, fun l hl => (h.l l hl).up⟩
/-- a written line -/
theorem bnd_lit {k : Nat} {l : List Nat} (h : (decide (l.length ≤ 30) && decide (l.count 32 ≤ 4) && decide (l.count 10 ≤ 0) && l.all fun c => decide (c < 256)) = true) : bndL k l := by
  rw [Bool.and_eq_true, Bool.and_eq_true, Bool.and_eq_true, decide_eq_true_iff, decide_eq_true_iff, decide_eq_true_iff] at h
  exact ⟨by have := h.1.1.1; omega, by have := h.1.1.2; omega, by have := h.1.2; omega, fun c hc => of_decide_eq_true (List.all_eq_true.mp h.2 c hc)⟩
theorem Bnd.put {k : Nat} {ls : List (List Nat)} (h : Bnd k ls) {x : List Nat} (hx : bndL (k + 1) x) {a b : Nat} (hab : a ≤ b) : Bnd (k + 1) (ls.take a ++ [x] ++ ls.drop b) where
  n := by
    have := h.n
    rw [List.length_append, List.length_append, List.length_take, List.length_drop]
    simp only [List.length_singleton]
    omega
  l := fun l hl => by
    rcases List.mem_append.mp hl with z | z
    · rcases List.mem_append.mp z with z | z
      · exact (h.l l (List.mem_of_mem_take z)).up
      · rw [List.mem_singleton.mp z]
        exact hx
    · exact (h.l l (List.mem_of_mem_drop z)).up
theorem Bnd.cut {k : Nat} {ls : List (List Nat)} (h : Bnd k ls) {a b : Nat} (hab : a ≤ b) : Bnd (k + 1) (ls.take a ++ ls.drop b) where
  n := by
    have := h.n
    rw [List.length_append, List.length_take, List.length_drop]
    omega
  l := fun l hl => by
    rcases List.mem_append.mp hl with z | z
    · exact (h.l l (List.mem_of_mem_take z)).up
    · exact (h.l l (List.mem_of_mem_drop z)).up
theorem cut_sub {α : Type} (l : List α) {s t : Nat} (h : s ≤ t) : (l.take s ++ l.drop t).Sublist l := by
  have e : l.take s = (l.take t).take s := by rw [List.take_take, Nat.min_eq_left h]
  conv => rhs; rw [← List.take_append_drop t l]
  rw [e]
  exact (List.take_sublist s (l.take t)).append (List.Sublist.refl _)
theorem bnd_row {k : Nat} {r : List Nat} (h : bndL k r) {s t c : Nat} (hst : s ≤ t) (hc : c < 256) : bndL (k + 1) (r.take s ++ [c] ++ r.drop t) := by
  have sub := cut_sub r hst
  have hcount : ∀ d, (r.take s ++ [c] ++ r.drop t).count d ≤ r.count d + 1 := fun d => by
    have h1 := sub.count_le d
    rw [List.count_append] at h1
    rw [List.count_append, List.count_append]
    have h2 : [c].count d ≤ 1 := List.count_le_length
    omega
  have h1 := sub.length_le
  rw [List.length_append] at h1
  refine ⟨?_, ?_, ?_, fun d hd => ?_⟩
  · rw [List.length_append, List.length_append]
    have := h.1
    simp only [List.length_singleton]
    omega
  · have := hcount 32
    have := h.2.1
    omega
  · have := hcount 10
    have := h.2.2.1
    omega
  · rcases List.mem_append.mp hd with z | z
    · rcases List.mem_append.mp z with z | z
      · exact h.2.2.2 d (List.mem_of_mem_take z)
      · rw [List.mem_singleton.mp z]
        exact hc
    · exact h.2.2.2 d (List.mem_of_mem_drop z)
theorem joinL_count (s : List Nat) (c : Nat) : ∀ l : List (List Nat), (joinL s l).count c = l.flatten.count c + (l.length - 1) * s.count c
  | [] => by simp [joinL]
  | [p] => by simp [joinL]
  | p :: q :: r => by
    have ih := joinL_count s c (q :: r)
    show (p ++ (s ++ joinL s (q :: r))).count c = _
    rw [List.count_append, List.count_append, ih, show (p :: q :: r).flatten = p ++ (q :: r).flatten from rfl, List.count_append (l₁ := p)]
    show p.count c + (s.count c + ((q :: r).flatten.count c + r.length * s.count c)) = p.count c + (q :: r).flatten.count c + (r.length + 1) * s.count c
    rw [Nat.add_mul, Nat.one_mul]
    omega
theorem splL_count {s : Nat} (cs : List Nat) : (splL s cs).length = cs.count s + 1 := by
  have h := joinL_count [s] s (splL s cs)
  rw [splL_join] at h
  have h0 : (splL s cs).flatten.count s = 0 := by
    rw [List.count_eq_zero]
    intro z
    obtain ⟨x, hx, hs⟩ := List.mem_flatten.mp z
    exact splL_free s cs x hx hs
  have h1 : [s].count s = 1 := by simp
  have := splL_pos s cs
  rw [h0, h1] at h
  omega
theorem splL_other {s c : Nat} (h : c ≠ s) (cs : List Nat) : (splL s cs).flatten.count c = cs.count c := by
  have h1 := joinL_count [s] c (splL s cs)
  rw [splL_join] at h1
  have h2 : [s].count c = 0 := by
    rw [List.count_eq_zero]
    exact fun z => h (List.mem_singleton.mp z)
  rw [h2] at h1
  omega
theorem joinL_length (s : List Nat) : ∀ l : List (List Nat), (joinL s l).length = l.flatten.length + (l.length - 1) * s.length
  | [] => by simp [joinL]
  | [p] => by simp [joinL]
  | p :: q :: r => by
    have ih := joinL_length s (q :: r)
    show (p ++ (s ++ joinL s (q :: r))).length = _
    rw [List.length_append, List.length_append, ih, show (p :: q :: r).flatten = p ++ (q :: r).flatten from rfl, List.length_append (as := p)]
    show p.length + (s.length + ((q :: r).flatten.length + r.length * s.length)) = p.length + (q :: r).flatten.length + (r.length + 1) * s.length
    rw [Nat.add_mul, Nat.one_mul]
    omega
theorem joinL_mem2 {s : List Nat} {ch : Nat} : ∀ {l : List (List Nat)}, ch ∈ joinL s l → ch ∈ s ∨ ∃ x ∈ l, ch ∈ x
  | [], h => by cases h
  | [p], h => .inr ⟨p, List.mem_cons_self, h⟩
  | p :: q :: r, h => by
    have h : ch ∈ p ++ (s ++ joinL s (q :: r)) := h
    rcases List.mem_append.mp h with h | h
    · exact .inr ⟨p, List.mem_cons_self, h⟩
    · rcases List.mem_append.mp h with h | h
      · exact .inl h
      · rcases joinL_mem2 h with h | ⟨x, hx, h⟩
        · exact .inl h
        · exact .inr ⟨x, List.mem_cons_of_mem _ hx, h⟩
theorem bnd_words {k : Nat} {r w : List Nat} (h : bndL k r) {s t : Nat} (hst : s ≤ t) (hw : (decide (w.length ≤ 10) && w.all fun c => decide (33 ≤ c ∧ c < 256)) = true) : bndL (k + 1) (joinL [32] ((splL 32 r).take s ++ [w] ++ (splL 32 r).drop t)) := by
  rw [Bool.and_eq_true, decide_eq_true_iff] at hw
  have hwc : ∀ c ∈ w, 33 ≤ c ∧ c < 256 := fun c hc => of_decide_eq_true (List.all_eq_true.mp hw.2 c hc)
  have hw0 : ∀ d, d < 33 → w.count d = 0 := fun d hd => List.count_eq_zero.mpr fun z => by have := (hwc d z).1; omega
  have sub := cut_sub (splL 32 r) hst
  have fl : ((splL 32 r).take s ++ [w] ++ (splL 32 r).drop t).flatten = ((splL 32 r).take s).flatten ++ w ++ ((splL 32 r).drop t).flatten := by
    rw [List.flatten_append, List.flatten_append]
    simp
  have fs := sub_flat sub
  rw [List.flatten_append] at fs
  have hn := sub.length_le
  rw [List.length_append] at hn
  have hn2 : ((splL 32 r).take s ++ [w] ++ (splL 32 r).drop t).length = ((splL 32 r).take s).length + 1 + ((splL 32 r).drop t).length := by
    rw [List.length_append, List.length_append]
    rfl
  have hcnt := splL_count (s := 32) r
  have hlen := joinL_length [32] (splL 32 r)
  rw [splL_join] at hlen
  have l1 : ([32] : List Nat).length = 1 := rfl
  rw [l1] at hlen
  have b1 := h.1
  have b2 := h.2.1
  have b3 := h.2.2.1
  refine ⟨?_, ?_, ?_, fun d hd => ?_⟩
  · rw [joinL_length, l1, fl, List.length_append, List.length_append, hn2]
    have := fs.length_le
    rw [List.length_append] at this
    have := hw.1
    omega
  · rw [joinL_count, fl, List.count_append, List.count_append, hn2, hw0 32 (by decide)]
    have h1 := fs.count_le 32
    rw [List.count_append] at h1
    have h0 : (splL 32 r).flatten.count 32 = 0 := List.count_eq_zero.mpr fun z => by
      obtain ⟨x, hx, hs⟩ := List.mem_flatten.mp z
      exact splL_free 32 r x hx hs
    have h3 : ([32] : List Nat).count 32 = 1 := by decide
    rw [h3]
    omega
  · rw [joinL_count, fl, List.count_append, List.count_append, hn2, hw0 10 (by decide)]
    have h1 := fs.count_le 10
    rw [List.count_append, splL_other (by decide)] at h1
    have h3 : ([32] : List Nat).count 10 = 0 := by decide
    rw [h3]
    omega
  · have : d ∈ [32] ∨ ∃ x ∈ (splL 32 r).take s ++ [w] ++ (splL 32 r).drop t, d ∈ x := joinL_mem2 hd
    rcases this with z | ⟨x, hx, z⟩
    · rw [List.mem_singleton.mp z]
      decide
    · rcases List.mem_append.mp hx with y | y
      · rcases List.mem_append.mp y with y | y
        · exact h.2.2.2 d (splL_mem 32 r x (List.mem_of_mem_take y) d z)
        · rw [List.mem_singleton.mp y] at z
          exact (hwc d z).2
      · exact h.2.2.2 d (splL_mem 32 r x (List.mem_of_mem_drop y) d z)
theorem joinL_app {s : List Nat} : ∀ {a b : List (List Nat)}, a ≠ [] → b ≠ [] → joinL s (a ++ b) = joinL s a ++ (s ++ joinL s b)
  | [], _, h, _ => absurd rfl h
  | [x], [], _, h => absurd rfl h
  | [x], y :: b, _, _ => rfl
  | x :: y :: a, b, _, hb => by
    have ih := joinL_app (s := s) (a := y :: a) (List.cons_ne_nil _ _) hb
    show x ++ (s ++ joinL s ((y :: a) ++ b)) = (x ++ (s ++ joinL s (y :: a))) ++ _
    rw [ih]
    simp only [List.append_assoc]
/-- the parts of joined lines are the parts of the lines -/
theorem splL_joinL (s : Nat) {ls : List (List Nat)} (h : ls ≠ []) : splL s (joinL [s] ls) = ls.flatMap (splL s) := by
  have e : ∀ ls : List (List Nat), ls ≠ [] → joinL [s] (ls.flatMap (splL s)) = joinL [s] ls := by
    intro ls
    induction ls with
    | nil => exact fun h => absurd rfl h
    | cons a r ih =>
      intro _
      cases r with
      | nil =>
        rw [List.flatMap_cons, List.flatMap_nil, List.append_nil, splL_join]
        rfl
      | cons b r =>
        have h1 := ih (List.cons_ne_nil _ _)
        rw [List.flatMap_cons, joinL_app (splL_ne s a), splL_join, h1]
        · rfl
        · rw [List.flatMap_cons]
          exact fun z => splL_ne s b (List.append_eq_nil_iff.mp z).1
  rw [← e ls h, splL_of s]
  · cases ls with
    | nil => exact absurd rfl h
    | cons a r =>
      rw [List.flatMap_cons]
      exact fun z => splL_ne s a (List.append_eq_nil_iff.mp z).1
  · intro x hx
    obtain ⟨l, _, hl⟩ := List.mem_flatMap.mp hx
    exact splL_free s l x hl
theorem sum_le {n : Nat} : ∀ {ls : List (List Nat)}, (∀ l ∈ ls, l.count 10 ≤ n) → ls.flatten.count 10 ≤ n * ls.length
  | [], _ => Nat.zero_le _
  | l :: ls, h => by
    rw [List.flatten_cons, List.count_append, List.length_cons, Nat.mul_succ]
    have h1 := h l List.mem_cons_self
    have h2 := sum_le fun x hx => h x (List.mem_cons_of_mem _ hx)
    omega
/-- the text of bent lines -/
theorem Bnd.tx {k : Nat} {ls : List (List Nat)} (h : Bnd k ls) (h2 : k ≤ 2) : TxB (joinL [10] ls) ∧ (splL 10 (joinL [10] ls)).length ≤ 50 := by
  have hn := h.n
  have c1 : (splL 10 (joinL [10] ls)).length ≤ 50 := by
    rw [splL_count, joinL_count]
    have h3 := sum_le (n := k) fun l hl => (h.l l hl).2.2.1
    have h4 : ([10] : List Nat).count 10 = 1 := by decide
    rw [h4]
    have h5 := Nat.mul_le_mul h2 hn
    omega
  have c2 : (joinL [10] ls).length ≤ 100000 := by
    have h1 := joinL_len [10] ls
    have h3 := flat_le (n := 740) (l := ls) fun x hx => by have := (h.l x hx).1; omega
    have h4 : ([10] : List Nat).length = 1 := rfl
    rw [h4] at h1
    have : 740 * ls.length ≤ 740 * 16 := Nat.mul_le_mul_left _ (by omega)
    omega
  refine ⟨⟨c2, by omega, fun l hl => ?_⟩, c1⟩
  by_cases z : ls = []
  · rw [z] at hl
    have hl : l ∈ ([[]] : List (List Nat)) := hl
    rw [List.mem_singleton.mp hl]
    exact ⟨by decide, by decide, fun c hc => nomatch hc⟩
  · rw [splL_joinL 10 z] at hl
    obtain ⟨y, hy, hl⟩ := List.mem_flatMap.mp hl
    have b := h.l y hy
    refine ⟨?_, ?_, fun c hc => ?_⟩
    · have h1 := len_flat hl
      have h2 := splL_flat 10 y
      have := b.1
      omega
    · rw [splL_count]
      have h1 : l.count 32 ≤ (splL 10 y).flatten.count 32 := (List.sublist_flatten_of_mem hl).count_le 32
      rw [splL_other (by decide)] at h1
      have := b.2.1
      omega
    · have := b.2.2.2 c (splL_mem 10 y l hl c hc)
      omega
end Tb

set_option Elab.async false
set_option linter.all false
set_option maxRecDepth 100000
set_option maxHeartbeats 4000000
/-! the lines of a drawn program, in size -/
namespace Tb
open PySem PySem.Spec PyProof.Rows L2 TL
section
variable {pt : Pt}
def Top (x : List Nat) : Prop := ∀ ch ∈ x, ch < 256
theorem top_name {x : List Nat} (h : NameL x) : Top x := fun ch hc => by
  have := h.2.2 ch hc
  omega
theorem GoodP.top_fill (g : GoodP pt) {f : List Nat} (h : ∀ x ∈ f, (97 ≤ x ∧ x ≤ 122) ∨ x ∈ pt.boxes) : Top f := fun ch hc => by
  rcases h ch hc with h | h
  · omega
  · have := g.bb ch h
    omega
theorem GoodP.top_pl (g : GoodP pt) {c : List Nat} (hc : c ∈ pt.places) : ∀ x ∈ placeWords c (getF pt.ends c), Top x := by
  have h1 : Top placeW := by unfold placeW Top; decide
  have h2 := top_name (g.pp c hc)
  intro x hx
  unfold placeWords at hx
  cases e : getF pt.ends c with
  | none =>
    rw [e] at hx
    have hx : x ∈ [placeW, c] := by simpa using hx
    rcases List.mem_cons.mp hx with h | h
    · rw [h]; exact h1
    · rw [List.mem_singleton.mp h]; exact h2
  | some f =>
    rw [e] at hx
    have hx : x ∈ [placeW, c, if f = [] then [45] else f] := hx
    rcases List.mem_cons.mp hx with h | h
    · rw [h]; exact h1
    · rcases List.mem_cons.mp h with h | h
      · rw [h]; exact h2
      · rw [List.mem_singleton.mp h]
        split
        · intro ch hch
          rw [List.mem_singleton.mp hch]
          decide
        · exact g.top_fill (g.endl e).2.1
theorem GoodP.top_mv (g : GoodP pt) {m : Mv} (hm : m ∈ pt.moves) : ∀ x ∈ moveWords (keptM m), Top x := by
  intro x hx
  unfold moveWords at hx
  rcases List.mem_cons.mp hx with h | h
  · rw [h]
    intro ch hch
    rw [List.mem_singleton.mp hch]
    have : m.lt ≤ 122 := (g.ll _ (g.mv m hm).2.1).2
    show m.lt < 256
    omega
  · rcases List.mem_cons.mp h with h | h
    · rw [h]
      exact top_name (g.pp _ (g.mv m hm).2.2.1)
    · obtain ⟨q, hq, rfl⟩ := List.mem_map.mp h
      obtain ⟨⟨b, hb, e⟩, _, _, h4⟩ := g.keptq hm hq
      intro ch hch
      unfold fillWord at hch
      rw [e] at hch
      rcases List.mem_append.mp hch with h | h
      · rcases List.mem_append.mp h with h | h
        · rw [List.mem_singleton.mp h]
          have := g.bb b hb
          omega
        · rw [List.mem_singleton.mp h]
          decide
      · exact g.top_fill h4 ch h
theorem bnd_join {ws : List (List Nat)} (h1 : ∀ x ∈ ws, Seen x) (h2 : ∀ x ∈ ws, Top x) (hn : ws.length ≤ 9) (hf : ws.flatten.length ≤ 680) : bndL 0 (joinL [32] ws) := by
  have z : ∀ d, d < 33 → ws.flatten.count d = 0 := fun d hd => List.count_eq_zero.mpr fun y => by
    obtain ⟨x, hx, hc⟩ := List.mem_flatten.mp y
    have := h1 x hx d hc
    omega
  refine ⟨?_, ?_, ?_, fun c hc => ?_⟩
  · rw [joinL_length]
    have l1 : ([32] : List Nat).length = 1 := rfl
    rw [l1]
    omega
  · rw [joinL_count, z 32 (by decide)]
    have : ([32] : List Nat).count 32 = 1 := by decide
    rw [this]
    omega
  · rw [joinL_count, z 10 (by decide)]
    have : ([32] : List Nat).count 10 = 0 := by decide
    rw [this]
    omega
  · rcases joinL_mem2 hc with y | ⟨x, hx, y⟩
    · rw [List.mem_singleton.mp y]
      decide
    · exact h2 x hx c y
theorem GoodP.bnd (g : GoodP pt) (h3 : pt.letters.length ≤ 3) (hb : pt.boxes.length ≤ 3) (hp : pt.places.length ≤ 3) : Bnd 0 (linesW pt) where
  n := by
    have := flatMap_len (f := blockW (sortN pt.letters) (pt.moves.map keptM) pt.ends) (n := 4) (fun c => by
      unfold blockW moveLines
      rw [List.length_cons]
      have h1 := List.length_filterMap_le (fun a => (findM (pt.moves.map keptM) c a).map fun m => moveLine a m.to m.fl) (sortN pt.letters)
      have h2 := (sortN_perm pt.letters).length_eq
      omega) pt.places
    unfold linesW headW
    rw [List.length_append]
    show 2 + _ ≤ _
    omega
  l := fun l hl => by
    have tx := g.tx
    unfold linesW at hl
    rcases List.mem_append.mp hl with h | h
    · unfold headW at h
      have lL := (sortN_perm pt.letters).length_eq
      have lB := (sortN_perm pt.boxes).length_eq
      rcases List.mem_cons.mp h with h | h
      · rw [h]
        refine bnd_join (fun x hx => ?_) (fun x hx => ?_) (by show 2 ≤ 9; decide) (by show (lettersW ++ (sortN pt.letters ++ [])).length ≤ 680; rw [List.append_nil, List.length_append]; show 7 + _ ≤ _; omega)
        · rcases List.mem_cons.mp hx with e | e
          · rw [e]; unfold lettersW Seen; decide
          · rw [List.mem_singleton.mp e]
            exact fun c hc => by have := g.lows2 c hc; omega
        · rcases List.mem_cons.mp hx with e | e
          · rw [e]; unfold lettersW Top; decide
          · rw [List.mem_singleton.mp e]
            exact fun c hc => by have := g.lows2 c hc; omega
      · rw [List.mem_singleton.mp h]
        split
        · exact bnd_join (by unfold boxesW Seen; decide) (by unfold boxesW Top; decide) (by decide) (by decide)
        · refine bnd_join (fun x hx => ?_) (fun x hx => ?_) (by show 2 ≤ 9; decide) (by show (boxesW ++ (sortN pt.boxes ++ [])).length ≤ 680; rw [List.append_nil, List.length_append]; show 5 + _ ≤ _; omega)
          · rcases List.mem_cons.mp hx with e | e
            · rw [e]; unfold boxesW Seen; decide
            · rw [List.mem_singleton.mp e]
              exact fun c hc => by have := g.caps2 c hc; omega
          · rcases List.mem_cons.mp hx with e | e
            · rw [e]; unfold boxesW Top; decide
            · rw [List.mem_singleton.mp e]
              exact fun c hc => by have := g.caps2 c hc; omega
    · rw [← linesD_lines] at h
      obtain ⟨d, hd, rfl⟩ := List.mem_map.mp h
      obtain ⟨c, hc, hb⟩ := List.mem_flatMap.mp (show d ∈ pt.places.flatMap (blockD (sortN pt.letters) (pt.moves.map keptM) pt.ends) from hd)
      rcases List.mem_cons.mp hb with e | e
      · rw [e]
        show bndL 0 (joinL [32] (placeWords c (getF pt.ends c)))
        have hf := placeWords_flat (c := c) (e := getF pt.ends c) (tx.c c hc) fun f hf => Nat.le_trans (g.endl hf).1 (by decide)
        refine bnd_join (g.seen_pl hc) (g.top_pl hc) ?_ ?_
        · unfold placeWords
          cases getF pt.ends c with
          | none => show 2 ≤ 9; decide
          | some _ => show 3 ≤ 9; decide
        · have h8 := tx.c c hc
          unfold placeWords
          cases hg : getF pt.ends c with
          | none =>
            show (placeW ++ (c ++ [])).length ≤ _
            rw [List.append_nil, List.length_append]
            show 5 + _ ≤ _
            omega
          | some f =>
            have := (g.endl hg).1
            show (placeW ++ (c ++ ((if f = [] then [45] else f) ++ []))).length ≤ _
            rw [List.append_nil, List.length_append, List.length_append]
            have : (if f = [] then [45] else f).length ≤ 100 := by
              split
              · decide
              · exact this
            show 5 + (_ + _) ≤ _
            omega
      · obtain ⟨m, hm, rfl⟩ := List.mem_map.mp e
        obtain ⟨al, _, hf⟩ := List.mem_filterMap.mp hm
        obtain ⟨m0, h0, rfl⟩ := List.mem_map.mp (findM_is hf).1
        have h8 := tx.to _ (List.mem_map.mpr ⟨m0, h0, rfl⟩)
        show bndL 0 (joinL [32] (moveWords (keptM m0)))
        refine bnd_join (g.seen_mv h0) (g.top_mv h0) ?_ ?_
        · show (((keptF m0.fl).map fillWord).length + 1) + 1 ≤ 9
          rw [List.length_map]
          have := g.keptl h0
          omega
        · have := g.keptws h0
          show ([m0.lt] ++ (m0.to ++ ((keptF m0.fl).map fillWord).flatten)).length ≤ 680
          rw [List.length_append, List.length_append]
          have h8 : m0.to.length ≤ 8 := h8
          show 1 + (_ + _) ≤ _
          omega
end
end Tb

set_option Elab.async false
set_option linter.all false
set_option maxRecDepth 100000
set_option maxHeartbeats 4000000
/-! _law_bent -/
namespace Tb
open PySem PySem.Spec PyProof.Rows L2 TL
theorem cutS_headB (cs : List Nat) (k : Nat) : cutS (S cs) none (some (k : Int)) = S (cs.take k) := by
  unfold cutS
  rw [HT.sIx_nat, HT.sIx_none, Nat.sub_zero, List.drop_zero]
  show S (cs.take (min k cs.length)) = _
  congr 1
  rw [List.take_eq_take_iff]
  omega
theorem cutV_from (xs : List V) (m : Nat) : cutV xs (some (m : Int)) none = xs.drop m := by
  unfold cutV
  rw [HT.sIx_nat, HT.sIx_none]
  rcases Nat.lt_or_ge m xs.length with h | h
  · rw [Nat.min_eq_left (Nat.le_of_lt h), List.take_of_length_le]
    rw [List.length_drop]
    exact Nat.le_refl _
  · rw [Nat.min_eq_right h, Nat.sub_self, List.take_zero, List.drop_of_length_le h]
def litOk (v : V) : Bool := match v with | .str x => decide ((tl x).length ≤ 30) && decide ((tl x).count 32 ≤ 4) && decide ((tl x).count 10 ≤ 0) && (tl x).all fun c => decide (c < 256) | _ => false
theorem lits_ok {xs : List V} (h : xs.all litOk = true) (k : Nat) : ∀ x ∈ xs, ∃ l, x = .str (S l) ∧ bndL k l := fun x hx => by
  have h1 := List.all_eq_true.mp h x hx
  cases x with
  | str z => exact ⟨tl z, by rw [S_tl], bnd_lit h1⟩
  | _ => cases h1
def wordOk (v : V) : Bool := match v with | .str x => decide ((tl x).length ≤ 10) && (tl x).all fun c => decide (33 ≤ c ∧ c < 256) | _ => false
theorem words_ok {xs : List V} (h : xs.all wordOk = true) : ∀ x ∈ xs, ∃ l, x = .str (S l) ∧ (decide (l.length ≤ 10) && l.all fun c => decide (33 ≤ c ∧ c < 256)) = true := fun x hx => by
  have h1 := List.all_eq_true.mp h x hx
  cases x with
  | str z => exact ⟨tl z, by rw [S_tl], h1⟩
  | _ => cases h1
def sgn1 : List Nat → Bool
  | [c] => decide (c < 256)
  | _ => false
def signOk : V → Bool
  | .str x => sgn1 (tl x)
  | _ => false
theorem signs_ok {xs : List V} (h : xs.all signOk = true) : ∀ x ∈ xs, ∃ c, x = .str (S [c]) ∧ c < 256 := fun x hx => by
  have h1 := List.all_eq_true.mp h x hx
  cases x with
  | str z =>
    have h1 : sgn1 (tl z) = true := h1
    cases e : tl z with
    | nil => rw [e] at h1; cases h1
    | cons c r =>
      rw [e] at h1
      cases r with
      | nil => exact ⟨c, by rw [← e, S_tl], of_decide_eq_true h1⟩
      | cons _ _ => cases h1
  | _ => cases h1
section
variable {P : Program} {w : World} {K : PySem.W.Frag} {mg : Str → Option Value} {base : Heap}
abbrev nLBent : List Str := ["_law_source_here", "_law_lines_here", "_law_at", "_law_way", "_law_odd", "_law_line", "_law_spot", "_law_sign", "_law_row", "_law_last", "_law_words", "_law_word"]
theorem scLBent : FnScope nLBent ["_law_source_here", "_law_lines_here"] (defScope sLBent) := ⟨rfl, rfl, rfl, by decide +kernel, rfl, by decide +kernel, by decide +kernel⟩
def spLBent : Sp := fun vs H Q _ => ∃ (p a : Addr) (n k : Nat) (ls : List (List Nat)), vs = [.ref p, .ref a] ∧ Src H p n ∧ n + 10 < 1000000 ∧ a ≠ p ∧ H a = some (.lst (txs ls)) ∧ ls ≠ [] ∧ Bnd k ls ∧ k ≤ 5 ∧
  ∀ b H' ls', But p H H' → Src H' p (n + 10) → H b = none → H' b = some (.lst (txs ls')) → Bnd (k + 1) ls' → Q (.ref b) H'
/-- lines[:at] + [x] + lines[b:] -/
theorem bent_ret {i1 i2 : Nat} {σ : L2.St} {H : Hp} {Q : VK} {tx te : TE} {x : List Nat} {a : Addr} {ls : List (List Nat)} {d b : Nat} (h1 : σ[i1]? = some (some (.ref a))) (h2 : σ[i2]? = some (some (num d))) (ha : H a = some (.lst (txs ls))) (hl : ls.length ≤ 1000)
    (hx : ∀ H1, Same H H1 → ∀ R : VK, (∀ H2, Same H1 H2 → R (.str (S x)) H2) → tx σ H1 R) (he : ∀ H1, Same H H1 → ∀ R : VK, R (num b) H1 → te σ H1 R)
    (q : ∀ l H', Same H H' → H l = none → H' l = some (.lst (txs (ls.take d ++ [x] ++ ls.drop b))) → Q (.ref l) H') :
    (tOp rCatS (tOp rCatS (tSl (rSlLS K) (tVar i1) tNoPart (tPart (tVar i2))) (tLstS (tCons tx tNil))) (tSl (rSlLS K) (tVar i1) (tPart te) tNoPart)) σ H Q := by
  have big : (1000000 : Nat) ≤ sizeLine := by rw [sizeLine_eq]; decide
  refine ⟨_, h1, _, h2, (d : Int), rfl, a, txs ls, rfl, SqL.of ha, fun k1 H1 s1 n1 e1 => ?_⟩
  have e1' : H1 k1 = some (.lst (txs (ls.take d))) := by
    rw [e1, cutV_take]
    unfold txs
    rw [List.map_take]
  refine hx H1 s1 _ fun H2 s2 => ⟨by show 1 ≤ sizeLine; omega, fun k2 H3 s3 n3 e3 => ?_⟩
  have lt1 : (ls.take d).length ≤ 1000 := by rw [List.length_take]; omega
  refine ⟨k1, k2, _, _, txs (ls.take d ++ [x]), rfl, rfl, (s2.trans s3) _ _ e1', e3, by rw [txs_len]; show _ + 1 ≤ _; omega, by unfold txs; rw [List.map_append]; rfl, fun k3 H4 s4 n4 e4 => ?_⟩
  have s14 := s1.trans (s2.trans (s3.trans s4))
  refine ⟨_, h1, he H4 s14 _ ⟨(b : Int), rfl, a, txs ls, rfl, SqL.of (s14 _ _ ha), fun k5 H5 s5 n5 e5 => ?_⟩⟩
  have e5' : H5 k5 = some (.lst (txs (ls.drop b))) := by
    rw [e5, cutV_from]
    unfold txs
    rw [List.map_drop]
  refine ⟨k3, k5, _, _, txs (ls.take d ++ [x] ++ ls.drop b), rfl, rfl, s5 _ _ e4, e5', ?_, by unfold txs; rw [List.map_append (l₁ := ls.take d ++ [x])], fun k6 H6 s6 n6 e6 => ?_⟩
  · rw [txs_len, txs_len, List.length_append, List.length_drop]
    simp only [List.length_singleton]
    omega
  · exact q k6 H6 (s14.trans (s5.trans s6)) ((s14.trans s5).free n6) e6
theorem ok_lbent {f : Addr} {fd : FuncData} {k : Nat} (F : Fun K "_law_bent" "_law_bent" sLBent f fd) (DD : Df P w K mg base (k + 1) "_law_draw" ["_law_source_here", "_law_many"] spDrawS) (DP : Df P w K mg base (k + 2) "_law_pick" ["_law_source_here", "_law_things"] (spPick K)) (ml : mg "len" = none) (mI : mg "int" = none) : FnOk P w K mg base CX0 (k + 3) f fd ["_law_source_here", "_law_lines_here"] spLBent := by
  refine F.ok scLBent (fun vs H Q E h => ?_) (fun cdv A outer s H vs Q E hr h => ?_)
  · obtain ⟨p, a, n, j, ls, rfl, _⟩ := h
    rfl
  · obtain ⟨p, a, n, j, ls, rfl, hp, hn, nap, ha, hne, hb, hj, q⟩ := h
    have big : (1000000 : Nat) ≤ sizeLine := by rw [sizeLine_eq]; decide
    refine ⟨_, pss_cons (ps_par (i := 2) (j := 3) (by rfl) scLBent.nd rfl rfl (by decide) rfl rfl (pa_cons (pe_df DD hr (pa_cons (pv 0) (pa_cons (pe_callB call_lenS (by rfl) ml PySem.boot_len (pa_cons (pv 1) pa_nil)) pa_nil))) (pa_cons (pe_df DD hr (pa_cons (pv 0) (pa_cons pe_int pa_nil))) pa_nil)) (by rfl))
      (pss_cons (ps_set (i := 4) scLBent.nd rfl (.inl rfl) (pe_lstS (pa_cons pe_str (pa_cons pe_str (pa_cons pe_str (pa_cons pe_str (pa_cons pe_str (pa_cons pe_str (pa_cons pe_str (pa_cons pe_str (pa_cons pe_str (pa_cons pe_str pa_nil)))))))))))) 
      (pss_cons (ps_set (i := 4) scLBent.nd rfl (.inl rfl) (pe_op op_catS (pv 4) (pe_lstS (pa_cons pe_str (pa_cons pe_str (pa_cons pe_str (pa_cons pe_str (pa_cons pe_str (pa_cons pe_str (pa_cons pe_str (pa_cons pe_str pa_nil))))))))))) 
      (pss_cons (ps_set (i := 4) scLBent.nd rfl (.inl rfl) (pe_op op_catS (pv 4) (pe_lstS (pa_cons pe_str (pa_cons pe_str (pa_cons pe_str (pa_cons pe_str (pa_cons pe_str (pa_cons pe_str (pa_cons pe_str (pa_cons pe_str pa_nil))))))))))) 
      (pss_cons (ps_set (i := 4) scLBent.nd rfl (.inl rfl) (pe_op op_catS (pv 4) (pe_lstS (pa_cons pe_str (pa_cons pe_str (pa_cons pe_str (pa_cons pe_str (pa_cons pe_str pa_nil))))))))
      (pss_cons (ps_set (i := 5) scLBent.nd rfl (.inl rfl) (pe_df DP hr (pa_cons (pv 0) (pa_cons (pv 4) pa_nil))))
      (pss_cons (ps_if (pt_cmpR op_eq (pv 3) pe_int (nomark _)) (pss_one (ps_ret (pe_op op_catS (pe_op op_catS (pe_slice sl_listS (pv 1) po_none (po_some (pv 2))) (pe_lstS (pa_cons (pv 5) pa_nil))) (pe_slice sl_listS (pv 1) (po_some (pv 2)) po_none)))) pss_nil)
      (pss_cons (ps_if (pt_cmpR op_eq (pv 3) pe_int (nomark _)) (pss_one (ps_ret (pe_op op_catS (pe_slice sl_listS (pv 1) po_none (po_some (pv 2))) (pe_slice sl_listS (pv 1) (po_some (pe_op op_add (pv 2) pe_int)) po_none)))) pss_nil)
      (pss_cons (ps_if (pt_cmpR op_eq (pv 3) pe_int (nomark _)) (pss_one (ps_ret (pe_op op_catS (pe_op op_catS (pe_slice sl_listS (pv 1) po_none (po_some (pv 2))) (pe_lstS (pa_cons (pv 5) pa_nil))) (pe_slice sl_listS (pv 1) (po_some (pe_op op_add (pv 2) pe_int)) po_none)))) pss_nil)
      (pss_cons (ps_if (pt_cmpR op_eq (pv 3) pe_int (nomark _)) (pss_one (ps_ret (pe_op op_catS (pe_op op_catS (pe_slice sl_listS (pv 1) po_none (po_some (pv 2))) (pe_lstS (pa_cons (pe_ix ix_list (pv 1) (pv 2) (fun _ _ => rfl)) pa_nil))) (pe_slice sl_listS (pv 1) (po_some (pv 2)) po_none)))) pss_nil)
      (pss_cons (ps_if (pt_cmpR op_eq (pv 3) pe_int (nomark _))
        (pss_cons (ps_set (i := 6) scLBent.nd rfl (.inl rfl) (pe_df DD hr (pa_cons (pv 0) (pa_cons (pe_op op_add (pe_callB call_len_str (by rfl) ml PySem.boot_len (pa_cons (pe_ix ix_list (pv 1) (pv 2) (fun _ _ => rfl)) pa_nil)) pe_int) pa_nil))))
        (pss_cons (ps_set (i := 7) scLBent.nd rfl (.inl rfl) (pe_df DP hr (pa_cons (pv 0) (pa_cons (pe_lstS (pa_cons pe_str (pa_cons pe_str (pa_cons pe_str (pa_cons pe_str (pa_cons pe_str (pa_cons pe_str (pa_cons pe_str (pa_cons pe_str pa_nil)))))))) ) pa_nil))))
        (pss_cons (ps_par (i := 8) (j := 9) (by rfl) scLBent.nd rfl rfl (by decide) rfl rfl (pa_cons (pe_ix ix_list (pv 1) (pv 2) (fun _ _ => rfl)) (pa_cons (pe_op op_add (pv 6) (pe_df DD hr (pa_cons (pv 0) (pa_cons pe_int pa_nil)))) pa_nil)) (by rfl))
        (pss_cons (ps_set (i := 8) scLBent.nd rfl (.inl rfl) (pe_op op_add_str (pe_op op_add_str (pe_slice sl_str (pv 8) po_none (po_some (pv 6))) (pv 7)) (pe_slice sl_str (pv 8) (po_some (pv 9)) po_none)))
        (pss_one (ps_ret (pe_op op_catS (pe_op op_catS (pe_slice sl_listS (pv 1) po_none (po_some (pv 2))) (pe_lstS (pa_cons (pv 8) pa_nil))) (pe_slice sl_listS (pv 1) (po_some (pe_op op_add (pv 2) pe_int)) po_none)))))))) pss_nil)
      (pss_cons (ps_set (i := 10) scLBent.nd rfl (.inl rfl) (pe_split (pe_ix ix_list (pv 1) (pv 2) (fun _ _ => rfl)) pe_str))
      (pss_cons (ps_set (i := 6) scLBent.nd rfl (.inl rfl) (pe_df DD hr (pa_cons (pv 0) (pa_cons (pe_op op_add (pe_callB call_lenS (by rfl) ml PySem.boot_len (pa_cons (pv 10) pa_nil)) pe_int) pa_nil))))
      (pss_cons (ps_set (i := 11) scLBent.nd rfl (.inl rfl) (pe_df DP hr (pa_cons (pv 0) (pa_cons (pe_lstS (pa_cons pe_str (pa_cons pe_str (pa_cons pe_str (pa_cons pe_str (pa_cons pe_str (pa_cons pe_str (pa_cons pe_str (pa_cons pe_str pa_nil))))))))) pa_nil))))
      (pss_cons (ps_set (i := 10) scLBent.nd rfl (.inl rfl) (pe_op op_catS (pe_op op_catS (pe_slice sl_listS (pv 10) po_none (po_some (pv 6))) (pe_lstS (pa_cons (pv 11) pa_nil))) (pe_slice sl_listS (pv 10) (po_some (pe_op op_add (pv 6) (pe_callTy call_int1 (by rfl) mI (by decide +kernel) (pa_cons (pe_cmpR op_gt (pv 3) pe_int (nomark _)) pa_nil)))) po_none)))
      (pss_one (ps_ret (pe_op op_catS (pe_op op_catS (pe_slice sl_listS (pv 1) po_none (po_some (pv 2))) (pe_lstS (pa_cons (pe_join pe_str (pv 10)) pa_nil))) (pe_slice sl_listS (pv 1) (po_some (pe_op op_add (pv 2) pe_int)) po_none)))))))))))))))))), ?_⟩
    have lw : (txs ls).length = ls.length := txs_len _
    have lpos : 0 < ls.length := List.length_pos_iff.mpr hne
    have hln := hb.n
    have fin : ∀ {Hx H' : Hp} {l : Addr} {ls' : List (List Nat)}, But p H Hx → Src Hx p (n + 10) → Same Hx H' → Hx l = none → H' l = some (.lst (txs ls')) → Bnd (j + 1) ls' → Q (.ref l) H' := fun {Hx H' l ls'} B S0 s0 n0 e0 b0 =>
      q l H' ls' (B.trans fun x o e _ => s0 x o e) (S0.same s0) (by obtain ⟨o, eo, _⟩ := S0; exact B.free eo n0) e0 b0
    refine ⟨_, rfl, _, rfl, a, txs ls, rfl, .inl (SqL.of ha), p, _, n, rfl, hp, by omega, by rw [lw]; omega, by rw [lw]; omega, fun d H1 d1 b1 s1 => ⟨_, rfl, p, 8, n + 1, rfl, s1, by omega, by decide, by decide, fun wy H2 w1 b2 s2 => ⟨_, _, rfl, ?_⟩⟩⟩
    have hd : d < ls.length := by rw [lw] at d1; omega
    refine ⟨by show 10 ≤ sizeLine; omega, fun l1 H3 s3 n3 e3 => ⟨_, rfl, by show 8 ≤ sizeLine; omega, fun l2 H4 s4 n4 e4 => ⟨l1, l2, _, _, _, rfl, rfl, s4 _ _ e3, e4, by show 10 + 8 ≤ sizeLine; omega, rfl, fun l3 H5 s5 n5 e5 => ⟨_, rfl, by show 8 ≤ sizeLine; omega, fun l4 H6 s6 n6 e6 => ⟨l3, l4, _, _, _, rfl, rfl, s6 _ _ e5, e6, by show 18 + 8 ≤ sizeLine; omega, rfl, fun l5 H7 s7 n7 e7 => ⟨_, rfl, by show 5 ≤ sizeLine; omega, fun l6 H8 s8 n8 e8 => ⟨l5, l6, _, _, _, rfl, rfl, s8 _ _ e7, e8, by show 26 + 5 ≤ sizeLine; omega, rfl, fun l7 H9 s9 n9 e9 => ?_⟩⟩⟩⟩⟩⟩⟩
    have s29 := s3.trans (s4.trans (s5.trans (s6.trans (s7.trans (s8.trans s9)))))
    have src8 := s2.same (s3.trans (s4.trans (s5.trans (s6.trans (s7.trans s8)))))
    refine ⟨_, rfl, _, rfl, p, n + 2, s2.same s29, by omega, .inl ⟨l7, _, rfl, SqL.of e9, ne_src src8 n9, by show 0 < 31; decide, by show 31 < 1073741824; decide, fun x H10 hx b10 s10 => ?_⟩⟩
    obtain ⟨line, rfl, bl⟩ := lits_ok (by decide +kernel) (j + 1) x hx
    have B10 : But p H H10 := (b1.trans b2).trans (But.trans (fun x o e _ => s29 x o e) b10)
    have ha10 := B10 _ _ ha nap
    have ll : ls.length ≤ 1000 := by omega
    have rf10 : Same H10 H10 := fun _ _ h => h
    have S10 : Src H10 p (n + 10) := s10.le (by omega)
    have wis : ∀ i : Nat, V.bl (decide (num wy = V.int (i : Int))) = V.bl (decide (wy = i)) := fun i => by
      refine congrArg V.bl ?_
      rw [decide_eq_decide]
      exact ⟨fun z => by injection z with z; omega, fun z => by rw [z]; rfl⟩
    refine ⟨_, rfl, rfl, decide (wy = 0), wis 0, ?_⟩
    by_cases w0 : wy = 0
    · rw [decide_eq_true w0]
      exact iteT (bent_ret (d := d) (b := d) (x := line) rfl rfl ha10 ll (fun H1 s R r => ⟨_, rfl, r _ fun _ _ h => h⟩) (fun H1 s R r => ⟨_, rfl, r⟩) fun l H' s' n' e' => fin B10 S10 s' n' e' (hb.put bl (Nat.le_refl _)))
    rw [decide_eq_false w0]
    refine iteF ⟨_, rfl, rfl, decide (wy = 1), wis 1, ?_⟩
    by_cases w1 : wy = 1
    · rw [decide_eq_true w1]
      refine iteT ⟨_, rfl, _, rfl, (d : Int), rfl, a, txs ls, rfl, SqL.of ha10, fun k1 H11 s11 n11 e11 => ⟨_, rfl, _, rfl, _, _, rfl, rfl, ((d + 1 : Nat) : Int), rfl, a, txs ls, rfl, SqL.of (s11 _ _ ha10), fun k2 H12 s12 n12 e12 => ?_⟩⟩
      have e11' : H11 k1 = some (.lst (txs (ls.take d))) := by
        rw [e11, cutV_take]
        unfold txs
        rw [List.map_take]
      have e12' : H12 k2 = some (.lst (txs (ls.drop (d + 1)))) := by
        rw [e12, cutV_from]
        unfold txs
        rw [List.map_drop]
      refine ⟨k1, k2, _, _, txs (ls.take d ++ ls.drop (d + 1)), rfl, rfl, s12 _ _ e11', e12', by rw [txs_len, txs_len, List.length_take, List.length_drop]; omega, by unfold txs; rw [List.map_append], fun k3 H13 s13 n13 e13 => ?_⟩
      exact fin B10 S10 (s11.trans (s12.trans s13)) ((s11.trans s12).free n13) e13 (hb.cut (Nat.le_succ _))
    rw [decide_eq_false w1]
    refine iteF ⟨_, rfl, rfl, decide (wy = 2), wis 2, ?_⟩
    by_cases w2 : wy = 2
    · rw [decide_eq_true w2]
      exact iteT (bent_ret (d := d) (b := d + 1) (x := line) rfl rfl ha10 ll (fun H1 s R r => ⟨_, rfl, r _ fun _ _ h => h⟩) (fun H1 s R r => ⟨_, rfl, _, _, rfl, rfl, r⟩) fun l H' s' n' e' => fin B10 S10 s' n' e' (hb.put bl (Nat.le_succ _)))
    rw [decide_eq_false w2]
    have brow := hb.l _ (wd_mem hd)
    refine iteF ⟨_, rfl, rfl, decide (wy = 3), wis 3, ?_⟩
    by_cases w3 : wy = 3
    · rw [decide_eq_true w3]
      exact iteT (bent_ret (d := d) (b := d) (x := wd ls d) rfl rfl ha10 ll (fun H1 s R r => ⟨_, rfl, _, rfl, a, txs ls, d, .str (S (wd ls d)), rfl, rfl, SqL.of (s _ _ ha10), atI_nat (j := d) (wd_at hd), r _ fun _ _ h => h⟩) (fun H1 s R r => ⟨_, rfl, r⟩) fun l H' s' n' e' => fin B10 S10 s' n' e' (hb.put brow.up (Nat.le_refl _)))
    rw [decide_eq_false w3]
    refine iteF ⟨_, rfl, rfl, decide (wy = 4), wis 4, ?_⟩
    have lrow : (wd ls d).length ≤ 800 := by have := brow.1; omega
    by_cases w4 : wy = 4
    · rw [decide_eq_true w4]
      refine iteT ⟨_, rfl, _, rfl, _, rfl, a, txs ls, d, .str (S (wd ls d)), rfl, rfl, SqL.of ha10, atI_nat (j := d) (wd_at hd), S (wd ls d), rfl, by rw [len_S]; omega, _, _, rfl, rfl, p, _, n + 3, rfl, s10, by omega, by rw [len_S]; omega, by rw [len_S]; omega, fun sp H11 h1 b11 s11 => ?_⟩
      rw [len_S] at h1
      refine ⟨_, rfl, by show 8 ≤ sizeLine; omega, fun l8 H12 s12 n12 e12 => ⟨p, n + 4, s11.same s12, by omega, .inl ⟨l8, _, rfl, SqL.of e12, ne_src s11 n12, by show 0 < 8; decide, by show 8 < 1073741824; decide, fun x H13 hx b13 s13 => ?_⟩⟩⟩
      obtain ⟨c, rfl, hc⟩ := signs_ok (by decide +kernel) x hx
      have B13 : But p H H13 := B10.trans (b11.trans (But.trans (fun x o e _ => s12 x o e) b13))
      have ha13 := B13 _ _ ha nap
      refine ⟨_, rfl, _, rfl, a, txs ls, d, .str (S (wd ls d)), rfl, rfl, SqL.of ha13, atI_nat (j := d) (wd_at hd), _, rfl, _, rfl, p, 2, n + 5, rfl, s13, by omega, by decide, by decide, fun b0 H14 h2 b14 s14 => ⟨_, _, rfl, rfl, _, _, rfl, ?_⟩⟩
      have B14 := B13.trans b14
      have ha14 := B14 _ _ ha nap
      have c1 : cutS (S (wd ls d)) none (some (sp : Int)) = S ((wd ls d).take sp) := cutS_headB _ _
      have c2 : cutS (S (wd ls d)) (some ((sp : Int) + (b0 : Int))) none = S ((wd ls d).drop (sp + b0)) := cutS_drop (wd ls d) (sp + b0)
      have lt1 : ((wd ls d).take sp).length ≤ 800 := by rw [List.length_take]; omega
      have lt2 : ((wd ls d).drop (sp + b0)).length ≤ 800 := by rw [List.length_drop]; omega
      refine ⟨_, rfl, _, rfl, (sp : Int), rfl, S (wd ls d), rfl, by rw [len_S]; omega, _, rfl, _, _, rfl, rfl, by rw [c1, len_S, len_S]; show _ + 1 ≤ _; omega, _, rfl, _, rfl, (sp : Int) + (b0 : Int), rfl, S (wd ls d), rfl, by rw [len_S]; omega, _, _, rfl, rfl, by rw [c1, c2, S_app, len_S, len_S, List.length_append]; show _ + 1 + _ ≤ _; omega, ?_⟩
      have ev : cutS (S (wd ls d)) none (some (sp : Int)) ++ S [c] ++ cutS (S (wd ls d)) (some ((sp : Int) + (b0 : Int))) none = S ((wd ls d).take sp ++ [c] ++ (wd ls d).drop (sp + b0)) := by
        rw [c1, c2, S_app, S_app]
      exact bent_ret (d := d) (b := d + 1) (x := (wd ls d).take sp ++ [c] ++ (wd ls d).drop (sp + b0)) rfl rfl ha14 ll (fun H1 s R r => ⟨_, rfl, by have := r _ (fun _ _ h => h); rw [← ev] at this; exact this⟩) (fun H1 s R r => ⟨_, rfl, _, _, rfl, rfl, r⟩) fun l H' s' n' e' => fin B14 (s14.le (by omega)) s' n' e' (hb.put (bnd_row brow (Nat.le_add_right _ _) hc) (Nat.le_succ _))
    rw [decide_eq_false w4]
    refine iteF ⟨_, rfl, _, rfl, a, txs ls, d, .str (S (wd ls d)), rfl, rfl, SqL.of ha10, atI_nat (j := d) (wd_at hd), ⟨_, rfl⟩, S (wd ls d), Str.ofString " ", rfl, rfl, by decide +kernel, by rw [len_S]; omega, fun kw nkw => ?_⟩
    rw [sp_str, split_any (by decide)]
    have s11 := same_upd (o := .lst (txs (splL 32 (wd ls d)))) nkw
    have e11 : (upd H10 kw (.lst (txs (splL 32 (wd ls d))))) kw = some (.lst (txs (splL 32 (wd ls d)))) := upd_same
    generalize upd H10 kw (.lst (txs (splL 32 (wd ls d)))) = H11 at s11 e11
    have lws : (splL 32 (wd ls d)).length ≤ 100 := by
      rw [splL_count]
      have := brow.2.1
      omega
    have lwt : (txs (splL 32 (wd ls d))).length = (splL 32 (wd ls d)).length := txs_len _
    have kwp : kw ≠ p := ne_src s10 nkw
    refine ⟨_, rfl, _, rfl, kw, txs (splL 32 (wd ls d)), rfl, .inl (SqL.of e11), _, _, rfl, rfl, p, _, n + 3, rfl, s10.same s11, by omega, by rw [lwt]; omega, by rw [lwt]; omega, fun sp H12 h1 b12 s12 => ?_⟩
    refine ⟨_, rfl, by show 8 ≤ sizeLine; omega, fun l8 H13 s13 n13 e13 => ⟨p, n + 4, s12.same s13, by omega, .inl ⟨l8, _, rfl, SqL.of e13, ne_src s12 n13, by show 0 < 8; decide, by show 8 < 1073741824; decide, fun x H14 hx b14 s14 => ?_⟩⟩⟩
    obtain ⟨wo, rfl, hwo⟩ := words_ok (by decide +kernel) x hx
    have B1114 : But p H11 H14 := b12.trans (But.trans (fun x o e _ => s13 x o e) b14)
    have B14 : But p H H14 := B10.trans (But.trans (fun x o e _ => s11 x o e) B1114)
    have ha14 := B14 _ _ ha nap
    have e14 := B1114 _ _ e11 kwp
    obtain ⟨b2, hb2⟩ : ∃ b2 : Nat, b2 = if 6 < wy then 1 else 0 := ⟨_, rfl⟩
    have eb2 : (if decide (((6 : Nat) : Int) < (wy : Int)) = true then (1 : Int) else 0) = ((b2 : Nat) : Int) := by
      rw [hb2]
      by_cases z : 6 < wy
      · rw [if_pos z, decide_eq_true (by omega), if_pos rfl]
        rfl
      · rw [if_neg z, decide_eq_false (by omega), if_neg Bool.false_ne_true]
        rfl
    refine bent_ret (d := sp) (b := sp + b2) (x := wo) rfl rfl e14 (by omega) (fun H1 s R r => ⟨_, rfl, r _ fun _ _ h => h⟩) (fun H1 s R r => ⟨_, rfl, _, rfl, _, _, rfl, rfl, .inr ⟨_, rfl, _, _, rfl, rfl, ?_⟩⟩) (fun l9 H15 s15 n15 e15 => ?_)
    · have r : R (.int ((sp : Int) + ((b2 : Nat) : Int))) H1 := r
      rw [← eb2] at r
      exact r
    have bw := bnd_words brow (w := wo) (s := sp) (t := sp + b2) (Nat.le_add_right _ _) hwo
    have hjl := joinL_length [32] ((splL 32 (wd ls d)).take sp ++ [wo] ++ (splL 32 (wd ls d)).drop (sp + b2))
    have b1 := bw.1
    generalize (splL 32 (wd ls d)).take sp ++ [wo] ++ (splL 32 (wd ls d)).drop (sp + b2) = nw at bw e15 hjl b1
    refine bent_ret (d := d) (b := d + 1) (x := joinL [32] nw) rfl rfl (s15 _ _ ha14) ll (fun H1 s R r => ⟨⟨_, rfl⟩, _, rfl, Str.ofString " ", l9, nw.map S, rfl, rfl, .inl (SqL.of (by rw [s _ _ e15]; unfold txs; rw [List.map_map]; rfl)), ?_, ?_⟩) (fun H1 s R r => ⟨_, rfl, _, _, rfl, rfl, r⟩) fun l H' s' n' e' => fin B14 (s14.le (by omega)) (s15.trans s') (s15.free n') e' (hb.put bw (Nat.le_succ _))
    · rw [flat_len, sp_str, len_S, List.length_map]
      show _ + _ * 1 ≤ 16777216
      have l1 : ([32] : List Nat).length = 1 := rfl
      rw [l1] at hjl
      omega
    · rw [sp_str, join_S]
      exact r _ fun _ _ h => h
end
end Tb

set_option Elab.async false
set_option linter.all false
set_option maxRecDepth 100000
set_option maxHeartbeats 4000000
/-! the written texts of the law: pure -/
namespace Tb
open PySem PySem.Spec PyProof.Rows L2 TL
def txt51 : List Nat := joinL [10] (headA ++ plLines 51)
def txt50 : List Nat := joinL [10] (headA ++ plLines 50)
def txtOn : List Nat := joinL [10] (headA ++ [placeW ++ [32, 111, 110]])
def txtA : List Nat := joinL [10] [lettersW ++ [32, 97]]
def txtB : List Nat := joinL [10] headA
def txbB (cs : List Nat) : Bool := decide (cs.length ≤ 100000) && decide ((splL 10 cs).length ≤ 1000) && (splL 10 cs).all fun l => decide (l.length ≤ 1000) && decide ((splL 32 l).length ≤ 60) && l.all fun c => decide (c < 1114112)
theorem txb_of {cs : List Nat} (h : txbB cs = true) : TxB cs := by
  unfold txbB at h
  rw [Bool.and_eq_true, Bool.and_eq_true, decide_eq_true_iff, decide_eq_true_iff] at h
  refine ⟨h.1.1, h.1.2, fun l hl => ?_⟩
  have h2 := List.all_eq_true.mp h.2 l hl
  rw [Bool.and_eq_true, Bool.and_eq_true, decide_eq_true_iff, decide_eq_true_iff] at h2
  exact ⟨h2.1.1, h2.1.2, fun c hc => of_decide_eq_true (List.all_eq_true.mp h2.2 c hc)⟩
theorem tx51 : TxB txt51 := txb_of (by decide +kernel)
theorem tx50 : TxB txt50 := txb_of (by decide +kernel)
theorem txOn : TxB txtOn := txb_of (by decide +kernel)
theorem txA : TxB txtA := txb_of (by decide +kernel)
theorem txB : TxB txtB := txb_of (by decide +kernel)
theorem tx0 : TxB [] := txb_of (by decide +kernel)
theorem tr_inl {cs : List Nat} {n : Nat} (h : paF cs = .inl n) : triedV cs = [.str (Str.ofString "line"), .int (n : Int)] := by
  unfold triedV
  rw [h]
theorem tr_inr {cs : List Nat} {q : List Nat × List Nat × RS} (h : paF cs = .inr q) : triedV cs = [.str (Str.ofString "told"), .str (S cs)] := by
  unfold triedV
  rw [h]
theorem tr51 : triedV txt51 = [.str (Str.ofString "line"), .int 53] := tr_inl pa_51
theorem tr50 : triedV txt50 = [.str (Str.ofString "told"), .str (S txt50)] := tr_inr pa_50.choose_spec
theorem trOn : triedV txtOn = [.str (Str.ofString "told"), .str (S txtOn)] := tr_inr pa_on.choose_spec
theorem trA : triedV txtA = [.str (Str.ofString "line"), .int 2] := tr_inl pa_one
theorem trB : triedV txtB = [.str (Str.ofString "line"), .int 3] := tr_inl pa_two
theorem tr0 : triedV [] = [.str (Str.ofString "line"), .int 1] := tr_inl pa_empty
theorem strA : Str.ofString "letters a" = S txtA := by decide +kernel
theorem strB : Str.ofString "letters a\nboxes" = S txtB := by decide +kernel
theorem strOn : Str.ofString "letters a\nboxes\nplace on" = S txtOn := by decide +kernel
theorem pl_snoc (k : Nat) : plLines (k + 1) = plLines k ++ [placeW ++ [32] ++ plName k] := by
  unfold plLines
  rw [List.range_succ, List.map_append]
  rfl
theorem pl_at1 : ∀ j : Fin 51, atI (Str.ofString "abcdefghij").cps.toList ((0 + (j.val : Int)) % 10) = some (97 + j.val % 10) := by decide +kernel
theorem pl_at2 : ∀ j : Fin 51, atI (Str.ofString "abcdef").cps.toList ((0 + (j.val : Int)) / 10) = some (97 + j.val / 10) := by decide +kernel
theorem pl_str (j : Nat) : Str.ofString "place p" ++ (⟨#[97 + j % 10]⟩ : Str) ++ (⟨#[97 + j / 10]⟩ : Str) = S (placeW ++ [32] ++ plName j) := by
  rw [show Str.ofString "place p" = S (placeW ++ [32, 112]) by decide +kernel]
  show S (placeW ++ [32, 112]) ++ S [97 + j % 10] ++ S [97 + j / 10] = _
  rw [S_app, S_app]
  rfl
theorem len51 : (headA ++ plLines 51).length = 53 := by decide +kernel
theorem flat51 : (headA ++ plLines 51).flatten.length ≤ 1000 := by decide +kernel
theorem flat50 : (headA ++ plLines 50).flatten.length ≤ 1000 := by decide +kernel
theorem len50 : (headA ++ plLines 50).length = 52 := by decide +kernel
def shortT : List (List Nat) := [[], txtA, txtB, txtOn]
theorem short_tx : ∀ t ∈ shortT, TxB t := fun t ht => by
  rcases List.mem_cons.mp ht with e | ht
  · rw [e]; exact tx0
  · rcases List.mem_cons.mp ht with e | ht
    · rw [e]; exact txA
    · rcases List.mem_cons.mp ht with e | ht
      · rw [e]; exact txB
      · rw [List.mem_singleton.mp ht]; exact txOn
end Tb

set_option Elab.async false
set_option linter.all false
set_option maxRecDepth 100000
set_option maxHeartbeats 4000000
/-! the law -/
namespace Tb
open PySem PySem.Spec PyProof.Rows L2 TL
theorem cutV_init (xs : List V) (x : V) : cutV (xs ++ [x]) none (some (-1)) = xs := by
  unfold cutV
  have e : HT.sIx (xs ++ [x]).length (xs ++ [x]).length (some (-1)) = xs.length := by
    show (if (-1 : Int) < 0 then ((-1 : Int) + ((xs ++ [x]).length : Int)).toNat else min (-1 : Int).toNat (xs ++ [x]).length) = _
    rw [if_pos (by decide), List.length_append]
    simp only [List.length_singleton]
    omega
  rw [e, HT.sIx_none, List.drop_zero, Nat.sub_zero]
  exact List.take_left' rfl
def dTr (cs : List Nat) : List PyData := match paF cs with
  | .inl n => [.str (Str.ofString "line"), .int (n : Int)]
  | .inr _ => [.str (Str.ofString "told"), .str (S cs)]
theorem dTr_all {K : PySem.W.Frag} {H : Hp} (cs : List Nat) : DpAll K H (triedV cs) (dTr cs) := by
  unfold triedV dTr
  cases paF cs with
  | inl n => exact .cons (.str _) (.cons (.int _) .nil)
  | inr _ => exact .cons (.str _) (.cons (.str _) .nil)
theorem TxB.uni {cs : List Nat} (h : TxB cs) : ∀ c ∈ cs, c < 1114112 := fun c hc => by
  rw [← splL_join 10 cs] at hc
  rcases joinL_mem2 hc with z | ⟨x, hx, z⟩
  · rw [List.mem_singleton.mp z]
    decide
  · exact (h.2.2 x hx).2.2 c z
theorem canLay_dTr {cs : List Nat} (h : TxB cs) : PyData.canLay0 (.tuple (dTr cs)) = true := by
  show PyData.canLayAll0 (dTr cs) = true
  unfold dTr
  cases paF cs with
  | inl n =>
    show (PyData.strOk (Str.ofString "line") && (true && true)) = true
    decide +kernel
  | inr _ =>
    show (PyData.strOk (Str.ofString "told") && (PyData.strOk (S cs) && true)) = true
    rw [show PyData.strOk (Str.ofString "told") = true by decide +kernel, Bool.true_and, Bool.and_true]
    unfold PyData.strOk
    rw [show (S cs).cps = cs.toArray from rfl, List.all_toArray, List.all_eq_true]
    exact fun c hc => decide_eq_true (h.uni c hc)
theorem shaped_dTr {cs : List Nat} (h : TxB cs) : SeqAt.shaped (.tuple (dTr cs)) = true := by
  unfold SeqAt.shaped
  rw [Bool.and_eq_true]
  refine ⟨canLay_dTr h, decide_eq_true ?_⟩
  unfold dTr
  cases paF cs with
  | inl n => show max 0 (max 0 0) + 1 ≤ 64; decide
  | inr _ => show max 0 (max 0 0) + 1 ≤ 64; decide
theorem eqv_dTr {cs : List Nat} (h : TxB cs) : PyData.eqv (.tuple (dTr cs)) (.tuple (dTr cs)) = true := SeqAt.eqv_refl _ (canLay_dTr h)
/-! lists of such tuples -/
def dTs (l : List (List Nat)) : List PyData := l.map fun cs => .tuple (dTr cs)
theorem dTs_all {K : PySem.W.Frag} {H : Hp} : ∀ {ts : List Addr} {l : List (List Nat)}, Paired (fun T cs => H T = some (.tup (triedV cs))) ts l → DpAll K H (ts.map V.ref) (dTs l)
  | _, _, .nil => .nil
  | _, _, .cons h t => .cons (.tup (SqT.of h) (dTr_all _)) (dTs_all t)
theorem canLay_dTs : ∀ {l : List (List Nat)}, (∀ t ∈ l, TxB t) → PyData.canLayAll0 (dTs l) = true
  | [], _ => rfl
  | t :: l, h => by
    show (PyData.canLay0 (.tuple (dTr t)) && PyData.canLayAll0 (dTs l)) = true
    rw [canLay_dTr (h t List.mem_cons_self), canLay_dTs fun x hx => h x (List.mem_cons_of_mem _ hx)]
    rfl
theorem depth_dTr (cs : List Nat) : PyData.depth (.tuple (dTr cs)) ≤ 1 := by
  unfold dTr
  cases paF cs with
  | inl n => show max 0 (max 0 0) + 1 ≤ 1; decide
  | inr _ => show max 0 (max 0 0) + 1 ≤ 1; decide
theorem depth_dTs : ∀ l : List (List Nat), PyData.depthAll (dTs l) ≤ 1
  | [] => Nat.zero_le _
  | t :: l => by
    show max (PyData.depth (.tuple (dTr t))) (PyData.depthAll (dTs l)) ≤ 1
    exact Nat.max_le.mpr ⟨depth_dTr t, depth_dTs l⟩
theorem shaped_dTs {l : List (List Nat)} (h : ∀ t ∈ l, TxB t) : SeqAt.shaped (.list (dTs l)) = true := by
  unfold SeqAt.shaped
  rw [Bool.and_eq_true]
  refine ⟨canLay_dTs h, decide_eq_true ?_⟩
  show PyData.depthAll (dTs l) + 1 ≤ 64
  have := depth_dTs l
  omega
theorem eqv_dTs {l : List (List Nat)} (h : ∀ t ∈ l, TxB t) : PyData.eqv (.list (dTs l)) (.list (dTs l)) = true := SeqAt.eqv_refl _ (canLay_dTs h)
theorem tIfG {c : Bool} {ta tb : TE} {σ : L2.St} {H : Hp} {k : VK} (G : V → Hp → Prop) (ha : c = true → ∀ R : VK, (∀ v H', Same H H' → G v H' → R v H') → ta σ H R) (hb : c = false → ∀ R : VK, (∀ v H', Same H H' → G v H' → R v H') → tb σ H R) (go : ∀ v H', Same H H' → G v H' → k v H') : if c = true then ta σ H k else tb σ H k := by
  cases c with
  | true => exact iteT (ha rfl _ go)
  | false => exact iteF (hb rfl _ go)
section
variable {P : Program} {w : World} {K : PySem.W.Frag} {mg : Str → Option Value} {base : Heap}
abbrev nLaw04 : List Str := ["_law_script", "_law_source_here", "_law_turn", "_law_letters", "_law_lines_here", "_law_k", "_law_text", "_law_due_here", "_law_many", "_law_last", "_law_short"]
theorem scLaw04 : FnScope nLaw04 ["_law_script"] (defScope sLaw) := ⟨rfl, rfl, rfl, by decide +kernel, rfl, by decide +kernel, by decide +kernel⟩
def spLaw (K : PySem.W.Frag) : Sp := fun vs H Q _ => ∃ (a : Addr) (ns : List Int), vs = [.ref a] ∧ SqL K H a (ns.map V.int) ∧ ns.length ≤ 63 ∧ ∀ H', Q (.bl true) H'
def abx : List Nat := [97, 98, 120]
theorem abx_str : Str.ofString "abx" = S abx := by decide +kernel
theorem abx_nd : abx.Nodup := by decide
theorem abx_low : ∀ c ∈ abx, 97 ≤ c ∧ c ≤ 122 := by decide
abbrev rMod10 : R2 := rI (fun _ j => 0 < j) fun i j => .int (i % j)
abbrev rDiv10 : R2 := rI CDiv fun i j => .int (i / j)
theorem ok_law {f : Addr} {fd : FuncData} (F : Fun K "law" "law" sLaw f fd) (DSrc : Df P w K mg base 1 "_law_source" ["_law_script"] (spSource K)) (DD : Df P w K mg base 1 "_law_draw" ["_law_source_here", "_law_many"] spDrawS)
    (DS : Df P w K mg base 3 "_law_signs" ["_law_source_here", "_law_signs_here", "_law_many"] spSigns) (DPg : Df P w K mg base 5 "_law_program" ["_law_source_here", "_law_letters", "_law_most_boxes", "_law_most_places"] spProgram)
    (DLn : Df P w K mg base 1 "_law_lines" ["_law_parts"] spLines) (DBe : Df P w K mg base 3 "_law_bent" ["_law_source_here", "_law_lines_here"] spLBent) (DDu : Df P w K mg base 3 "_law_due" ["_law_text"] spLDue) (DTr : Df P w K mg base 8 "_law_tried" ["_law_text"] spTried4)
    (mr : mg "range" = none) : FnOk P w K mg base CX0 9 f fd ["_law_script"] (spLaw K) := by
  refine F.ok (k := 8) scLaw04 (fun vs H Q E h => ?_) (fun cdv A outer s H vs Q E hr h => ?_)
  · obtain ⟨a, ns, rfl, _⟩ := h
    rfl
  · obtain ⟨a, ns, rfl, hS, hn, q⟩ := h
    have big : (1000000 : Nat) ≤ sizeLine := by rw [sizeLine_eq]; decide
    have hu64 : (A.deeper (envOfC (Str.ofString "law") (defScope sLaw) s.heap.objs.size f cdv)).units + 64 < cLine := by
      have := hr.un
      omega
    refine ⟨_, pss_cons (ps_set (i := 1) scLaw04.nd rfl (.inl rfl) (pe_df DSrc hr (pa_cons (pv 0) pa_nil)))
      (pss_cons (ps_for PassesOwn.never rfl (pi_range1 rfl mr (pa_cons pe_int pa_nil)) (pg_name (i := 2) scLaw04.nd rfl (.inl rfl))
        (pss_cons (ps_set (i := 3) scLaw04.nd rfl (.inl rfl) (pe_df DS hr (pa_cons (pv 1) (pa_cons pe_str (pa_cons (pe_op op_add pe_int (pe_df DD hr (pa_cons (pv 1) (pa_cons pe_int pa_nil)))) pa_nil)))))
        (pss_cons (ps_set (i := 4) scLaw04.nd rfl (.inl rfl) (pe_df DLn hr (pa_cons (pe_df DPg hr (pa_cons (pv 1) (pa_cons (pv 3) (pa_cons pe_int (pa_cons pe_int pa_nil))))) pa_nil)))
        (pss_cons (ps_for PassesOwn.never rfl (pi_range1 rfl mr (pa_cons (pe_op op_add pe_int (pe_df DD hr (pa_cons (pv 1) (pa_cons pe_int pa_nil)))) pa_nil)) (pg_name (i := 5) scLaw04.nd rfl (.inl rfl))
          (pss_cons (ps_if (pt_cmpR (op_eqD hu64) (pv 4) (pe_lstS pa_nil) (nomark _)) (pss_one (ps_set (i := 4) scLaw04.nd rfl (.inl rfl) (pe_lstS (pa_cons pe_str pa_nil)))) pss_nil)
          (pss_one (ps_set (i := 4) scLaw04.nd rfl (.inl rfl) (pe_df DBe hr (pa_cons (pv 1) (pa_cons (pv 4) pa_nil)))))))
        (pss_cons (ps_set (i := 6) scLaw04.nd rfl (.inl rfl) (pe_join pe_str (pv 4)))
        (pss_cons (ps_set (i := 7) scLaw04.nd rfl (.inl rfl) (pe_df DDu hr (pa_cons (pv 6) pa_nil)))
        (pss_cons (ps_set (i := 7) scLaw04.nd rfl (.inl rfl) (pe_ifExp (pt_cmpR op_isN (pv 7) pe_non (nomark _)) (pe_tupS (pa_cons pe_str (pa_cons (pv 6) pa_nil))) (pe_tupS (pa_cons pe_str (pa_cons (pv 7) pa_nil)))))
        (pss_one (ps_if (pt_cmpR (op_neD hu64) (pe_df DTr hr (pa_cons (pv 6) pa_nil)) (pv 7) (nomark _)) (pss_one (ps_ret pe_bl)) pss_nil)))))))))
      (pss_cons (ps_set (i := 8) scLaw04.nd rfl (.inl rfl) (pe_op op_catS (pe_lstS (pa_cons pe_str (pa_cons pe_str pa_nil))) (pe_lc (own := [("_law_k", 5)]) (g := gName 5) (tt := tYes) (te := tOp rAddStr (tOp rAddStr (tC (.str "place p")) (tOp rIxS (tC (.str "abcdefghij")) (tOp rMod10 (tVar 5) (tC (.int 10))))) (tOp rIxS (tC (.str "abcdef")) (tOp rDiv10 (tVar 5) (tC (.int 10))))) rfl scLaw04.nd (pi_range1 rfl mr (pa_cons pe_int pa_nil)) (blkOk_by (own := [("_law_k", 5)]) (N := nLaw04) (sc := defScope sLaw) (by decide +kernel))
          (fun _ _ _ _ _ => pg_name (i := 5) scLaw04.nd rfl (.inl rfl)) (fun _ _ _ _ _ => pts_nil) (fun _ _ _ _ _ => pe_op op_add_str (pe_op op_add_str pe_str (pe_ix ix_str pe_str (pe_op op_mod (pv 5) pe_int) (fun _ _ => rfl))) (pe_ix ix_str pe_str (pe_op op_fdiv (pv 5) pe_int) (fun _ _ => rfl))))))
      (pss_cons (ps_if (pt_cmpR (op_neD hu64) (pe_df DTr hr (pa_cons (pe_join pe_str (pv 8)) pa_nil)) (pe_tupS (pa_cons pe_str (pa_cons pe_int pa_nil))) (nomark _)) (pss_one (ps_ret pe_bl)) pss_nil)
      (pss_cons (ps_set (i := 6) scLaw04.nd rfl (.inl rfl) (pe_join pe_str (pe_slice sl_listS (pv 8) po_none (po_some (pe_un un_neg pe_int)))))
      (pss_cons (ps_if (pt_cmpR (op_neD hu64) (pe_df DTr hr (pa_cons (pv 6) pa_nil)) (pe_tupS (pa_cons pe_str (pa_cons (pv 6) pa_nil))) (nomark _)) (pss_one (ps_ret pe_bl)) pss_nil)
      (pss_cons (ps_set (i := 9) scLaw04.nd rfl (.inl rfl) pe_str)
      (pss_cons (ps_set (i := 10) scLaw04.nd rfl (.inl rfl) (pe_lstS (pa_cons pe_str (pa_cons pe_str (pa_cons pe_str (pa_cons (pv 9) pa_nil))))))
      (pss_cons (ps_set (i := 7) scLaw04.nd rfl (.inl rfl) (pe_lstS (pa_cons (pe_tupS (pa_cons pe_str (pa_cons pe_int pa_nil))) (pa_cons (pe_tupS (pa_cons pe_str (pa_cons pe_int pa_nil))) (pa_cons (pe_tupS (pa_cons pe_str (pa_cons pe_int pa_nil))) (pa_cons (pe_tupS (pa_cons pe_str (pa_cons (pv 9) pa_nil))) pa_nil))))))
      (pss_one (ps_ret (pe_cmpR (op_eqD hu64) (pe_lc (own := [("_law_text", 6)]) (g := gName 6) (tt := tYes) (te := tCall spTried4 [] E0 (tCons (tVar 6) tNil)) rfl scLaw04.nd (pi_list (pv 10)) (blkOk_by (own := [("_law_text", 6)]) (N := nLaw04) (sc := defScope sLaw) (by decide +kernel))
          (fun _ _ _ _ _ => pg_name (i := 6) scLaw04.nd rfl (.inl rfl)) (fun _ _ _ _ _ => pts_nil) (fun _ _ _ _ _ => pe_df DTr hr (pa_cons (pv 6) pa_nil))) (pv 7) (nomark _)))))))))))), ?_⟩
    refine ⟨_, rfl, a, ns, rfl, hS, fun p o H1 s1 n1 e1 ho1 => ?_⟩
    have hs1 : Src H1 p 0 := ⟨o, e1, ho1⟩
    have lad : ∀ {l : Addr} {Hx : Hp} {m : Nat}, Src Hx p m → Hx l = none → l ≠ p := fun s n => ne_src s n
    -- four turns
    refine ⟨4, rfl, by decide, by decide, for_range (lo := 0) (n := 4) (fun i σ H' => ∃ v2 v3 v4 v5 v6 v7, σ = [some (.ref a), some (.ref p), v2, v3, v4, v5, v6, v7, none, none, none] ∧ Src H' p (6100 * i))
      ⟨none, none, none, none, none, none, rfl, hs1⟩ ?_ ?_⟩
    · rintro i σ H2 hi ⟨v2, v3, v4, v5, v6, v7, rfl, hs2⟩
      -- letters
      refine ⟨_, rfl, _, rfl, p, 3, 6100 * i, rfl, hs2, by omega, by decide, by decide, fun d H3 hd hb3 hs3 => ?_⟩
      refine ⟨_, _, rfl, rfl, p, 6100 * i + 1, 1 + d, abx, by have e : (1 : Int) + (d : Int) = ((1 + d : Nat) : Int) := (by omega); show [V.ref p, V.str (Str.ofString "abx"), V.int (1 + (d : Int))] = _; rw [abx_str, e]; rfl, hs3, by show 6100 * i + 1 + 3 < 1000000; omega, by decide, fun H4 all hb4 hs4 hperm => ?_⟩
      have lall : all.length = 3 := hperm.length_eq
      have hd3 : d < 3 := by omega
      obtain ⟨Lt, hLt⟩ : ∃ Lt, Lt = all.take (1 + d) := ⟨_, rfl⟩
      rw [← hLt]
      have subL : ∀ c ∈ Lt, c ∈ abx := fun c hc => hperm.mem_iff.mp (List.mem_of_mem_take (by rw [← hLt]; exact hc))
      have lenL : Lt.length = 1 + d := by rw [hLt, List.length_take]; omega
      have ndL : Lt.Nodup := by rw [hLt]; exact (List.take_sublist _ _).nodup (hperm.nodup_iff.mpr abx_nd)
      have hs4 : Src H4 p (6100 * i + 4) := hs4
      -- the program
      refine ⟨_, rfl, _, rfl, p, 6100 * i + 4, 3, 3, Lt, rfl, hs4, by omega, by omega, by omega, ndL, fun c hc => abx_low c (subL c hc), by decide, by decide, by decide, fun Lp H5 pt hb5 hs5 nL hpt g hlet hbx hplc => ⟨Lp, pt, rfl, hpt, g, fun ll H6 s6 n6 e6 => ?_⟩⟩
      have hs6 := hs5.same s6
      have bnd0 := g.bnd (by rw [hlet]; omega) hbx hplc
      -- bent once or twice
      refine ⟨_, rfl, p, 2, 6100 * i + 4 + 6000, rfl, hs6, by omega, by decide, by decide, fun e H7 he hb7 hs7 => ⟨_, _, rfl, rfl, ?_⟩⟩
      have llp : ll ≠ p := lad hs5 n6
      have e7 : H7 ll = some (.lst (txs (linesW pt))) := hb7 _ _ e6 llp
      have he2 : e < 2 := by omega
      refine ⟨1 + (e : Int), rfl, by omega, by omega, for_range (lo := 0) (n := (1 + (e : Int)).toNat) (fun m σ H' => ∃ v5 l ls, σ = [some (.ref a), some (.ref p), some (.int (0 + (i : Int))), some (.str (S Lt)), some (.ref l), v5, v6, v7, none, none, none] ∧ Src H' p (6100 * i + 6010 + 10 * m) ∧ l ≠ p ∧ H' l = some (.lst (txs ls)) ∧ Bnd m ls)
        ⟨_, ll, linesW pt, rfl, hs7.le (by omega), llp, e7, bnd0⟩ ?_ ?_⟩
      · rintro m σ H8 hm ⟨v5, l, ls, rfl, hs8, lp, e8, hbn⟩
        have hm2 : m < 2 := by omega
        have uni : Uni ls := fun x hx c hc => by
          have := (hbn.l x hx).2.2.2 c hc
          omega
        refine ⟨_, rfl, by show 0 ≤ sizeLine; omega, fun k0 H9 s9 n9 e9 => ⟨_, _, dTx_lst (s9 _ _ e8), dTx_lst (l := []) e9, shaped_dTx uni, shaped_dTx (l := []) (fun _ h => nomatch h), decide (ls = []), ?_, ?_⟩⟩
        · rw [← eqv_dTx]
          rfl
        by_cases z : ls = []
        · rw [decide_eq_true z]
          refine iteT ⟨by show 1 ≤ sizeLine; omega, fun l2 H10 s10 n10 e10 => ?_⟩
          have e10' : H10 l2 = some (.lst (txs [lettersW ++ [32, 97]])) := by
            rw [e10, show Str.ofString "letters a" = S (lettersW ++ [32, 97]) by decide +kernel]
            rfl
          have b1 : Bnd m [lettersW ++ [32, 97]] := ⟨by show 1 ≤ _; omega, fun x hx => by rw [List.mem_singleton.mp hx]; exact bnd_lit (by decide +kernel)⟩
          have s10' : Src H10 p (6100 * i + 6010 + 10 * m) := hs8.same (s9.trans s10)
          refine ⟨_, rfl, _, rfl, p, l2, _, m, _, rfl, s10', by omega, lad (hs8.same s9) n10, e10', List.cons_ne_nil _ _, b1, by omega, fun b H11 ls' B11 S11 n11 e11 bn11 => ⟨_, b, ls', rfl, S11.le (by omega), lad s10' n11, e11, bn11⟩⟩
        · rw [decide_eq_false z]
          have s10' : Src H9 p (6100 * i + 6010 + 10 * m) := hs8.same s9
          exact iteF ⟨_, rfl, _, rfl, p, l, _, m, ls, rfl, s10', by omega, lp, s9 _ _ e8, z, hbn, by omega, fun b H11 ls' B11 S11 n11 e11 bn11 => ⟨_, b, ls', rfl, S11.le (by omega), lad s10' n11, e11, bn11⟩⟩
      · rintro σ H8 ⟨v5, l, ls, rfl, hs8, lp, e8, hbn⟩
        have hm2 : (1 + (e : Int)).toNat ≤ 2 := by omega
        obtain ⟨tx, t50⟩ := hbn.tx hm2
        have tlen := tx.1
        have hjl := joinL_length [10] ls
        have ej : Txt.join (Str.ofString "\n") (ls.map S) = S (joinL [10] ls) := by rw [nl_str, join_S]
        refine ⟨⟨_, rfl⟩, _, rfl, Str.ofString "\n", l, ls.map S, rfl, rfl, .inl (SqL.of (by rw [e8]; unfold txs; rw [List.map_map]; rfl)), ?_, ?_⟩
        · rw [flat_len, nl_str, len_S, List.length_map]
          show _ + _ * 1 ≤ 16777216
          have l1 : ([10] : List Nat).length = 1 := rfl
          rw [l1] at hjl
          have := hbn.n
          omega
        rw [ej]
        generalize joinL [10] ls = cs at tx t50
        refine ⟨_, rfl, cs, rfl, tx, t50, fun H9 s9 => ⟨_, rfl, rfl, decide (dueV cs = .non), rfl, tIfG (fun v H' => ∃ T, v = .ref T ∧ H' T = some (.tup (triedV cs))) (fun c R r => ?_) (fun c R r => ?_) fun v H10 s10 hv => ?_⟩⟩
        · refine ⟨_, rfl, by show 2 ≤ sizeLine; omega, fun T H10 s10 n10 e10 => r _ _ s10 ⟨T, rfl, ?_⟩⟩
          rw [e10]
          have c := of_decide_eq_true c
          unfold dueV at c
          unfold triedV
          cases hp : paF cs with
          | inl n => rw [hp] at c; cases c
          | inr _ => rfl
        · refine ⟨_, rfl, by show 2 ≤ sizeLine; omega, fun T H10 s10 n10 e10 => r _ _ s10 ⟨T, rfl, ?_⟩⟩
          rw [e10]
          have c := of_decide_eq_false c
          unfold dueV at c ⊢
          unfold triedV
          cases hp : paF cs with
          | inl n => rfl
          | inr _ => rw [hp] at c; exact absurd rfl c
        · obtain ⟨T, rfl, eT⟩ := hv
          refine ⟨_, rfl, cs, rfl, tx, fun T2 H11 s11 e11 => ⟨_, rfl, _, _, .tup (SqT.of e11) (dTr_all cs), .tup (SqT.of (s11 _ _ eT)) (dTr_all cs), shaped_dTr tx, shaped_dTr tx, false, ?_, iteF ⟨_, _, _, _, _, _, rfl, (hs8.same (s9.trans (s10.trans s11))).le (by omega)⟩⟩⟩
          rw [eqv_dTr tx]
          rfl
    · rintro σ H2 ⟨v2, v3, v4, v5, v6, v7, rfl, hs2⟩
      -- the written texts
      have l7 : (Str.ofString "place p").length = 7 := by decide +kernel
      have l10 : (Str.ofString "abcdefghij").length = 10 := by decide +kernel
      have l6 : (Str.ofString "abcdef").length = 6 := by decide +kernel
      refine ⟨by show 2 ≤ sizeLine; omega, fun l1 H3 s3 n3 e3 => ⟨51, rfl, by decide, by decide, fun D nD => lc_range (lo := 0) (n := 51) (fun j H' => Same H3 H' ∧ H' D = some (.lst (txs (plLines j)))) ⟨same_upd nD, upd_same⟩ ?_ ?_⟩⟩
      · rintro j Hc hj ⟨sc, eD⟩
        refine ⟨rfl, tYes_if ?_⟩
        refine ⟨_, rfl, _, _, rfl, rfl, by show (0 : Int) < 10; decide, _, _, 97 + j % 10, rfl, rfl, by rw [l10]; omega, pl_at1 ⟨j, hj⟩, _, _, rfl, rfl, by rw [l7]; show 7 + 1 ≤ _; omega, _, rfl, _, _, rfl, rfl, ⟨by decide, by decide⟩, _, _, 97 + j / 10, rfl, rfl, by rw [l6]; omega, pl_at2 ⟨j, hj⟩, _, _, rfl, rfl, ?_, _, eD, by rw [txs_len]; unfold plLines; rw [List.length_map, List.length_range]; omega, fun b o eb => ?_, ?_⟩
        · rw [show Str.ofString "place p" ++ (⟨#[97 + j % 10]⟩ : Str) = S (placeW ++ [32, 112] ++ [97 + j % 10]) by rw [show Str.ofString "place p" = S (placeW ++ [32, 112]) by decide +kernel, ← S_app]; rfl, len_S]
          show 8 + 1 ≤ _
          omega
        · rw [upd_ne (ne_of_none eb nD)]
          exact sc _ _ eb
        · rw [upd_same, pl_str, pl_snoc]
          unfold txs
          rw [List.map_append]
          rfl
      rintro H4 ⟨s4, eD⟩
      have e3' : H4 l1 = some (.lst (txs headA)) := by
        rw [s4 _ _ e3, strA, boxes_str]
        rfl
      refine ⟨l1, D, _, _, txs (headA ++ plLines 51), rfl, rfl, e3', eD, by rw [txs_len, txs_len]; unfold plLines; rw [List.length_map, List.length_range]; show 2 + 51 ≤ _; omega, by unfold txs; rw [List.map_append], fun l2 H5 s5 n5 e5 => ?_⟩
      have ej : ∀ l : List (List Nat), Txt.join (Str.ofString "\n") (l.map S) = S (joinL [10] l) := fun l => by rw [nl_str, join_S]
      refine ⟨⟨_, rfl⟩, _, rfl, Str.ofString "\n", l2, (headA ++ plLines 51).map S, rfl, rfl, .inl (SqL.of (by rw [e5]; unfold txs; rw [List.map_map]; rfl)), ?_, ?_⟩
      · rw [flat_len, nl_str, len_S, List.length_map, len51]
        have := flat51
        show _ + 53 * 1 ≤ 16777216
        omega
      rw [ej]
      refine ⟨txt51, rfl, tx51, fun T1 H6 s6 e6 => ⟨by show 2 ≤ sizeLine; omega, fun T2 H7 s7 n7 e7 => ⟨_, _, .tup (SqT.of (s7 _ _ e6)) (dTr_all txt51), .tup (SqT.of (by rw [e7, tr51])) (dTr_all txt51), shaped_dTr tx51, shaped_dTr tx51, false, by rw [eqv_dTr tx51]; rfl, iteF ?_⟩⟩⟩
      have e57 := (s6.trans s7) _ _ e5
      have cut50 : cutV (txs (headA ++ plLines 51)) none (some (-1)) = txs (headA ++ plLines 50) := by
        rw [pl_snoc, ← List.append_assoc]
        unfold txs
        rw [List.map_append (l₁ := headA ++ plLines 50)]
        exact cutV_init _ _
      refine ⟨⟨_, rfl⟩, _, rfl, 1, rfl, -1, rfl, l2, _, rfl, SqL.of e57, fun k1 H8 s8 n8 e8 => ⟨Str.ofString "\n", k1, (headA ++ plLines 50).map S, rfl, rfl, .inl (SqL.of (by rw [e8, cut50]; unfold txs; rw [List.map_map]; rfl)), ?_, ?_⟩⟩
      · rw [flat_len, nl_str, len_S, List.length_map, len50]
        have := flat50
        show _ + 52 * 1 ≤ 16777216
        omega
      rw [ej]
      refine ⟨_, rfl, txt50, rfl, tx50, fun T3 H9 s9 e9 => ⟨_, rfl, by show 2 ≤ sizeLine; omega, fun T4 H10 s10 n10 e10 => ⟨_, _, .tup (SqT.of (s10 _ _ e9)) (dTr_all txt50), .tup (SqT.of (by rw [e10, tr50]; rfl)) (dTr_all txt50), shaped_dTr tx50, shaped_dTr tx50, false, by rw [eqv_dTr tx50]; rfl, iteF ?_⟩⟩⟩
      refine ⟨_, rfl, by show 4 ≤ sizeLine; omega, fun ls H11 s11 n11 e11 => ?_⟩
      have e11' : H11 ls = some (.lst (txs shortT)) := by
        rw [e11, strA, strB, strOn, S_nilstr]
        rfl
      refine ⟨by show 2 ≤ sizeLine; omega, fun U1 H12 s12 n12 e12 => ⟨by show 2 ≤ sizeLine; omega, fun U2 H13 s13 n13 e13 => ⟨by show 2 ≤ sizeLine; omega, fun U3 H14 s14 n14 e14 => ⟨_, rfl, by show 2 ≤ sizeLine; omega, fun U4 H15 s15 n15 e15 => ⟨by show 4 ≤ sizeLine; omega, fun dl H16 s16 n16 e16 => ?_⟩⟩⟩⟩⟩
      have f1 : H16 U1 = some (.tup (triedV [])) := by rw [tr0]; exact (s13.trans (s14.trans (s15.trans s16))) _ _ e12
      have f2 : H16 U2 = some (.tup (triedV txtA)) := by rw [trA]; exact (s14.trans (s15.trans s16)) _ _ e13
      have f3 : H16 U3 = some (.tup (triedV txtB)) := by rw [trB]; exact (s15.trans s16) _ _ e14
      have f4 : H16 U4 = some (.tup (triedV txtOn)) := by rw [trOn, ← strOn]; exact s16 _ _ e15
      have prt : Paired (fun T cs => H16 T = some (.tup (triedV cs))) [U1, U2, U3, U4] shortT := .cons f1 (.cons f2 (.cons f3 (.cons f4 .nil)))
      have els := (s12.trans (s13.trans (s14.trans (s15.trans s16)))) _ _ e11'
      refine ⟨_, rfl, ls, rfl, ⟨_, SqL.of els⟩, fun D2 nD2 => lc_it (g := gName 6) (tt := tYes) (te := tCall spTried4 [] E0 (tCons (tVar 6) tNil)) (vs := [6]) (walk_list (K := K) (a := ls) (xs := txs shortT)) (fun j H' => Same H16 H' ∧ ∃ ts : List Addr, H' D2 = some (.lst (ts.map V.ref)) ∧ Paired (fun T cs => H' T = some (.tup (triedV cs))) ts (shortT.take j)) ⟨same_upd nD2, [], upd_same, .nil⟩ (fun j H' _ h => SqL.of (h.1 _ _ els)) ?_ ?_⟩
      · rintro j x Hc Hc' hj ⟨sc, ts, eD2, hp⟩ ⟨rfl, hx⟩
        have hj : j < shortT.length := by rw [txs_len] at hj; exact hj
        have hxt : shortT[j]? = some shortT[j] := List.getElem?_eq_getElem hj
        have ex : x = .str (S shortT[j]) := by
          unfold txs at hx
          rw [List.getElem?_map, hxt] at hx
          exact (Option.some.inj hx).symm
        subst ex
        refine ⟨rfl, tYes_if ⟨_, rfl, shortT[j], rfl, short_tx _ (List.getElem_mem hj), fun T H17 s17 e17 => ⟨_, s17 _ _ eD2, ?_, fun b o eb => ?_, ts ++ [T], ?_, ?_⟩⟩⟩
        · rw [List.length_map, Paired.length hp, List.length_take]
          show min j 4 < _
          omega
        · rw [upd_ne (ne_of_none eb nD2)]
          exact s17 _ _ (sc _ _ eb)
        · rw [upd_same, List.map_append]
          rfl
        · have keep : ∀ {T' cs}, H17 T' = some (.tup (triedV cs)) → (upd H17 D2 (.lst (ts.map V.ref ++ [.ref T]))) T' = some (.tup (triedV cs)) := fun {T' cs} h => by
            rw [upd_ne (fun z => by rw [z, s17 _ _ eD2] at h; cases h)]
            exact h
          rw [take_succ hxt]
          exact Paired.snoc (Paired.mono (fun _ _ z => keep (s17 _ _ z)) hp) (keep e17)
      · rintro Hc ⟨sc, ts, eD2, hp⟩
        have e4 : shortT.take (txs shortT).length = shortT := rfl
        rw [e4] at hp
        refine ⟨_, rfl, _, _, .lst (SqL.of eD2) (dTs_all hp), .lst (SqL.of (sc _ _ e16)) (dTs_all (ts := [U1, U2, U3, U4]) (Paired.mono (fun _ _ z => sc _ _ z) prt)), shaped_dTs short_tx, shaped_dTs short_tx, ?_⟩
        rw [eqv_dTs short_tx]
        exact q _
end
end Tb

set_option Elab.async false
set_option linter.all false
set_option maxRecDepth 100000
set_option maxHeartbeats 4000000
namespace Tb
open PySem PySem.Spec PyProof.Rows L2 TL
def lw : PySem.W.OpenLaw := PySem.Challenge.rw_textboxes_k04_bad_program_texts
theorem all_mk {w : World} {K : PySem.W.Frag} {h : Heap} {mg : Str → Option Value} {fa C : Addr} {g0 g1 g2 g3 g4 g5 g6 g7 g8 g9 g10 g11 g12 g13 g14 g15 g16 g17 g18 g19 g20 g21 g22 g23 g24 g25 g26 g27 g28 g29 g30 g31 g32 g33 g34 g35 g36 g37 g38 g39 g40 g41 g42 g43 gCinit gCmove gCend gCtext gPletters gPboxes gPplaces gKparse gXBT pPletters pPboxes pPplaces pKparse BT NBT : Addr} (X : K.In h) (G : h.Ns mainGlobals mg) (hfa : mg "law" = some (.ref fa))
    {od0 an0 od1 an1 od2 an2 od3 an3 od4 an4 od5 an5 od6 an6 od7 an7 od8 an8 od9 an9 od10 an10 od11 an11 od12 an12 od13 an13 od14 an14 od15 an15 od16 an16 od17 an17 od18 an18 od19 an19 od20 an20 od21 an21 od22 an22 od23 an23 od24 an24 od25 an25 od26 an26 od27 an27 od28 an28 od29 an29 od30 an30 od31 an31 od32 an32 od33 an33 od34 an34 od35 an35 od36 an36 od37 an37 od38 an38 od39 an39 od40 an40 od41 an41 od42 an42 od43 an43 odCinit anCinit odCmove anCmove odCend anCend odCtext anCtext odPletters anPletters odPboxes anPboxes odPplaces anPplaces odKparse anKparse odXBT anXBT : Option Addr} {sl0 sl1 sl2 sl3 sl4 sl5 sl6 sl7 sl8 sl9 sl10 sl11 sl12 sl13 sl14 sl15 sl16 sl17 sl18 sl19 sl20 sl21 sl22 sl23 sl24 sl25 sl26 sl27 sl28 sl29 sl30 sl31 sl32 sl33 sl34 sl35 sl36 sl37 sl38 sl39 sl40 sl41 sl42 sl43 slCinit slCmove slCend slCtext slPletters slPboxes slPplaces slKparse slXBT : Array (Option Value)} {oc0 kV0 dc0 pm0 cd0 ct0 oc1 kV1 dc1 pm1 cd1 ct1 oc2 kV2 dc2 pm2 cd2 ct2 oc3 kV3 dc3 pm3 cd3 ct3 oc4 kV4 dc4 pm4 cd4 ct4 oc5 kV5 dc5 pm5 cd5 ct5 oc6 kV6 dc6 pm6 cd6 ct6 oc7 kV7 dc7 pm7 cd7 ct7 oc8 kV8 dc8 pm8 cd8 ct8 oc9 kV9 dc9 pm9 cd9 ct9 oc10 kV10 dc10 pm10 cd10 ct10 oc11 kV11 dc11 pm11 cd11 ct11 oc12 kV12 dc12 pm12 cd12 ct12 oc13 kV13 dc13 pm13 cd13 ct13 oc14 kV14 dc14 pm14 cd14 ct14 oc15 kV15 dc15 pm15 cd15 ct15 oc16 kV16 dc16 pm16 cd16 ct16 oc17 kV17 dc17 pm17 cd17 ct17 oc18 kV18 dc18 pm18 cd18 ct18 oc19 kV19 dc19 pm19 cd19 ct19 oc20 kV20 dc20 pm20 cd20 ct20 oc21 kV21 dc21 pm21 cd21 ct21 oc22 kV22 dc22 pm22 cd22 ct22 oc23 kV23 dc23 pm23 cd23 ct23 oc24 kV24 dc24 pm24 cd24 ct24 oc25 kV25 dc25 pm25 cd25 ct25 oc26 kV26 dc26 pm26 cd26 ct26 oc27 kV27 dc27 pm27 cd27 ct27 oc28 kV28 dc28 pm28 cd28 ct28 oc29 kV29 dc29 pm29 cd29 ct29 oc30 kV30 dc30 pm30 cd30 ct30 oc31 kV31 dc31 pm31 cd31 ct31 oc32 kV32 dc32 pm32 cd32 ct32 oc33 kV33 dc33 pm33 cd33 ct33 oc34 kV34 dc34 pm34 cd34 ct34 oc35 kV35 dc35 pm35 cd35 ct35 oc36 kV36 dc36 pm36 cd36 ct36 oc37 kV37 dc37 pm37 cd37 ct37 oc38 kV38 dc38 pm38 cd38 ct38 oc39 kV39 dc39 pm39 cd39 ct39 oc40 kV40 dc40 pm40 cd40 ct40 oc41 kV41 dc41 pm41 cd41 ct41 oc42 kV42 dc42 pm42 cd42 ct42 oc43 kV43 dc43 pm43 cd43 ct43 ocCinit kVCinit dcCinit pmCinit cdCinit ctCinit ocCmove kVCmove dcCmove pmCmove cdCmove ctCmove ocCend kVCend dcCend pmCend cdCend ctCend ocCtext kVCtext dcCtext pmCtext cdCtext ctCtext ocPletters kVPletters dcPletters pmPletters cdPletters ctPletters ocPboxes kVPboxes dcPboxes pmPboxes cdPboxes ctPboxes ocPplaces kVPplaces dcPplaces pmPplaces cdPplaces ctPplaces ocKparse kVKparse dcKparse pmKparse cdKparse ctKparse ocXBT kVXBT dcXBT pmXBT cdXBT ctXBT : Value} {rrPletters rrPboxes rrPplaces rrKparse : List Value} {tk_BOXES tk_LONGEST_NAME tk_MOST_BOXES tk_MOST_LETTERS tk_MOST_PLACES : Tok}
    {nnBT qqBT : Str} {bsBT bmBT : List Value} {snBT : List Str} {subBT : List Value} {abBT : Bool} {colBT : Option Bool} {ddBT : Option Addr} {m0BT m1BT m2BT m3BT m5BT : Option Value}
    (a0 : PySem.W.nsIn K mainGlobals "is_text" = some (some (.ref g0))) (k0 : PySem.W.keepIn K (.ref g0) = true)
    (l0 : K.lookup g0 = some ⟨oc0, od0, .func (PySem.W.fnOf "is_text" "is_text" (defArgs sIsText) (defBody sIsText) (defScope sIsText) .none kV0 dc0 pm0 an0 cd0 ct0), sl0⟩) (e0 : PySem.W.codeIn K cd0 "is_text" = true)
    (a1 : PySem.W.nsIn K mainGlobals "is_name" = some (some (.ref g1))) (k1 : PySem.W.keepIn K (.ref g1) = true)
    (l1 : K.lookup g1 = some ⟨oc1, od1, .func (PySem.W.fnOf "is_name" "is_name" (defArgs sIsName) (defBody sIsName) (defScope sIsName) .none kV1 dc1 pm1 an1 cd1 ct1), sl1⟩) (e1 : PySem.W.codeIn K cd1 "is_name" = true)
    (a2 : PySem.W.nsIn K mainGlobals "is_filling" = some (some (.ref g2))) (k2 : PySem.W.keepIn K (.ref g2) = true)
    (l2 : K.lookup g2 = some ⟨oc2, od2, .func (PySem.W.fnOf "is_filling" "is_filling" (defArgs sIsFilling) (defBody sIsFilling) (defScope sIsFilling) .none kV2 dc2 pm2 an2 cd2 ct2), sl2⟩) (e2 : PySem.W.codeIn K cd2 "is_filling" = true)
    (a3 : PySem.W.nsIn K mainGlobals "are_different" = some (some (.ref g3))) (k3 : PySem.W.keepIn K (.ref g3) = true)
    (l3 : K.lookup g3 = some ⟨oc3, od3, .func (PySem.W.fnOf "are_different" "are_different" (defArgs sAreDiff) (defBody sAreDiff) (defScope sAreDiff) .none kV3 dc3 pm3 an3 cd3 ct3), sl3⟩) (e3 : PySem.W.codeIn K cd3 "are_different" = true)
    (a4 : PySem.W.nsIn K mainGlobals "in_order" = some (some (.ref g4))) (k4 : PySem.W.keepIn K (.ref g4) = true)
    (l4 : K.lookup g4 = some ⟨oc4, od4, .func (PySem.W.fnOf "in_order" "in_order" (defArgs sInOrder) (defBody sInOrder) (defScope sInOrder) .none kV4 dc4 pm4 an4 cd4 ct4), sl4⟩) (e4 : PySem.W.codeIn K cd4 "in_order" = true)
    (a5 : PySem.W.nsIn K mainGlobals "are_letters" = some (some (.ref g5))) (k5 : PySem.W.keepIn K (.ref g5) = true)
    (l5 : K.lookup g5 = some ⟨oc5, od5, .func (PySem.W.fnOf "are_letters" "are_letters" (defArgs sAreLetters) (defBody sAreLetters) (defScope sAreLetters) .none kV5 dc5 pm5 an5 cd5 ct5), sl5⟩) (e5 : PySem.W.codeIn K cd5 "are_letters" = true)
    (a6 : PySem.W.nsIn K mainGlobals "are_names" = some (some (.ref g6))) (k6 : PySem.W.keepIn K (.ref g6) = true)
    (l6 : K.lookup g6 = some ⟨oc6, od6, .func (PySem.W.fnOf "are_names" "are_names" (defArgs sAreNames) (defBody sAreNames) (defScope sAreNames) .none kV6 dc6 pm6 an6 cd6 ct6), sl6⟩) (e6 : PySem.W.codeIn K cd6 "are_names" = true)
    (a7 : PySem.W.nsIn K mainGlobals "is_pair" = some (some (.ref g7))) (k7 : PySem.W.keepIn K (.ref g7) = true)
    (l7 : K.lookup g7 = some ⟨oc7, od7, .func (PySem.W.fnOf "is_pair" "is_pair" (defArgs sIsPair) (defBody sIsPair) (defScope sIsPair) .none kV7 dc7 pm7 an7 cd7 ct7), sl7⟩) (e7 : PySem.W.codeIn K cd7 "is_pair" = true)
    (a8 : PySem.W.nsIn K mainGlobals "is_one_of" = some (some (.ref g8))) (k8 : PySem.W.keepIn K (.ref g8) = true)
    (l8 : K.lookup g8 = some ⟨oc8, od8, .func (PySem.W.fnOf "is_one_of" "is_one_of" (defArgs sIsOneOf) (defBody sIsOneOf) (defScope sIsOneOf) .none kV8 dc8 pm8 an8 cd8 ct8), sl8⟩) (e8 : PySem.W.codeIn K cd8 "is_one_of" = true)
    (a9 : PySem.W.nsIn K mainGlobals "_are_boxes" = some (some (.ref g9))) (k9 : PySem.W.keepIn K (.ref g9) = true)
    (l9 : K.lookup g9 = some ⟨oc9, od9, .func (PySem.W.fnOf "_are_boxes" "_are_boxes" (defArgs sAreBoxes) (defBody sAreBoxes) (defScope sAreBoxes) .none kV9 dc9 pm9 an9 cd9 ct9), sl9⟩) (e9 : PySem.W.codeIn K cd9 "_are_boxes" = true)
    (a10 : PySem.W.nsIn K mainGlobals "_are_places" = some (some (.ref g10))) (k10 : PySem.W.keepIn K (.ref g10) = true)
    (l10 : K.lookup g10 = some ⟨oc10, od10, .func (PySem.W.fnOf "_are_places" "_are_places" (defArgs sArePlaces) (defBody sArePlaces) (defScope sArePlaces) .none kV10 dc10 pm10 an10 cd10 ct10), sl10⟩) (e10 : PySem.W.codeIn K cd10 "_are_places" = true)
    (a11 : PySem.W.nsIn K mainGlobals "_are_fillings" = some (some (.ref g11))) (k11 : PySem.W.keepIn K (.ref g11) = true)
    (l11 : K.lookup g11 = some ⟨oc11, od11, .func (PySem.W.fnOf "_are_fillings" "_are_fillings" (defArgs sAreFillings) (defBody sAreFillings) (defScope sAreFillings) .none kV11 dc11 pm11 an11 cd11 ct11), sl11⟩) (e11 : PySem.W.codeIn K cd11 "_are_fillings" = true)
    (a12 : PySem.W.nsIn K mainGlobals "_are_moves" = some (some (.ref g12))) (k12 : PySem.W.keepIn K (.ref g12) = true)
    (l12 : K.lookup g12 = some ⟨oc12, od12, .func (PySem.W.fnOf "_are_moves" "_are_moves" (defArgs sAreMoves) (defBody sAreMoves) (defScope sAreMoves) .none kV12 dc12 pm12 an12 cd12 ct12), sl12⟩) (e12 : PySem.W.codeIn K cd12 "_are_moves" = true)
    (a13 : PySem.W.nsIn K mainGlobals "_are_ends" = some (some (.ref g13))) (k13 : PySem.W.keepIn K (.ref g13) = true)
    (l13 : K.lookup g13 = some ⟨oc13, od13, .func (PySem.W.fnOf "_are_ends" "_are_ends" (defArgs sAreEnds) (defBody sAreEnds) (defScope sAreEnds) .none kV13 dc13 pm13 an13 cd13 ct13), sl13⟩) (e13 : PySem.W.codeIn K cd13 "_are_ends" = true)
    (a14 : PySem.W.nsIn K mainGlobals "_kept_moves" = some (some (.ref g14))) (k14 : PySem.W.keepIn K (.ref g14) = true)
    (l14 : K.lookup g14 = some ⟨oc14, od14, .func (PySem.W.fnOf "_kept_moves" "_kept_moves" (defArgs sKept) (defBody sKept) (defScope sKept) .none kV14 dc14 pm14 an14 cd14 ct14), sl14⟩) (e14 : PySem.W.codeIn K cd14 "_kept_moves" = true)
    (a15 : PySem.W.nsIn K mainGlobals "_law_source" = some (some (.ref g15))) (k15 : PySem.W.keepIn K (.ref g15) = true)
    (l15 : K.lookup g15 = some ⟨oc15, od15, .func (PySem.W.fnOf "_law_source" "_law_source" (defArgs sSource) (defBody sSource) (defScope sSource) .none kV15 dc15 pm15 an15 cd15 ct15), sl15⟩) (e15 : PySem.W.codeIn K cd15 "_law_source" = true)
    (a16 : PySem.W.nsIn K mainGlobals "_law_draw" = some (some (.ref g16))) (k16 : PySem.W.keepIn K (.ref g16) = true)
    (l16 : K.lookup g16 = some ⟨oc16, od16, .func (PySem.W.fnOf "_law_draw" "_law_draw" (defArgs sDraw) (defBody sDraw) (defScope sDraw) .none kV16 dc16 pm16 an16 cd16 ct16), sl16⟩) (e16 : PySem.W.codeIn K cd16 "_law_draw" = true)
    (a17 : PySem.W.nsIn K mainGlobals "_law_pick" = some (some (.ref g17))) (k17 : PySem.W.keepIn K (.ref g17) = true)
    (l17 : K.lookup g17 = some ⟨oc17, od17, .func (PySem.W.fnOf "_law_pick" "_law_pick" (defArgs sPick) (defBody sPick) (defScope sPick) .none kV17 dc17 pm17 an17 cd17 ct17), sl17⟩) (e17 : PySem.W.codeIn K cd17 "_law_pick" = true)
    (a18 : PySem.W.nsIn K mainGlobals "_law_order" = some (some (.ref g18))) (k18 : PySem.W.keepIn K (.ref g18) = true)
    (l18 : K.lookup g18 = some ⟨oc18, od18, .func (PySem.W.fnOf "_law_order" "_law_order" (defArgs sOrder) (defBody sOrder) (defScope sOrder) .none kV18 dc18 pm18 an18 cd18 ct18), sl18⟩) (e18 : PySem.W.codeIn K cd18 "_law_order" = true)
    (a19 : PySem.W.nsIn K mainGlobals "_law_name" = some (some (.ref g19))) (k19 : PySem.W.keepIn K (.ref g19) = true)
    (l19 : K.lookup g19 = some ⟨oc19, od19, .func (PySem.W.fnOf "_law_name" "_law_name" (defArgs sName) (defBody sName) (defScope sName) .none kV19 dc19 pm19 an19 cd19 ct19), sl19⟩) (e19 : PySem.W.codeIn K cd19 "_law_name" = true)
    (a20 : PySem.W.nsIn K mainGlobals "_law_names" = some (some (.ref g20))) (k20 : PySem.W.keepIn K (.ref g20) = true)
    (l20 : K.lookup g20 = some ⟨oc20, od20, .func (PySem.W.fnOf "_law_names" "_law_names" (defArgs sNames) (defBody sNames) (defScope sNames) .none kV20 dc20 pm20 an20 cd20 ct20), sl20⟩) (e20 : PySem.W.codeIn K cd20 "_law_names" = true)
    (a21 : PySem.W.nsIn K mainGlobals "_law_signs" = some (some (.ref g21))) (k21 : PySem.W.keepIn K (.ref g21) = true)
    (l21 : K.lookup g21 = some ⟨oc21, od21, .func (PySem.W.fnOf "_law_signs" "_law_signs" (defArgs sSigns) (defBody sSigns) (defScope sSigns) .none kV21 dc21 pm21 an21 cd21 ct21), sl21⟩) (e21 : PySem.W.codeIn K cd21 "_law_signs" = true)
    (a22 : PySem.W.nsIn K mainGlobals "_law_piece" = some (some (.ref g22))) (k22 : PySem.W.keepIn K (.ref g22) = true)
    (l22 : K.lookup g22 = some ⟨oc22, od22, .func (PySem.W.fnOf "_law_piece" "_law_piece" (defArgs sPiece) (defBody sPiece) (defScope sPiece) .none kV22 dc22 pm22 an22 cd22 ct22), sl22⟩) (e22 : PySem.W.codeIn K cd22 "_law_piece" = true)
    (a23 : PySem.W.nsIn K mainGlobals "_law_fill" = some (some (.ref g23))) (k23 : PySem.W.keepIn K (.ref g23) = true)
    (l23 : K.lookup g23 = some ⟨oc23, od23, .func (PySem.W.fnOf "_law_fill" "_law_fill" (defArgs sFill) (defBody sFill) (defScope sFill) .none kV23 dc23 pm23 an23 cd23 ct23), sl23⟩) (e23 : PySem.W.codeIn K cd23 "_law_fill" = true)
    (a24 : PySem.W.nsIn K mainGlobals "_law_program" = some (some (.ref g24))) (k24 : PySem.W.keepIn K (.ref g24) = true)
    (l24 : K.lookup g24 = some ⟨oc24, od24, .func (PySem.W.fnOf "_law_program" "_law_program" (defArgs sProgram) (defBody sProgram) (defScope sProgram) .none kV24 dc24 pm24 an24 cd24 ct24), sl24⟩) (e24 : PySem.W.codeIn K cd24 "_law_program" = true)
    (a25 : PySem.W.nsIn K mainGlobals "_line" = some (some (.ref g25))) (k25 : PySem.W.keepIn K (.ref g25) = true)
    (l25 : K.lookup g25 = some ⟨oc25, od25, .func (PySem.W.fnOf "_line" "_line" (defArgs sLine) (defBody sLine) (defScope sLine) .none kV25 dc25 pm25 an25 cd25 ct25), sl25⟩) (e25 : PySem.W.codeIn K cd25 "_line" = true)
    (a26 : PySem.W.nsIn K mainGlobals "_place_line" = some (some (.ref g26))) (k26 : PySem.W.keepIn K (.ref g26) = true)
    (l26 : K.lookup g26 = some ⟨oc26, od26, .func (PySem.W.fnOf "_place_line" "_place_line" (defArgs sPlaceLine) (defBody sPlaceLine) (defScope sPlaceLine) .none kV26 dc26 pm26 an26 cd26 ct26), sl26⟩) (e26 : PySem.W.codeIn K cd26 "_place_line" = true)
    (a27 : PySem.W.nsIn K mainGlobals "_move_line" = some (some (.ref g27))) (k27 : PySem.W.keepIn K (.ref g27) = true)
    (l27 : K.lookup g27 = some ⟨oc27, od27, .func (PySem.W.fnOf "_move_line" "_move_line" (defArgs sMoveLine) (defBody sMoveLine) (defScope sMoveLine) .none kV27 dc27 pm27 an27 cd27 ct27), sl27⟩) (e27 : PySem.W.codeIn K cd27 "_move_line" = true)
    (a28 : PySem.W.nsIn K mainGlobals "_read_letters" = some (some (.ref g28))) (k28 : PySem.W.keepIn K (.ref g28) = true)
    (l28 : K.lookup g28 = some ⟨oc28, od28, .func (PySem.W.fnOf "_read_letters" "_read_letters" (defArgs sRLetters) (defBody sRLetters) (defScope sRLetters) .none kV28 dc28 pm28 an28 cd28 ct28), sl28⟩) (e28 : PySem.W.codeIn K cd28 "_read_letters" = true)
    (a29 : PySem.W.nsIn K mainGlobals "_read_boxes" = some (some (.ref g29))) (k29 : PySem.W.keepIn K (.ref g29) = true)
    (l29 : K.lookup g29 = some ⟨oc29, od29, .func (PySem.W.fnOf "_read_boxes" "_read_boxes" (defArgs sRBoxes) (defBody sRBoxes) (defScope sRBoxes) .none kV29 dc29 pm29 an29 cd29 ct29), sl29⟩) (e29 : PySem.W.codeIn K cd29 "_read_boxes" = true)
    (a30 : PySem.W.nsIn K mainGlobals "_read_fillings" = some (some (.ref g30))) (k30 : PySem.W.keepIn K (.ref g30) = true)
    (l30 : K.lookup g30 = some ⟨oc30, od30, .func (PySem.W.fnOf "_read_fillings" "_read_fillings" (defArgs sRFill) (defBody sRFill) (defScope sRFill) .none kV30 dc30 pm30 an30 cd30 ct30), sl30⟩) (e30 : PySem.W.codeIn K cd30 "_read_fillings" = true)
    (a31 : PySem.W.nsIn K mainGlobals "_place_stands" = some (some (.ref g31))) (k31 : PySem.W.keepIn K (.ref g31) = true)
    (l31 : K.lookup g31 = some ⟨oc31, od31, .func (PySem.W.fnOf "_place_stands" "_place_stands" (defArgs sPlSt) (defBody sPlSt) (defScope sPlSt) .none kV31 dc31 pm31 an31 cd31 ct31), sl31⟩) (e31 : PySem.W.codeIn K cd31 "_place_stands" = true)
    (a32 : PySem.W.nsIn K mainGlobals "_move_stands" = some (some (.ref g32))) (k32 : PySem.W.keepIn K (.ref g32) = true)
    (l32 : K.lookup g32 = some ⟨oc32, od32, .func (PySem.W.fnOf "_move_stands" "_move_stands" (defArgs sMvSt) (defBody sMvSt) (defScope sMvSt) .none kV32 dc32 pm32 an32 cd32 ct32), sl32⟩) (e32 : PySem.W.codeIn K cd32 "_move_stands" = true)
    (a33 : PySem.W.nsIn K mainGlobals "_read_head" = some (some (.ref g33))) (k33 : PySem.W.keepIn K (.ref g33) = true)
    (l33 : K.lookup g33 = some ⟨oc33, od33, .func (PySem.W.fnOf "_read_head" "_read_head" (defArgs sRHead) (defBody sRHead) (defScope sRHead) .none kV33 dc33 pm33 an33 cd33 ct33), sl33⟩) (e33 : PySem.W.codeIn K cd33 "_read_head" = true)
    (a34 : PySem.W.nsIn K mainGlobals "_read_places" = some (some (.ref g34))) (k34 : PySem.W.keepIn K (.ref g34) = true)
    (l34 : K.lookup g34 = some ⟨oc34, od34, .func (PySem.W.fnOf "_read_places" "_read_places" (defArgs sRPlaces) (defBody sRPlaces) (defScope sRPlaces) .none kV34 dc34 pm34 an34 cd34 ct34), sl34⟩) (e34 : PySem.W.codeIn K cd34 "_read_places" = true)
    (a35 : PySem.W.nsIn K mainGlobals "_law_lines" = some (some (.ref g35))) (k35 : PySem.W.keepIn K (.ref g35) = true)
    (l35 : K.lookup g35 = some ⟨oc35, od35, .func (PySem.W.fnOf "_law_lines" "_law_lines" (defArgs sLLines) (defBody sLLines) (defScope sLLines) .none kV35 dc35 pm35 an35 cd35 ct35), sl35⟩) (e35 : PySem.W.codeIn K cd35 "_law_lines" = true)
    (a36 : PySem.W.nsIn K mainGlobals "_law_tried" = some (some (.ref g36))) (k36 : PySem.W.keepIn K (.ref g36) = true)
    (l36 : K.lookup g36 = some ⟨oc36, od36, .func (PySem.W.fnOf "_law_tried" "_law_tried" (defArgs sLTried) (defBody sLTried) (defScope sLTried) .none kV36 dc36 pm36 an36 cd36 ct36), sl36⟩) (e36 : PySem.W.codeIn K cd36 "_law_tried" = true)
    (a37 : PySem.W.nsIn K mainGlobals "_law_head" = some (some (.ref g37))) (k37 : PySem.W.keepIn K (.ref g37) = true)
    (l37 : K.lookup g37 = some ⟨oc37, od37, .func (PySem.W.fnOf "_law_head" "_law_head" (defArgs sLHead) (defBody sLHead) (defScope sLHead) .none kV37 dc37 pm37 an37 cd37 ct37), sl37⟩) (e37 : PySem.W.codeIn K cd37 "_law_head" = true)
    (a38 : PySem.W.nsIn K mainGlobals "_law_is_name" = some (some (.ref g38))) (k38 : PySem.W.keepIn K (.ref g38) = true)
    (l38 : K.lookup g38 = some ⟨oc38, od38, .func (PySem.W.fnOf "_law_is_name" "_law_is_name" (defArgs sLIsName) (defBody sLIsName) (defScope sLIsName) .none kV38 dc38 pm38 an38 cd38 ct38), sl38⟩) (e38 : PySem.W.codeIn K cd38 "_law_is_name" = true)
    (a39 : PySem.W.nsIn K mainGlobals "_law_is_filling" = some (some (.ref g39))) (k39 : PySem.W.keepIn K (.ref g39) = true)
    (l39 : K.lookup g39 = some ⟨oc39, od39, .func (PySem.W.fnOf "_law_is_filling" "_law_is_filling" (defArgs sLIsFill) (defBody sLIsFill) (defScope sLIsFill) .none kV39 dc39 pm39 an39 cd39 ct39), sl39⟩) (e39 : PySem.W.codeIn K cd39 "_law_is_filling" = true)
    (a40 : PySem.W.nsIn K mainGlobals "_law_is_move" = some (some (.ref g40))) (k40 : PySem.W.keepIn K (.ref g40) = true)
    (l40 : K.lookup g40 = some ⟨oc40, od40, .func (PySem.W.fnOf "_law_is_move" "_law_is_move" (defArgs sLIsMove) (defBody sLIsMove) (defScope sLIsMove) .none kV40 dc40 pm40 an40 cd40 ct40), sl40⟩) (e40 : PySem.W.codeIn K cd40 "_law_is_move" = true)
    (a41 : PySem.W.nsIn K mainGlobals "_law_due" = some (some (.ref g41))) (k41 : PySem.W.keepIn K (.ref g41) = true)
    (l41 : K.lookup g41 = some ⟨oc41, od41, .func (PySem.W.fnOf "_law_due" "_law_due" (defArgs sLDue) (defBody sLDue) (defScope sLDue) .none kV41 dc41 pm41 an41 cd41 ct41), sl41⟩) (e41 : PySem.W.codeIn K cd41 "_law_due" = true)
    (a42 : PySem.W.nsIn K mainGlobals "_law_bent" = some (some (.ref g42))) (k42 : PySem.W.keepIn K (.ref g42) = true)
    (l42 : K.lookup g42 = some ⟨oc42, od42, .func (PySem.W.fnOf "_law_bent" "_law_bent" (defArgs sLBent) (defBody sLBent) (defScope sLBent) .none kV42 dc42 pm42 an42 cd42 ct42), sl42⟩) (e42 : PySem.W.codeIn K cd42 "_law_bent" = true)
    (a43 : PySem.W.nsIn K mainGlobals "law" = some (some (.ref g43))) (k43 : PySem.W.keepIn K (.ref g43) = true)
    (l43 : K.lookup g43 = some ⟨oc43, od43, .func (PySem.W.fnOf "law" "law" (defArgs sLaw) (defBody sLaw) (defScope sLaw) .none kV43 dc43 pm43 an43 cd43 ct43), sl43⟩) (e43 : PySem.W.codeIn K cd43 "law" = true)
    (aC : PySem.W.nsIn K mainGlobals "Program" = some (some (.ref C))) (pgC : PySem.W.plainGet K C Str.empty = true) (hdC : PySem.W.hasDictIn K C = true) (poC : PySem.W.plainOver K C = true) (saC : PySem.W.findIn K (.ref C) "__setattr__" = some (some (.builtin "object.__setattr__"))) (mkC : PySem.W.makesIn K C = true) (kcC : PySem.W.keepIn K (.ref C) = true)
    (aCinit : PySem.W.findIn K (.ref C) "__init__" = some (some (.ref gCinit))) (iCinit : PySem.W.isFn K (.ref gCinit) = true) (kCinit : PySem.W.keepIn K (.ref gCinit) = true)
    (lCinit : K.lookup gCinit = some ⟨ocCinit, odCinit, .func (PySem.W.fnOf "__init__" "Program.__init__" (defArgs sInit) (defBody sInit) (defScope sInit) .none kVCinit dcCinit pmCinit anCinit cdCinit ctCinit), slCinit⟩) (eCinit : PySem.W.codeIn K cdCinit "Program.__init__" = true)
    (aCmove : PySem.W.findIn K (.ref C) "move" = some (some (.ref gCmove))) (iCmove : PySem.W.isFn K (.ref gCmove) = true) (kCmove : PySem.W.keepIn K (.ref gCmove) = true)
    (lCmove : K.lookup gCmove = some ⟨ocCmove, odCmove, .func (PySem.W.fnOf "move" "Program.move" (defArgs sMove) (defBody sMove) (defScope sMove) .none kVCmove dcCmove pmCmove anCmove cdCmove ctCmove), slCmove⟩) (eCmove : PySem.W.codeIn K cdCmove "Program.move" = true)
    (aCend : PySem.W.findIn K (.ref C) "end" = some (some (.ref gCend))) (iCend : PySem.W.isFn K (.ref gCend) = true) (kCend : PySem.W.keepIn K (.ref gCend) = true)
    (lCend : K.lookup gCend = some ⟨ocCend, odCend, .func (PySem.W.fnOf "end" "Program.end" (defArgs sEnd) (defBody sEnd) (defScope sEnd) .none kVCend dcCend pmCend anCend cdCend ctCend), slCend⟩) (eCend : PySem.W.codeIn K cdCend "Program.end" = true)
    (aCtext : PySem.W.findIn K (.ref C) "text" = some (some (.ref gCtext))) (iCtext : PySem.W.isFn K (.ref gCtext) = true) (kCtext : PySem.W.keepIn K (.ref gCtext) = true)
    (lCtext : K.lookup gCtext = some ⟨ocCtext, odCtext, .func (PySem.W.fnOf "text" "Program.text" (defArgs sText) (defBody sText) (defScope sText) .none kVCtext dcCtext pmCtext anCtext cdCtext ctCtext), slCtext⟩) (eCtext : PySem.W.codeIn K cdCtext "Program.text" = true)
    (aPletters : PySem.W.findIn K (.ref C) "letters" = some (some (.ref pPletters))) (sPletters : PySem.W.specialIn K (.ref pPletters) "__get__" = some (some (.builtin "property.__get__"))) (tPletters : PySem.W.takesIn K (.ref pPletters) = some true) (rPletters : PySem.W.recIn K pPletters "property" = some (.ref gPletters :: rrPletters)) (kPletters : PySem.W.keepIn K (.ref gPletters) = true)
    (lPletters : K.lookup gPletters = some ⟨ocPletters, odPletters, .func (PySem.W.fnOf "letters" "Program.letters" (defArgs sLettersP) (defBody sLettersP) (defScope sLettersP) .none kVPletters dcPletters pmPletters anPletters cdPletters ctPletters), slPletters⟩) (ePletters : PySem.W.codeIn K cdPletters "Program.letters" = true)
    (aPboxes : PySem.W.findIn K (.ref C) "boxes" = some (some (.ref pPboxes))) (sPboxes : PySem.W.specialIn K (.ref pPboxes) "__get__" = some (some (.builtin "property.__get__"))) (tPboxes : PySem.W.takesIn K (.ref pPboxes) = some true) (rPboxes : PySem.W.recIn K pPboxes "property" = some (.ref gPboxes :: rrPboxes)) (kPboxes : PySem.W.keepIn K (.ref gPboxes) = true)
    (lPboxes : K.lookup gPboxes = some ⟨ocPboxes, odPboxes, .func (PySem.W.fnOf "boxes" "Program.boxes" (defArgs sBoxesP) (defBody sBoxesP) (defScope sBoxesP) .none kVPboxes dcPboxes pmPboxes anPboxes cdPboxes ctPboxes), slPboxes⟩) (ePboxes : PySem.W.codeIn K cdPboxes "Program.boxes" = true)
    (aPplaces : PySem.W.findIn K (.ref C) "places" = some (some (.ref pPplaces))) (sPplaces : PySem.W.specialIn K (.ref pPplaces) "__get__" = some (some (.builtin "property.__get__"))) (tPplaces : PySem.W.takesIn K (.ref pPplaces) = some true) (rPplaces : PySem.W.recIn K pPplaces "property" = some (.ref gPplaces :: rrPplaces)) (kPplaces : PySem.W.keepIn K (.ref gPplaces) = true)
    (lPplaces : K.lookup gPplaces = some ⟨ocPplaces, odPplaces, .func (PySem.W.fnOf "places" "Program.places" (defArgs sPlacesP) (defBody sPlacesP) (defScope sPlacesP) .none kVPplaces dcPplaces pmPplaces anPplaces cdPplaces ctPplaces), slPplaces⟩) (ePplaces : PySem.W.codeIn K cdPplaces "Program.places" = true)
    (rKparse : PySem.W.readsIn K C (.type "type") = true) (bKparse : PySem.W.specialIn K (.ref C) "__getattribute__" = some (some (.builtin "type.__getattribute__"))) (aKparse : PySem.W.findCls K (.ref C) (.type "type") "parse" = some (.get (.builtin "classmethod.__get__") (.ref pKparse) .none (.ref C))) (cKparse : PySem.W.recIn K pKparse "classmethod" = some (.ref gKparse :: rrKparse)) (fKparse : PySem.W.fnIn K gKparse = true) (kKparse : PySem.W.keepIn K (.ref gKparse) = true)
    (lKparse : K.lookup gKparse = some ⟨ocKparse, odKparse, .func (PySem.W.fnOf "parse" "Program.parse" (defArgs sParse) (defBody sParse) (defScope sParse) .none kVKparse dcKparse pmKparse anKparse cdKparse ctKparse), slKparse⟩) (eKparse : PySem.W.codeIn K cdKparse "Program.parse" = true)
    (n_letters : PySem.W.findIn K (.ref C) "_letters" = some none)
    (n_boxes : PySem.W.findIn K (.ref C) "_boxes" = some none)
    (n_places : PySem.W.findIn K (.ref C) "_places" = some none)
    (n_moves : PySem.W.findIn K (.ref C) "_moves" = some none)
    (n_ends : PySem.W.findIn K (.ref C) "_ends" = some none)
    (aBT : PySem.W.nsIn K mainGlobals "BadText" = some (some (.ref BT))) (xBT : K.lookup BT = some (excClassObj nnBT qqBT BT NBT bsBT bmBT true snBT subBT abBT colBT ddBT m0BT m1BT m2BT m3BT m5BT "ValueError.__new__")) (hbBT : PySem.HandSPX.refsVE bmBT = true)
    (saBT : PySem.W.findIn K (.ref BT) "__setattr__" = some (some (.builtin "object.__setattr__"))) (eCBT : PySem.W.subIn K (.ref BT) (.type "BaseException") = some true) (tCBT : PySem.W.typeIn K (.ref BT) = some (.type "type")) (kCBT : PySem.W.keepIn K (.ref BT) = true)
    (aXBT : PySem.W.findIn K (.ref BT) "__init__" = some (some (.ref gXBT))) (tXBT : PySem.W.typeIn K (.ref gXBT) = some (.type "function")) (kXBT : PySem.W.keepIn K (.ref gXBT) = true)
    (lXBT : K.lookup gXBT = some ⟨ocXBT, odXBT, .func (PySem.W.fnOf "__init__" "BadText.__init__" (defArgs sBtInit) (defBody sBtInit) (defScope sBtInit) .none kVXBT dcXBT pmXBT anXBT cdXBT ctXBT), slXBT⟩) (eXBT : PySem.W.codeIn K cdXBT "BadText.__init__" = true)
    (gaBT : PySem.W.findIn K (.ref BT) "__getattribute__" = some (some (.builtin "BaseException.__getattribute__"))) (ggBT : PySem.W.findIn K (.ref BT) "__getattr__" = some none) (hdBT : PySem.W.hasDictIn K BT = true) (nfBT : PySem.W.findIn K (.ref BT) "line" = some none)
    (em1 : PySem.W.exmOne K (.ref BT) (.ref BT) = some true)
    (z_all : PySem.W.nsIn K mainGlobals "all" = some none)
    (z_dict : PySem.W.nsIn K mainGlobals "dict" = some none)
    (z_enumerate : PySem.W.nsIn K mainGlobals "enumerate" = some none)
    (z_int : PySem.W.nsIn K mainGlobals "int" = some none)
    (z_isinstance : PySem.W.nsIn K mainGlobals "isinstance" = some none)
    (z_len : PySem.W.nsIn K mainGlobals "len" = some none)
    (z_list : PySem.W.nsIn K mainGlobals "list" = some none)
    (z_range : PySem.W.nsIn K mainGlobals "range" = some none)
    (z_set : PySem.W.nsIn K mainGlobals "set" = some none)
    (z_sorted : PySem.W.nsIn K mainGlobals "sorted" = some none)
    (z_str : PySem.W.nsIn K mainGlobals "str" = some none)
    (z_tuple : PySem.W.nsIn K mainGlobals "tuple" = some none)
    (v_BOXES : PySem.W.nsIn K mainGlobals "BOXES" = some (some (.str (Str.ofString "ABCDEFGHIJKLMNOPQRSTUVWXYZ") tk_BOXES)))
    (v_LONGEST_NAME : PySem.W.nsIn K mainGlobals "LONGEST_NAME" = some (some (.int 8 tk_LONGEST_NAME)))
    (v_MOST_BOXES : PySem.W.nsIn K mainGlobals "MOST_BOXES" = some (some (.int 6 tk_MOST_BOXES)))
    (v_MOST_LETTERS : PySem.W.nsIn K mainGlobals "MOST_LETTERS" = some (some (.int 5 tk_MOST_LETTERS)))
    (v_MOST_PLACES : PySem.W.nsIn K mainGlobals "MOST_PLACES" = some (some (.int 50 tk_MOST_PLACES)))
    : ∃ fd : FuncData, (∀ (s : Shared) (u : Value), BindsTo s fd ⟨[u], []⟩ [("_law_script", u)]) ∧ ∀ base : Heap, K.In base → base.Ns mainGlobals mg → FnOk lw.prog w K mg base CX0 9 fa fd ["_law_script"] (spLaw K) := by
  have e := hfa.symm.trans (PySem.W.mg_of X G a43)
  cases e
  refine ⟨PySem.W.fnOf "law" "law" (defArgs sLaw) (defBody sLaw) (defScope sLaw) .none kV43 dc43 pm43 an43 cd43 ct43, fun s v => .of_eq rfl, fun base _ _ => ?_⟩
  have T : PrTxt K mg C := ⟨⟨pgC, hdC, poC, saC⟩, n_letters, n_boxes, n_places, n_moves, n_ends, PySem.W.mg_of X G aC⟩
  have m_all := PySem.W.mg_none_of X G z_all
  have m_dict := PySem.W.mg_none_of X G z_dict
  have m_enumerate := PySem.W.mg_none_of X G z_enumerate
  have m_int := PySem.W.mg_none_of X G z_int
  have m_isinstance := PySem.W.mg_none_of X G z_isinstance
  have m_len := PySem.W.mg_none_of X G z_len
  have m_list := PySem.W.mg_none_of X G z_list
  have m_range := PySem.W.mg_none_of X G z_range
  have m_set := PySem.W.mg_none_of X G z_set
  have m_sorted := PySem.W.mg_none_of X G z_sorted
  have m_str := PySem.W.mg_none_of X G z_str
  have m_tuple := PySem.W.mg_none_of X G z_tuple
  have c_BOXES := PySem.W.mg_of X G v_BOXES
  have c_LONGEST_NAME := PySem.W.mg_of X G v_LONGEST_NAME
  have c_MOST_BOXES := PySem.W.mg_of X G v_MOST_BOXES
  have c_MOST_LETTERS := PySem.W.mg_of X G v_MOST_LETTERS
  have c_MOST_PLACES := PySem.W.mg_of X G v_MOST_PLACES
  have BTT : BtTxt lw.prog w K mg base BT := ⟨⟨⟨_, _, _, _, _, _, _, _, _, _, _, _, _, _, _, xBT, hbBT⟩, saBT, eCBT, tCBT, kCBT⟩, PySem.W.mg_of X G aBT, nfBT, ⟨gaBT, ggBT, eCBT, hdBT⟩, ⟨_, _, aXBT, tXBT, ok_btInit (k := 0) (fun_mk (st := sBtInit) lXBT eXBT kXBT), (fun_mk (st := sBtInit) lXBT eXBT kXBT).binds (ps := ["self", "line"]) (fun _ _ _ _ _ _ us hl => match us, hl with | [_, _], _ => rfl)⟩⟩
  have BEX : BtEx K mg BT := ⟨⟨gaBT, ggBT, eCBT, hdBT⟩, nfBT, PySem.W.mg_of X G aBT, em1⟩
  have F0 := fun_mk (st := sIsText) l0 e0 k0
  have D_is_text : Df lw.prog w K mg base 1 "is_text" ["thing"] (spIsText K) := ⟨⟨_, _, ok_isText (k := 0) F0 m_isinstance m_str, F0.binds (ps := ["thing"]) (fun _ _ _ _ _ _ us hl => match us, hl with | [_], _ => rfl), k0, PySem.W.mg_of X G a0⟩⟩
  have F1 := fun_mk (st := sIsName) l1 e1 k1
  have D_is_name : Df lw.prog w K mg base 2 "is_name" ["thing"] (spIsName K) := ⟨⟨_, _, ok_isName (k := 0) F1 D_is_text m_len ⟨_, c_LONGEST_NAME⟩, F1.binds (ps := ["thing"]) (fun _ _ _ _ _ _ us hl => match us, hl with | [_], _ => rfl), k1, PySem.W.mg_of X G a1⟩⟩
  have F2 := fun_mk (st := sIsFilling) l2 e2 k2
  have D_is_filling : Df lw.prog w K mg base 2 "is_filling" ["thing", "boxes"] (spIsFilling K) := ⟨⟨_, _, ok_isFilling (k := 0) F2 D_is_text m_isinstance m_str, F2.binds (ps := ["thing", "boxes"]) (fun _ _ _ _ _ _ us hl => match us, hl with | [_, _], _ => rfl), k2, PySem.W.mg_of X G a2⟩⟩
  have F3 := fun_mk (st := sAreDiff) l3 e3 k3
  have D_are_different : Df lw.prog w K mg base 1 "are_different" ["strings"] (spAreDiff K) := ⟨⟨_, _, ok_areDiff (k := 0) F3 m_len m_set, F3.binds (ps := ["strings"]) (fun _ _ _ _ _ _ us hl => match us, hl with | [_], _ => rfl), k3, PySem.W.mg_of X G a3⟩⟩
  have F4 := fun_mk (st := sInOrder) l4 e4 k4
  have D_in_order : Df lw.prog w K mg base 1 "in_order" ["signs"] (spInOrder) := ⟨⟨_, _, ok_inOrder (k := 0) F4 m_sorted, F4.binds (ps := ["signs"]) (fun _ _ _ _ _ _ us hl => match us, hl with | [_], _ => rfl), k4, PySem.W.mg_of X G a4⟩⟩
  have F5 := fun_mk (st := sAreLetters) l5 e5 k5
  have D_are_letters : Df lw.prog w K mg base 2 "are_letters" ["thing", "most"] (spAreLetters K) := ⟨⟨_, _, ok_areLetters (k := 0) F5 D_is_text D_are_different m_len, F5.binds (ps := ["thing", "most"]) (fun _ _ _ _ _ _ us hl => match us, hl with | [_, _], _ => rfl), k5, PySem.W.mg_of X G a5⟩⟩
  have F6 := fun_mk (st := sAreNames) l6 e6 k6
  have D_are_names : Df lw.prog w K mg base 3 "are_names" ["thing"] (spAreNames) := ⟨⟨_, _, ok_areNames (k := 0) F6 D_is_name D_are_different m_isinstance m_list m_tuple m_all m_len, F6.binds (ps := ["thing"]) (fun _ _ _ _ _ _ us hl => match us, hl with | [_], _ => rfl), k6, PySem.W.mg_of X G a6⟩⟩
  have F7 := fun_mk (st := sIsPair) l7 e7 k7
  have D_is_pair : Df lw.prog w K mg base 1 "is_pair" ["thing"] (spIsPair K) := ⟨⟨_, _, ok_isPair (k := 0) F7 m_isinstance m_list m_tuple m_len, F7.binds (ps := ["thing"]) (fun _ _ _ _ _ _ us hl => match us, hl with | [_], _ => rfl), k7, PySem.W.mg_of X G a7⟩⟩
  have F8 := fun_mk (st := sIsOneOf) l8 e8 k8
  have D_is_one_of : Df lw.prog w K mg base 1 "is_one_of" ["thing", "strings"] (spIsOneOf K) := ⟨⟨_, _, ok_isOneOf (k := 0) F8 m_isinstance m_str, F8.binds (ps := ["thing", "strings"]) (fun _ _ _ _ _ _ us hl => match us, hl with | [_, _], _ => rfl), k8, PySem.W.mg_of X G a8⟩⟩
  have F9 := fun_mk (st := sAreBoxes) l9 e9 k9
  have D__are_boxes : Df lw.prog w K mg base 2 "_are_boxes" ["thing"] (spAreBoxes K) := ⟨⟨_, _, ok_areBoxes (k := 0) F9 D_are_different m_isinstance m_str m_all m_len ⟨_, c_MOST_BOXES⟩ ⟨_, c_BOXES⟩, F9.binds (ps := ["thing"]) (fun _ _ _ _ _ _ us hl => match us, hl with | [_], _ => rfl), k9, PySem.W.mg_of X G a9⟩⟩
  have F10 := fun_mk (st := sArePlaces) l10 e10 k10
  have D__are_places : Df lw.prog w K mg base 4 "_are_places" ["thing"] (spArePlaces) := ⟨⟨_, _, ok_arePlaces (k := 2) F10 D_are_names m_len ⟨_, c_MOST_PLACES⟩, F10.binds (ps := ["thing"]) (fun _ _ _ _ _ _ us hl => match us, hl with | [_], _ => rfl), k10, PySem.W.mg_of X G a10⟩⟩
  have F11 := fun_mk (st := sAreFillings) l11 e11 k11
  have D__are_fillings : Df lw.prog w K mg base 3 "_are_fillings" ["thing", "boxes"] (spAreFillings) := ⟨⟨_, _, ok_areFillings (k := 0) F11 D_is_one_of D_is_filling m_isinstance m_dict m_list m_str m_all, F11.binds (ps := ["thing", "boxes"]) (fun _ _ _ _ _ _ us hl => match us, hl with | [_, _], _ => rfl), k11, PySem.W.mg_of X G a11⟩⟩
  have F12 := fun_mk (st := sAreMoves) l12 e12 k12
  have D__are_moves : Df lw.prog w K mg base 4 "_are_moves" ["thing", "letters", "boxes", "places"] (spAreMoves) := ⟨⟨_, _, ok_areMoves (k := 0) F12 D_is_pair D_is_one_of D__are_fillings m_isinstance m_dict m_list, F12.binds (ps := ["thing", "letters", "boxes", "places"]) (fun _ _ _ _ _ _ us hl => match us, hl with | [_, _, _, _], _ => rfl), k12, PySem.W.mg_of X G a12⟩⟩
  have F13 := fun_mk (st := sAreEnds) l13 e13 k13
  have D__are_ends : Df lw.prog w K mg base 3 "_are_ends" ["thing", "boxes", "places"] (spAreEnds) := ⟨⟨_, _, ok_areEnds (k := 0) F13 D_is_one_of D_is_filling m_isinstance m_dict, F13.binds (ps := ["thing", "boxes", "places"]) (fun _ _ _ _ _ _ us hl => match us, hl with | [_, _, _], _ => rfl), k13, PySem.W.mg_of X G a13⟩⟩
  have F14 := fun_mk (st := sKept) l14 e14 k14
  have D__kept_moves : Df lw.prog w K mg base 1 "_kept_moves" ["moves"] (spKept) := ⟨⟨_, _, ok_kept (k := 0) F14 m_sorted, F14.binds (ps := ["moves"]) (fun _ _ _ _ _ _ us hl => match us, hl with | [_], _ => rfl), k14, PySem.W.mg_of X G a14⟩⟩
  have FPletters := fun_mk (st := sLettersP) lPletters ePletters kPletters
  have R_letters : Prp lw.prog w K mg base C 1 "letters" (getSp C "_letters") := ⟨⟨pPletters, _, _, ⟨aPletters, sPletters, tPletters, ⟨_, rPletters⟩⟩, ok_letters (k := 0) FPletters T, FPletters.binds (ps := ["self"]) (fun _ _ _ _ _ _ us hl => match us, hl with | [_], _ => rfl)⟩⟩
  have FPboxes := fun_mk (st := sBoxesP) lPboxes ePboxes kPboxes
  have R_boxes : Prp lw.prog w K mg base C 1 "boxes" (getSp C "_boxes") := ⟨⟨pPboxes, _, _, ⟨aPboxes, sPboxes, tPboxes, ⟨_, rPboxes⟩⟩, ok_boxes (k := 0) FPboxes T, FPboxes.binds (ps := ["self"]) (fun _ _ _ _ _ _ us hl => match us, hl with | [_], _ => rfl)⟩⟩
  have FPplaces := fun_mk (st := sPlacesP) lPplaces ePplaces kPplaces
  have R_places : Prp lw.prog w K mg base C 1 "places" (getSp C "_places") := ⟨⟨pPplaces, _, _, ⟨aPplaces, sPplaces, tPplaces, ⟨_, rPplaces⟩⟩, ok_places (k := 0) FPplaces T, FPplaces.binds (ps := ["self"]) (fun _ _ _ _ _ _ us hl => match us, hl with | [_], _ => rfl)⟩⟩
  have FCinit := fun_mk (st := sInit) lCinit eCinit kCinit
  have FCmove := fun_mk (st := sMove) lCmove eCmove kCmove
  have FCend := fun_mk (st := sEnd) lCend eCend kCend
  have FCtext := fun_mk (st := sText) lCtext eCtext kCtext
  have M_move : Mth lw.prog w K mg base C 1 "move" ["place", "letter"] (spMove C) := ⟨⟨_, _, ⟨aCmove, iCmove, kCmove⟩, ok_move (k := 0) FCmove T m_dict, FCmove.binds (ps := ["self", "place", "letter"]) (fun _ _ _ _ _ _ us hl => match us, hl with | [_, _, _], _ => rfl)⟩⟩
  have M_end : Mth lw.prog w K mg base C 1 "end" ["place"] (spEnd C) := ⟨⟨_, _, ⟨aCend, iCend, kCend⟩, ok_end (k := 0) FCend T, FCend.binds (ps := ["self", "place"]) (fun _ _ _ _ _ _ us hl => match us, hl with | [_, _], _ => rfl)⟩⟩
  have MK : Mkr lw.prog w K mg base C 5 := ⟨⟨_, _, ⟨mkC, aCinit, iCinit, kcC⟩, ok_init (k := 0) FCinit T D_are_letters ⟨_, c_MOST_LETTERS⟩ D__are_boxes D__are_places D__are_moves D__are_ends D_in_order D__kept_moves m_tuple, FCinit.binds (ps := psInit) (fun _ _ _ _ _ _ us hl => match us, hl with | [_, _, _, _, _, _], _ => rfl)⟩⟩
  have F15 := fun_mk (st := sSource) l15 e15 k15
  have D__law_source : Df lw.prog w K mg base 1 "_law_source" ["_law_script"] (spSource K) := ⟨⟨_, _, ok_source (k := 0) F15 m_int, F15.binds (ps := ["_law_script"]) (fun _ _ _ _ _ _ us hl => match us, hl with | [_], _ => rfl), k15, PySem.W.mg_of X G a15⟩⟩
  have F16 := fun_mk (st := sDraw) l16 e16 k16
  have D__law_draw : Df lw.prog w K mg base 1 "_law_draw" ["_law_source_here", "_law_many"] (spDrawS) := ⟨⟨_, _, (ok_draw (k := 0) F16 m_int).imp draw_soft, F16.binds (ps := ["_law_source_here", "_law_many"]) (fun _ _ _ _ _ _ us hl => match us, hl with | [_, _], _ => rfl), k16, PySem.W.mg_of X G a16⟩⟩
  have F17 := fun_mk (st := sPick) l17 e17 k17
  have D__law_pick : Df lw.prog w K mg base 2 "_law_pick" ["_law_source_here", "_law_things"] (spPick K) := ⟨⟨_, _, ok_pick (k := 0) F17 D__law_draw m_len, F17.binds (ps := ["_law_source_here", "_law_things"]) (fun _ _ _ _ _ _ us hl => match us, hl with | [_, _], _ => rfl), k17, PySem.W.mg_of X G a17⟩⟩
  have F18 := fun_mk (st := sOrder) l18 e18 k18
  have D__law_order : Df lw.prog w K mg base 2 "_law_order" ["_law_source_here", "_law_many"] (spOrder) := ⟨⟨_, _, ok_order (k := 0) F18 D__law_draw m_len m_list m_range, F18.binds (ps := ["_law_source_here", "_law_many"]) (fun _ _ _ _ _ _ us hl => match us, hl with | [_, _], _ => rfl), k18, PySem.W.mg_of X G a18⟩⟩
  have F19 := fun_mk (st := sName) l19 e19 k19
  have D__law_name : Df lw.prog w K mg base 2 "_law_name" ["_law_source_here", "_law_taken"] (spName K) := ⟨⟨_, _, ok_name (k := 0) F19 D__law_draw m_range, F19.binds (ps := ["_law_source_here", "_law_taken"]) (fun _ _ _ _ _ _ us hl => match us, hl with | [_, _], _ => rfl), k19, PySem.W.mg_of X G a19⟩⟩
  have F20 := fun_mk (st := sNames) l20 e20 k20
  have D__law_names : Df lw.prog w K mg base 3 "_law_names" ["_law_source_here", "_law_many"] (spNames) := ⟨⟨_, _, ok_names (k := 1) F20 D__law_name m_range, F20.binds (ps := ["_law_source_here", "_law_many"]) (fun _ _ _ _ _ _ us hl => match us, hl with | [_, _], _ => rfl), k20, PySem.W.mg_of X G a20⟩⟩
  have F21 := fun_mk (st := sSigns) l21 e21 k21
  have D__law_signs : Df lw.prog w K mg base 3 "_law_signs" ["_law_source_here", "_law_signs_here", "_law_many"] (spSigns) := ⟨⟨_, _, ok_signs (k := 1) F21 D__law_order m_len, F21.binds (ps := ["_law_source_here", "_law_signs_here", "_law_many"]) (fun _ _ _ _ _ _ us hl => match us, hl with | [_, _, _], _ => rfl), k21, PySem.W.mg_of X G a21⟩⟩
  have F22 := fun_mk (st := sPiece) l22 e22 k22
  have D__law_piece : Df lw.prog w K mg base 3 "_law_piece" ["_law_source_here", "_law_out"] (spPiece) := ⟨⟨_, _, ok_piece (k := 0) F22 D__law_draw D__law_pick m_range, F22.binds (ps := ["_law_source_here", "_law_out"]) (fun _ _ _ _ _ _ us hl => match us, hl with | [_, _], _ => rfl), k22, PySem.W.mg_of X G a22⟩⟩
  have F23 := fun_mk (st := sFill) l23 e23 k23
  have D__law_fill : Df lw.prog w K mg base 4 "_law_fill" ["_law_source_here", "_law_boxes", "_law_holders", "_law_out"] (spFill K) := ⟨⟨_, _, ok_fill (k := 0) F23 D__law_draw D__law_pick D__law_order D__law_piece m_len m_dict, F23.binds (ps := ["_law_source_here", "_law_boxes", "_law_holders", "_law_out"]) (fun _ _ _ _ _ _ us hl => match us, hl with | [_, _, _, _], _ => rfl), k23, PySem.W.mg_of X G a23⟩⟩
  have F24 := fun_mk (st := sProgram) l24 e24 k24
  have D__law_program : Df lw.prog w K mg base 5 "_law_program" ["_law_source_here", "_law_letters", "_law_most_boxes", "_law_most_places"] (spProgram) := ⟨⟨_, _, ok_program (k := 0) F24 D__law_draw D__law_pick D__law_signs D__law_names D__law_fill m_list, F24.binds (ps := ["_law_source_here", "_law_letters", "_law_most_boxes", "_law_most_places"]) (fun _ _ _ _ _ _ us hl => match us, hl with | [_, _, _, _], _ => rfl), k24, PySem.W.mg_of X G a24⟩⟩
  have F25 := fun_mk (st := sLine) l25 e25 k25
  have D__line : Df lw.prog w K mg base 1 "_line" ["words"] (spLine) := ⟨⟨_, _, ok_line (k := 0) F25 , F25.binds (ps := ["words"]) (fun _ _ _ _ _ _ us hl => match us, hl with | [_], _ => rfl), k25, PySem.W.mg_of X G a25⟩⟩
  have F26 := fun_mk (st := sPlaceLine) l26 e26 k26
  have D__place_line : Df lw.prog w K mg base 2 "_place_line" ["place", "end"] (spPlaceLine) := ⟨⟨_, _, ok_placeLine (k := 0) F26 D__line, F26.binds (ps := ["place", "end"]) (fun _ _ _ _ _ _ us hl => match us, hl with | [_, _], _ => rfl), k26, PySem.W.mg_of X G a26⟩⟩
  have F27 := fun_mk (st := sMoveLine) l27 e27 k27
  have D__move_line : Df lw.prog w K mg base 2 "_move_line" ["letter", "target", "fillings"] (spMoveLine) := ⟨⟨_, _, ok_moveLine (k := 0) F27 D__line, F27.binds (ps := ["letter", "target", "fillings"]) (fun _ _ _ _ _ _ us hl => match us, hl with | [_, _, _], _ => rfl), k27, PySem.W.mg_of X G a27⟩⟩
  have F28 := fun_mk (st := sRLetters) l28 e28 k28
  have D__read_letters : Df lw.prog w K mg base 3 "_read_letters" ["line"] (spRLx) := ⟨⟨_, _, ok_rlx (k := 0) F28 D_are_letters D_in_order ⟨_, c_MOST_LETTERS⟩, F28.binds (ps := ["line"]) (fun _ _ _ _ _ _ us hl => match us, hl with | [_], _ => rfl), k28, PySem.W.mg_of X G a28⟩⟩
  have F29 := fun_mk (st := sRBoxes) l29 e29 k29
  have D__read_boxes : Df lw.prog w K mg base 3 "_read_boxes" ["line"] (spRBx) := ⟨⟨_, _, ok_rbx (k := 0) F29 D__are_boxes D_in_order, F29.binds (ps := ["line"]) (fun _ _ _ _ _ _ us hl => match us, hl with | [_], _ => rfl), k29, PySem.W.mg_of X G a29⟩⟩
  have F30 := fun_mk (st := sRFill) l30 e30 k30
  have D__read_fillings : Df lw.prog w K mg base 1 "_read_fillings" ["words"] (spRFx) := ⟨⟨_, _, ok_rfx (k := 0) F30 , F30.binds (ps := ["words"]) (fun _ _ _ _ _ _ us hl => match us, hl with | [_], _ => rfl), k30, PySem.W.mg_of X G a30⟩⟩
  have F31 := fun_mk (st := sPlSt) l31 e31 k31
  have D__place_stands : Df lw.prog w K mg base 3 "_place_stands" ["words", "places", "boxes"] (spPSx) := ⟨⟨_, _, ok_psx (k := 0) F31 D_is_name D_is_filling m_len ⟨_, c_MOST_PLACES⟩, F31.binds (ps := ["words", "places", "boxes"]) (fun _ _ _ _ _ _ us hl => match us, hl with | [_, _, _], _ => rfl), k31, PySem.W.mg_of X G a31⟩⟩
  have F32 := fun_mk (st := sMvSt) l32 e32 k32
  have D__move_stands : Df lw.prog w K mg base 4 "_move_stands" ["words", "letters", "boxes", "last"] (spMSx) := ⟨⟨_, _, ok_msx (k := 0) F32 D_is_name D__read_fillings D__are_fillings m_len m_list m_sorted, F32.binds (ps := ["words", "letters", "boxes", "last"]) (fun _ _ _ _ _ _ us hl => match us, hl with | [_, _, _, _], _ => rfl), k32, PySem.W.mg_of X G a32⟩⟩
  have F33 := fun_mk (st := sRHead) l33 e33 k33
  have D__read_head : DfX lw.prog w K mg base 4 "_read_head" ["lines"] (spRHx BT) := ⟨⟨_, _, ok_rhx (k := 0) F33 BTT D__read_letters D__read_boxes m_len, F33.binds (ps := ["lines"]) (fun _ _ _ _ _ _ us hl => match us, hl with | [_], _ => rfl), k33, PySem.W.mg_of X G a33⟩⟩
  have F34 := fun_mk (st := sRPlaces) l34 e34 k34
  have D__read_places : DfX lw.prog w K mg base 5 "_read_places" ["lines", "letters", "boxes"] (spRPx BT) := ⟨⟨_, _, ok_rpx (k := 0) F34 BTT D__place_stands D__move_stands D__read_fillings m_len m_enumerate, F34.binds (ps := ["lines", "letters", "boxes"]) (fun _ _ _ _ _ _ us hl => match us, hl with | [_, _, _], _ => rfl), k34, PySem.W.mg_of X G a34⟩⟩
  have F35 := fun_mk (st := sLLines) l35 e35 k35
  have D__law_lines : Df lw.prog w K mg base 1 "_law_lines" ["_law_parts"] (spLines) := ⟨⟨_, _, ok_lines (k := 0) F35 m_sorted m_int, F35.binds (ps := ["_law_parts"]) (fun _ _ _ _ _ _ us hl => match us, hl with | [_], _ => rfl), k35, PySem.W.mg_of X G a35⟩⟩
  have F36 := fun_mk (st := sLTried) l36 e36 k36
  have M_text : Mth lw.prog w K mg base C 3 "text" [] (spText C) := ⟨⟨_, _, ⟨aCtext, iCtext, kCtext⟩, ok_text (k := 0) FCtext T D__line D__place_line D__move_line M_end M_move, FCtext.binds (ps := ["self"]) (fun _ _ _ _ _ _ us hl => match us, hl with | [_], _ => rfl)⟩⟩
  have FKparse := fun_mk (st := sParse) lKparse eKparse kKparse
  have M_parse : CmX lw.prog w K mg base C 7 "parse" (spPax C BT) := ⟨⟨_, _, _, ⟨rKparse, bKparse⟩, ⟨aKparse, ⟨_, cKparse⟩, fKparse⟩, ((ok_pax (k := 0) FKparse D__read_head D__read_places MK).raw (FKparse.binds (ps := ["cls", "text"]) (fun _ _ _ _ _ _ us hl => match us, hl with | [_, _], _ => rfl)) .nil).imp fun vs H Q E h => by rw [List.append_nil]; exact h⟩⟩
  have D__law_tried : Df lw.prog w K mg base 8 "_law_tried" ["_law_text"] (spTried4) := ⟨⟨_, _, ok_tried4 F36 T BEX M_text M_parse, F36.binds (ps := ["_law_text"]) (fun _ _ _ _ _ _ us hl => match us, hl with | [_], _ => rfl), k36, PySem.W.mg_of X G a36⟩⟩
  have F37 := fun_mk (st := sLHead) l37 e37 k37
  have D__law_head : Df lw.prog w K mg base 1 "_law_head" ["_law_line", "_law_word", "_law_signs_here", "_law_least", "_law_most"] (spLHead) := ⟨⟨_, _, ok_lhead (k := 0) F37 m_all m_len m_set m_list m_sorted, F37.binds (ps := ["_law_line", "_law_word", "_law_signs_here", "_law_least", "_law_most"]) (fun _ _ _ _ _ _ us hl => match us, hl with | [_, _, _, _, _], _ => rfl), k37, PySem.W.mg_of X G a37⟩⟩
  have F38 := fun_mk (st := sLIsName) l38 e38 k38
  have D__law_is_name : Df lw.prog w K mg base 1 "_law_is_name" ["_law_value"] (spLName) := ⟨⟨_, _, ok_lname (k := 0) F38 m_all m_len, F38.binds (ps := ["_law_value"]) (fun _ _ _ _ _ _ us hl => match us, hl with | [_], _ => rfl), k38, PySem.W.mg_of X G a38⟩⟩
  have F39 := fun_mk (st := sLIsFill) l39 e39 k39
  have D__law_is_filling : Df lw.prog w K mg base 1 "_law_is_filling" ["_law_value", "_law_boxes"] (spLFill) := ⟨⟨_, _, ok_lfill (k := 0) F39 m_all m_len m_set, F39.binds (ps := ["_law_value", "_law_boxes"]) (fun _ _ _ _ _ _ us hl => match us, hl with | [_, _], _ => rfl), k39, PySem.W.mg_of X G a39⟩⟩
  have F40 := fun_mk (st := sLIsMove) l40 e40 k40
  have D__law_is_move : Df lw.prog w K mg base 2 "_law_is_move" ["_law_words", "_law_letters", "_law_boxes", "_law_before"] (spLMove) := ⟨⟨_, _, ok_lmove (k := 0) F40 D__law_is_name D__law_is_filling m_all m_len m_set m_sorted, F40.binds (ps := ["_law_words", "_law_letters", "_law_boxes", "_law_before"]) (fun _ _ _ _ _ _ us hl => match us, hl with | [_, _, _, _], _ => rfl), k40, PySem.W.mg_of X G a40⟩⟩
  have F41 := fun_mk (st := sLDue) l41 e41 k41
  have D__law_due : Df lw.prog w K mg base 3 "_law_due" ["_law_text"] (spLDue) := ⟨⟨_, _, ok_ldue (k := 0) F41 D__law_head D__law_is_name D__law_is_filling D__law_is_move m_len m_enumerate, F41.binds (ps := ["_law_text"]) (fun _ _ _ _ _ _ us hl => match us, hl with | [_], _ => rfl), k41, PySem.W.mg_of X G a41⟩⟩
  have F42 := fun_mk (st := sLBent) l42 e42 k42
  have D__law_bent : Df lw.prog w K mg base 3 "_law_bent" ["_law_source_here", "_law_lines_here"] (spLBent) := ⟨⟨_, _, ok_lbent (k := 0) F42 D__law_draw D__law_pick m_len m_int, F42.binds (ps := ["_law_source_here", "_law_lines_here"]) (fun _ _ _ _ _ _ us hl => match us, hl with | [_, _], _ => rfl), k42, PySem.W.mg_of X G a42⟩⟩
  have F43 := fun_mk (st := sLaw) l43 e43 k43
  exact ok_law F43 D__law_source D__law_draw D__law_signs D__law_program D__law_lines D__law_bent D__law_due D__law_tried m_range
theorem walk {l : PySem.W.OpenLaw} {q : Program} {loose : List Str} {XP : (Str → Option Value) → Heap → Prop} {YP : World → Heap → Prop} {d : DefRec} {K : Params → PySem.W.Frag} (hn : l.most = some 63) (hdf : d.params.defaults = [])
    (hY : ∀ (w : World) (h : Heap), YP w h → (K w.params).In h)
    (F : ∀ (w : World) (mg : Str → Option Value) (fa : Addr) (h : Heap), (K w.params).In h → h.Ns mainGlobals mg → mg d.name = some (.ref fa) →
      ∃ fd : FuncData, (∀ (s : Shared) (u : Value), BindsTo s fd ⟨[u], []⟩ [("_law_script", u)]) ∧ ∀ base : Heap, (K w.params).In base → base.Ns mainGlobals mg → FnOk l.prog w (K w.params) mg base CX0 9 fa fd ["_law_script"] (spLaw (K w.params))) :
    PySem.W.WalkO q loose XP YP l.row.toRowW d [] (fun f vs => PySem.call f vs) :=
  L2.walk_of (n := 63) (k := 9) (x := "_law_script") (CX := fun _ => CX0) (sp := fun w => spLaw (K w.params)) hn (by decide) hdf ⟨rfl, by decide, by decide⟩ hY F (fun _ _ a ns hl _ hS => ⟨a, ns, rfl, hS, hl, fun _ => rfl⟩) fun _ _ _ _ _ z => z
end Tb
open PySem PySem.W PyProof.Rows
set_option maxRecDepth 100000 in
set_option maxHeartbeats 0 in
theorem PySem.Challenge.cw_textboxes_k04_bad_program_texts_holds : PySem.Challenge.rw_textboxes_k04_bad_program_texts.Holds := by
  w_on; o_law; k_head; (case hw => w_witness2)
  k_fill
  refine Tb.walk (l := PySem.Challenge.rw_textboxes_k04_bad_program_texts) rfl rfl (fun w h Y => by first | exact PySem.W.km_in_of Y | exact PySem.W.kIn_of Y) ?F
  case F =>
    intro w mg fa h KX G hmg
    refine' Tb.all_mk (fa := fa) (w := w) KX G hmg ?a0 ?k0 ?l0 ?e0 ?a1 ?k1 ?l1 ?e1 ?a2 ?k2 ?l2 ?e2 ?a3 ?k3 ?l3 ?e3 ?a4 ?k4 ?l4 ?e4 ?a5 ?k5 ?l5 ?e5 ?a6 ?k6 ?l6 ?e6 ?a7 ?k7 ?l7 ?e7 ?a8 ?k8 ?l8 ?e8 ?a9 ?k9 ?l9 ?e9 ?a10 ?k10 ?l10 ?e10 ?a11 ?k11 ?l11 ?e11 ?a12 ?k12 ?l12 ?e12 ?a13 ?k13 ?l13 ?e13 ?a14 ?k14 ?l14 ?e14 ?a15 ?k15 ?l15 ?e15 ?a16 ?k16 ?l16 ?e16 ?a17 ?k17 ?l17 ?e17 ?a18 ?k18 ?l18 ?e18 ?a19 ?k19 ?l19 ?e19 ?a20 ?k20 ?l20 ?e20 ?a21 ?k21 ?l21 ?e21 ?a22 ?k22 ?l22 ?e22 ?a23 ?k23 ?l23 ?e23 ?a24 ?k24 ?l24 ?e24 ?a25 ?k25 ?l25 ?e25 ?a26 ?k26 ?l26 ?e26 ?a27 ?k27 ?l27 ?e27 ?a28 ?k28 ?l28 ?e28 ?a29 ?k29 ?l29 ?e29 ?a30 ?k30 ?l30 ?e30 ?a31 ?k31 ?l31 ?e31 ?a32 ?k32 ?l32 ?e32 ?a33 ?k33 ?l33 ?e33 ?a34 ?k34 ?l34 ?e34 ?a35 ?k35 ?l35 ?e35 ?a36 ?k36 ?l36 ?e36 ?a37 ?k37 ?l37 ?e37 ?a38 ?k38 ?l38 ?e38 ?a39 ?k39 ?l39 ?e39 ?a40 ?k40 ?l40 ?e40 ?a41 ?k41 ?l41 ?e41 ?a42 ?k42 ?l42 ?e42 ?a43 ?k43 ?l43 ?e43 ?aC ?pgC ?hdC ?poC ?saC ?mkC ?kcC ?aCinit ?iCinit ?kCinit ?lCinit ?eCinit ?aCmove ?iCmove ?kCmove ?lCmove ?eCmove ?aCend ?iCend ?kCend ?lCend ?eCend ?aCtext ?iCtext ?kCtext ?lCtext ?eCtext ?aPletters ?sPletters ?tPletters ?rPletters ?kPletters ?lPletters ?ePletters ?aPboxes ?sPboxes ?tPboxes ?rPboxes ?kPboxes ?lPboxes ?ePboxes ?aPplaces ?sPplaces ?tPplaces ?rPplaces ?kPplaces ?lPplaces ?ePplaces ?rKparse ?bKparse ?aKparse ?cKparse ?fKparse ?kKparse ?lKparse ?eKparse ?n_letters ?n_boxes ?n_places ?n_moves ?n_ends ?aBT ?xBT ?hbBT ?saBT ?eCBT ?tCBT ?kCBT ?aXBT ?tXBT ?kXBT ?lXBT ?eXBT ?gaBT ?ggBT ?hdBT ?nfBT ?em1 ?z_all ?z_dict ?z_enumerate ?z_int ?z_isinstance ?z_len ?z_list ?z_range ?z_set ?z_sorted ?z_str ?z_tuple ?v_BOXES ?v_LONGEST_NAME ?v_MOST_BOXES ?v_MOST_LETTERS ?v_MOST_PLACES
    (case a0 => k_is)
    (case k0 => k_is)
    (case l0 => k_is)
    (case e0 => k_is)
    (case a1 => k_is)
    (case k1 => k_is)
    (case l1 => k_is)
    (case e1 => k_is)
    (case a2 => k_is)
    (case k2 => k_is)
    (case l2 => k_is)
    (case e2 => k_is)
    (case a3 => k_is)
    (case k3 => k_is)
    (case l3 => k_is)
    (case e3 => k_is)
    (case a4 => k_is)
    (case k4 => k_is)
    (case l4 => k_is)
    (case e4 => k_is)
    (case a5 => k_is)
    (case k5 => k_is)
    (case l5 => k_is)
    (case e5 => k_is)
    (case a6 => k_is)
    (case k6 => k_is)
    (case l6 => k_is)
    (case e6 => k_is)
    (case a7 => k_is)
    (case k7 => k_is)
    (case l7 => k_is)
    (case e7 => k_is)
    (case a8 => k_is)
    (case k8 => k_is)
    (case l8 => k_is)
    (case e8 => k_is)
    (case a9 => k_is)
    (case k9 => k_is)
    (case l9 => k_is)
    (case e9 => k_is)
    (case a10 => k_is)
    (case k10 => k_is)
    (case l10 => k_is)
    (case e10 => k_is)
    (case a11 => k_is)
    (case k11 => k_is)
    (case l11 => k_is)
    (case e11 => k_is)
    (case a12 => k_is)
    (case k12 => k_is)
    (case l12 => k_is)
    (case e12 => k_is)
    (case a13 => k_is)
    (case k13 => k_is)
    (case l13 => k_is)
    (case e13 => k_is)
    (case a14 => k_is)
    (case k14 => k_is)
    (case l14 => k_is)
    (case e14 => k_is)
    (case a15 => k_is)
    (case k15 => k_is)
    (case l15 => k_is)
    (case e15 => k_is)
    (case a16 => k_is)
    (case k16 => k_is)
    (case l16 => k_is)
    (case e16 => k_is)
    (case a17 => k_is)
    (case k17 => k_is)
    (case l17 => k_is)
    (case e17 => k_is)
    (case a18 => k_is)
    (case k18 => k_is)
    (case l18 => k_is)
    (case e18 => k_is)
    (case a19 => k_is)
    (case k19 => k_is)
    (case l19 => k_is)
    (case e19 => k_is)
    (case a20 => k_is)
    (case k20 => k_is)
    (case l20 => k_is)
    (case e20 => k_is)
    (case a21 => k_is)
    (case k21 => k_is)
    (case l21 => k_is)
    (case e21 => k_is)
    (case a22 => k_is)
    (case k22 => k_is)
    (case l22 => k_is)
    (case e22 => k_is)
    (case a23 => k_is)
    (case k23 => k_is)
    (case l23 => k_is)
    (case e23 => k_is)
    (case a24 => k_is)
    (case k24 => k_is)
    (case l24 => k_is)
    (case e24 => k_is)
    (case a25 => k_is)
    (case k25 => k_is)
    (case l25 => k_is)
    (case e25 => k_is)
    (case a26 => k_is)
    (case k26 => k_is)
    (case l26 => k_is)
    (case e26 => k_is)
    (case a27 => k_is)
    (case k27 => k_is)
    (case l27 => k_is)
    (case e27 => k_is)
    (case a28 => k_is)
    (case k28 => k_is)
    (case l28 => k_is)
    (case e28 => k_is)
    (case a29 => k_is)
    (case k29 => k_is)
    (case l29 => k_is)
    (case e29 => k_is)
    (case a30 => k_is)
    (case k30 => k_is)
    (case l30 => k_is)
    (case e30 => k_is)
    (case a31 => k_is)
    (case k31 => k_is)
    (case l31 => k_is)
    (case e31 => k_is)
    (case a32 => k_is)
    (case k32 => k_is)
    (case l32 => k_is)
    (case e32 => k_is)
    (case a33 => k_is)
    (case k33 => k_is)
    (case l33 => k_is)
    (case e33 => k_is)
    (case a34 => k_is)
    (case k34 => k_is)
    (case l34 => k_is)
    (case e34 => k_is)
    (case a35 => k_is)
    (case k35 => k_is)
    (case l35 => k_is)
    (case e35 => k_is)
    (case a36 => k_is)
    (case k36 => k_is)
    (case l36 => k_is)
    (case e36 => k_is)
    (case a37 => k_is)
    (case k37 => k_is)
    (case l37 => k_is)
    (case e37 => k_is)
    (case a38 => k_is)
    (case k38 => k_is)
    (case l38 => k_is)
    (case e38 => k_is)
    (case a39 => k_is)
    (case k39 => k_is)
    (case l39 => k_is)
    (case e39 => k_is)
    (case a40 => k_is)
    (case k40 => k_is)
    (case l40 => k_is)
    (case e40 => k_is)
    (case a41 => k_is)
    (case k41 => k_is)
    (case l41 => k_is)
    (case e41 => k_is)
    (case a42 => k_is)
    (case k42 => k_is)
    (case l42 => k_is)
    (case e42 => k_is)
    (case a43 => k_is)
    (case k43 => k_is)
    (case l43 => k_is)
    (case e43 => k_is)
    (case aC => k_is)
    (case pgC => k_is)
    (case hdC => k_is)
    (case poC => k_is)
    (case saC => k_is)
    (case mkC => k_is)
    (case kcC => k_is)
    (case aCinit => k_is)
    (case iCinit => k_is)
    (case kCinit => k_is)
    (case lCinit => k_is)
    (case eCinit => k_is)
    (case aCmove => k_is)
    (case iCmove => k_is)
    (case kCmove => k_is)
    (case lCmove => k_is)
    (case eCmove => k_is)
    (case aCend => k_is)
    (case iCend => k_is)
    (case kCend => k_is)
    (case lCend => k_is)
    (case eCend => k_is)
    (case aCtext => k_is)
    (case iCtext => k_is)
    (case kCtext => k_is)
    (case lCtext => k_is)
    (case eCtext => k_is)
    (case aPletters => k_is)
    (case sPletters => k_is)
    (case tPletters => k_is)
    (case rPletters => k_is)
    (case kPletters => k_is)
    (case lPletters => k_is)
    (case ePletters => k_is)
    (case aPboxes => k_is)
    (case sPboxes => k_is)
    (case tPboxes => k_is)
    (case rPboxes => k_is)
    (case kPboxes => k_is)
    (case lPboxes => k_is)
    (case ePboxes => k_is)
    (case aPplaces => k_is)
    (case sPplaces => k_is)
    (case tPplaces => k_is)
    (case rPplaces => k_is)
    (case kPplaces => k_is)
    (case lPplaces => k_is)
    (case ePplaces => k_is)
    (case rKparse => k_is)
    (case bKparse => k_is)
    (case aKparse => k_is)
    (case cKparse => k_is)
    (case fKparse => k_is)
    (case kKparse => k_is)
    (case lKparse => k_is)
    (case eKparse => k_is)
    (case n_letters => k_is)
    (case n_boxes => k_is)
    (case n_places => k_is)
    (case n_moves => k_is)
    (case n_ends => k_is)
    (case aBT => k_is)
    (case xBT => k_is)
    (case hbBT => rfl)
    (case saBT => k_is)
    (case eCBT => k_is)
    (case tCBT => k_is)
    (case kCBT => k_is)
    (case aXBT => k_is)
    (case tXBT => k_is)
    (case kXBT => k_is)
    (case lXBT => k_is)
    (case eXBT => k_is)
    (case gaBT => k_is)
    (case ggBT => k_is)
    (case hdBT => k_is)
    (case nfBT => k_is)
    (case em1 => first | kts_exm | kernel_rfl)
    (case z_all => k_is)
    (case z_dict => k_is)
    (case z_enumerate => k_is)
    (case z_int => k_is)
    (case z_isinstance => k_is)
    (case z_len => k_is)
    (case z_list => k_is)
    (case z_range => k_is)
    (case z_set => k_is)
    (case z_sorted => k_is)
    (case z_str => k_is)
    (case z_tuple => k_is)
    (case v_BOXES => k_is)
    (case v_LONGEST_NAME => k_is)
    (case v_MOST_BOXES => k_is)
    (case v_MOST_LETTERS => k_is)
    (case v_MOST_PLACES => k_is)

