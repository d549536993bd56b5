import PyProof.Rows.All
import Wide.All
import OpenK.AllK
import Wide.FinOn
import HandS.ForMost
import HandS.More
import HandS.Conv
import HandS.Walk
import HandS.Flow
import HandS.Style
import HandS.Strs
import HandS.Codes
import PyProof.Rows.SetFrom
import PyProof.StrWalks
import HandS.IsInst
import HandS.Iter
import HandS.DictComp
import HandS.StrMore
import HandS.Text
import HandS.Replace
import HandS.ReplaceLit
import HandS.Words
import HandS.ReplaceList
import PyProof.Rows.RegReprOcc
import PyProof.Rows.StrCountLaw
import HandS.DictTup
import HandS.MapObj
import PyProof.DictWalks
import HandS.NoneIn
import HandS.Property
import HandS.Star
import PyProof.Rows.StrPins2
import PyProof.StrLawsIn
import HandS.SortInts
import HandS.ForExc
import HandS.TryMany
import HandS.ExcInit
import HandS.ExcField
import HandS.OwnEq
import PyProof.ReprRoads
import PyProof.CallFns
import HandS.RaiseMore
import HandS.Lambda
import KE.KEqNest
import PyProof.NeKinds
import HandS.ListItems
import HandS.EndTab
import PyProof.DictFindH
import PyProof.DictRoadsH
import HandS.ClsMeth
import HandS.DeepEq
import PyProof.InstNe
import KE.KNestM
import KE.RegKTryMore
import PySem.Challenge.RW_textboxes_k06_readers
set_option Elab.async false
set_option linter.all false
set_option maxRecDepth 100000
set_option maxHeartbeats 1000000
/-! Rules that speak of a new object without telling the heap: what stood stands (Same), the new one is at p. -/
namespace Tb
open PySem PySem.Spec PyProof.Rows L2
theorem same_upd {H : Hp} {p : Addr} {o : HO} (h : H p = none) : Same H (upd H p o) := fun b x e => by
  rw [upd_ne (ne_of_none e h)]
  exact e
theorem sql_upd {K : PySem.W.Frag} {H : Hp} {a p : Addr} {o : HO} {xs : List V} (h : SqL K H a xs) (ne : a ≠ p) : SqL K (upd H p o) a xs := by
  rcases h with (h | ⟨u, h⟩) | h
  · exact .inl (.inl (by rw [upd_ne ne]; exact h))
  · exact .inl (.inr ⟨u, by rw [upd_ne ne]; exact h⟩)
  · exact .inr h
theorem PE.weak {X : Cx} {e : Expr} {t t' : TE} (h : PE X e t) (w : ∀ σ H Q, t' σ H Q → t σ H Q) : PE X e t' := ⟨fun pins s σ H Q I z => h.run pins s σ H Q I (w σ H Q z)⟩
theorem PA.weak {X : Cx} {es : List Expr} {t t' : TA} (h : PA X es t) (w : ∀ σ H Q, t' σ H Q → t σ H Q) : PA X es t' := ⟨fun pos pins s σ H Q I z => h.run pos pins s σ H Q I (w σ H Q z)⟩
theorem OpR.weak {X : Cx} {f : Value → Value → Sem Value} {r r' : R2} (h : OpR X f r) (w : ∀ x y H Q, r' x y H Q → r x y H Q) : OpR X f r' := fun pins s σ H x y v u Q I rx ry z => h pins s σ H x y v u Q I rx ry (w x y H Q z)
theorem CallR.weak {X : Cx} {f : Value} {r r' : List V → Hp → VK → Prop} (h : CallR X f r) (w : ∀ xs H Q, r' xs H Q → r xs H Q) : CallR X f r' := fun pins s σ H xs us Q I rx z => h pins s σ H xs us Q I rx (w xs H Q z)
/-- what holds of a new object o -/
def New (H : Hp) (o : HO) (Q : VK) : Prop := ∀ p H', Same H H' → H p = none → H' p = some o → Q (.ref p) H'
theorem New.at {H : Hp} {o : HO} {Q : VK} (h : New H o Q) : ∀ p, H p = none → Q (.ref p) (upd H p o) := fun p np => h p _ (same_upd np) np upd_same
theorem tYes_if {A B : Hp → Prop} {σ : L2.St} {H : Hp} (h : A H) : tYes σ H (fun b H3 => if b = true then A H3 else B H3) := by
  show (if true = true then A H else B H)
  rw [if_pos rfl]
  exact h
section
variable {X : Cx} {es : List Expr} {t : TA} {p : Pos}
def tLstS (t : TA) : TE := fun σ H Q => t σ H fun xs H1 => xs.length ≤ sizeLine ∧ New H1 (.lst xs) Q
def tTupS (t : TA) : TE := fun σ H Q => t σ H fun xs H1 => xs.length ≤ sizeLine ∧ New H1 (.tup xs) Q
theorem PA.mono (h : PA X es t) : PA X es (fun σ H Q => ∃ R, t σ H R ∧ ∀ xs H1, R xs H1 → Q xs H1) := ⟨fun pos pins s σ H Q I ⟨R, z, m⟩ => thn (h.run pos pins s σ H R I z) fun us s1 ⟨vs, H1, I1, r1, q1⟩ => ⟨vs, H1, I1, r1, m vs H1 q1⟩⟩
theorem pe_lstS (h : PA X es t) : PE X (.List es p) (tLstS t) := PE.weak (pe_lst (PA.mono h)) fun σ H Q z => ⟨_, z, fun xs H1 q => ⟨q.1, q.2.at⟩⟩
theorem pe_tupS {k : Nat} (h : PA X es t) : PE X (.Tuple es k p) (tTupS t) := PE.weak (pe_tup (PA.mono h)) fun σ H Q z => ⟨_, z, fun xs H1 q => ⟨q.1, q.2.at⟩⟩
def rCatS : R2 := fun x y H Q => ∃ l b xs zs ys, x = .ref l ∧ y = .ref b ∧ H l = some (.lst xs) ∧ H b = some (.lst zs) ∧ xs.length + zs.length ≤ sizeLine ∧ xs ++ zs = ys ∧ New H (.lst ys) Q
theorem op_catS : OpR X (binaryOp .Add) rCatS := OpR.weak op_cat fun x y H Q ⟨l, b, xs, zs, ys, e1, e2, h1, h2, hl, e, h⟩ => ⟨l, b, xs, zs, e1, e2, h1, h2, hl, by rw [e]; exact h.at⟩
def rRepS : R2 := fun x y H Q => ∃ l k xs ys, x = .ref l ∧ y = .int k ∧ H l = some (.lst xs) ∧ -(2 ^ 63) ≤ k ∧ k < 2 ^ 63 ∧ xs.length * k.toNat ≤ sizeLine ∧ (List.replicate k.toNat xs).flatten = ys ∧ New H (.lst ys) Q
theorem op_repS : OpR X (binaryOp .Mult) rRepS := OpR.weak op_rep fun x y H Q ⟨l, k, xs, ys, e1, e2, h1, k0, k1, hl, e, h⟩ => ⟨l, k, xs, e1, e2, h1, k0, k1, hl, by rw [e]; exact h.at⟩
def tNewK : TE := fun _ H Q => New H (.dK []) Q
def tNewT : TE := fun _ H Q => New H (.dT []) Q
theorem pe_newK : PE X (.Dict [] [] p) tNewK := PE.weak pe_dnewK fun σ H Q z => z.at
theorem pe_newT : PE X (.Dict [] [] p) tNewT := PE.weak pe_dnewT fun σ H Q z => z.at
def rLen (K : PySem.W.Frag) : List V → Hp → VK → Prop := fun xs H Q => ∃ p ys, xs = [.ref p] ∧ (SqL K H p ys ∨ SqT K H p ys) ∧ Q (.int ys.length) H
theorem call_lenS : CallR X (.builtin "len") (rLen X.K) := call_len_seq
def num (k : Nat) : V := .int (k : Int)
theorem rgV_num (m : Nat) : rgV 0 (m : Int) = (List.range m).map num := by
  unfold rgV
  rw [show ((m : Int) - 0).toNat = m by omega]
  exact List.map_congr_left fun i _ => congrArg V.int (Int.zero_add _)
theorem PE.mono {e : Expr} {t : TE} (h : PE X e t) : PE X e (fun σ H Q => ∃ R, t σ H R ∧ ∀ v H1, R v H1 → Q v H1) := ⟨fun pins s σ H Q I ⟨R, z, m⟩ => thn (h.run pins s σ H R I z) fun u s1 ⟨v, H1, I1, r1, q1⟩ => ⟨v, H1, I1, r1, m v H1 q1⟩⟩
/-- list(range(n)) -/
def tListN (t : TE) : TE := fun σ H Q => t σ H fun x H1 => ∃ m : Nat, x = num m ∧ m ≤ 16777216 ∧ New H1 (.lst ((List.range m).map num)) Q
theorem pe_listN {e : Expr} {t : TE} {p1 p2 p3 p4 : Pos} (hc : X.calm = true) (hg : Gl X "list") (hm : X.mg "list" = none) (hg' : Gl X "range") (hm' : X.mg "range" = none) (h : PE X e t) (hs : starEach [e] X.env = (false, eval e X.env) :: starEach [] X.env := by rfl) :
    PE X (.Call (.Name "list" p1) [.Call (.Name "range" p2) [e] [] p3] [] p4) (tListN t) :=
  PE.weak (pe_listRg hc hg hm (prg_1 hg' hm' (PE.mono h) (na := hs))) fun σ H Q z => ⟨_, z, fun v H1 ⟨m, e1, l, q⟩ => ⟨(m : Int), e1, RgOk.of_le (by omega) (by omega) (by omega) (by omega), by rw [rgV_num]; exact q.at⟩⟩
end
/-- a def of the module's top that keeps a promise -/
structure Df (P : Program) (w : World) (K : PySem.W.Frag) (mg : Str → Option Value) (base : Heap) (k : Nat) (nm : Str) (ps : List Str) (sp : Sp) : Prop where
  ex : ∃ f fd, FnOk P w K mg base CX0 k f fd ps sp ∧ Binds K fd ps [] ∧ PySem.W.keepIn K (.ref f) = true ∧ mg nm = some (.ref f)
theorem Df.imp {P : Program} {w : World} {K : PySem.W.Frag} {mg : Str → Option Value} {base : Heap} {k : Nat} {nm : Str} {ps : List Str} {sp sp' : Sp} (D : Df P w K mg base k nm ps sp) (h : ∀ vs H Q E, sp' vs H Q E → sp vs H Q E) : Df P w K mg base k nm ps sp' := by
  obtain ⟨f, fd, G, b, kp, m⟩ := D.ex
  exact ⟨f, fd, G.imp h, b, kp, m⟩
theorem pe_df {X : Cx} {k j : Nat} {nm : Str} {ps : List Str} {sp : Sp} {e : Expr} {es : List Expr} {t : TA} {p pos : Pos} (D : Df X.prog X.w X.K X.mg X.base k nm ps sp) (hr : Room j X.A) (ha : PA X (e :: es) t) (hg : Gl X nm := by rfl) (hk : k ≤ j := by omega)
    (hdb : (nm == ("__debug__" : Str)) = false := by decide) (he : starEach (e :: es) X.env = (false, eval e X.env) :: starEach es X.env := by rfl) (hpl : (backTo pos (starEach es X.env)).any (·.1) = false := by rfl) :
    PE X (.Call (.Name nm p) (e :: es) [] pos) (tCall sp [] E0 t) := by
  obtain ⟨f, fd, G, b, kp, m⟩ := D.ex
  exact pe_call G (hr.mono hk) hg m kp b .nil pass0 ha hdb he hpl
end Tb

set_option Elab.async false
set_option linter.all false
set_option maxRecDepth 100000
set_option maxHeartbeats 1000000
namespace Tb
open PySem PySem.Spec PyProof.Rows L2 TL
/-! ### texts by their signs -/
def S (l : List Nat) : Str := ⟨l.toArray⟩
theorem tl_S (l : List Nat) : tl (S l) = l := rfl
theorem S_tl (x : Str) : S (tl x) = x := ext_tl rfl
theorem S_app (a b : List Nat) : S a ++ S b = S (a ++ b) := ext_tl (by rw [tl_append]; rfl)
theorem len_S (l : List Nat) : (S l).length = l.length := by rw [len_tl, tl_S]
theorem S_inj {a b : List Nat} (h : S a = S b) : a = b := by
  have e := congrArg tl h
  exact e
theorem joinL_nil : ∀ parts : List (List Nat), joinL [] parts = parts.flatten
  | [] => rfl
  | [p] => by simp [joinL]
  | p :: q :: r => by
    have ih := joinL_nil (q :: r)
    show p ++ ([] ++ joinL [] (q :: r)) = _
    rw [ih]
    rfl
theorem join_S (s : List Nat) (parts : List (List Nat)) : Txt.join (S s) (parts.map S) = S (joinL s parts) := ext_tl (by
  rw [join_eq, tl_join, List.map_map]
  have e : parts.map (tl ∘ S) = parts := by
    rw [show (tl ∘ S) = id from funext fun l => rfl, List.map_id]
  rw [e]
  rfl)
theorem ones_flat : ∀ cs : List Nat, (cs.map fun c => [c]).flatten = cs
  | [] => rfl
  | c :: r => congrArg (c :: ·) (ones_flat r)
theorem join_signs (cs : List Nat) : Txt.join (S []) (cs.map fun c => S [c]) = S cs := by
  have e : cs.map (fun c => S [c]) = (cs.map fun c => [c]).map S := by rw [List.map_map]; rfl
  rw [e, join_S, joinL_nil, ones_flat]
theorem sum_ones (cs : List Nat) : ((cs.map fun c => S [c]).map (·.length)).sum = cs.length := by
  induction cs with
  | nil => rfl
  | cons c r ih =>
    show 1 + ((r.map fun c => S [c]).map (·.length)).sum = r.length + 1
    omega
theorem str_empty : (Str.ofString "" : Str) = S [] := by decide +kernel
/-! ### comprehensions whose element is a value of the item -/
section
variable {K : PySem.W.Frag} {te : TE} {vs : List Nat} {σ : L2.St} {H1 : Hp} {D : Addr} {Qd : Hp → Prop} {sl : Nat}
theorem lc_mapL {a : Addr} {xs : List V} (g : V → V) (hS : SqL K H1 a xs) (nD : H1 D = none) (hl : xs.length < sizeLine) (he : ∀ x ∈ xs, ∀ H' (R : VK), Same H1 H' → R (g x) H' → te ((wipe σ vs).set sl (some x)) H' R)
    (hd : ∀ H', Same H1 H' → H' D = some (.lst (xs.map g)) → Qd H') (hw : ∀ x, wipe ((wipe σ vs).set sl (some x)) vs = wipe σ vs := by intro _; rfl) :
    ∃ W : Nat → Nat → Hp → Prop, (∃ m, W 0 m (upd H1 D (.lst []))) ∧ ∀ i m H, W i m H →
      ((Itl K a).stop i H ∧ Qd H) ∨ ((Itl K a).go i H ∧ ∃ Nx : Hp → Prop, (∀ H', Nx H' → ∃ m', m' < m ∧ W (i + 1) m' H') ∧ ∀ x H', (Itl K a).yld i H x H' → gName sl x (wipe σ vs) H' fun σ2 H2 => wipe σ2 vs = wipe σ vs ∧ tYes σ2 H2 fun b H3 =>
        if b = true then te σ2 H3 fun y H4 => ∃ acc, H4 D = some (.lst acc) ∧ acc.length < sizeLine ∧ Nx (upd H4 D (.lst (acc ++ [y]))) else Nx H3) := by
  refine lc_list (K := K) (a := a) (xs := xs) (fun i H => Same H1 H ∧ H D = some (.lst ((xs.take i).map g))) ⟨same_upd nD, upd_same⟩ (fun i H _ h => h.1.seq hS) ?_ ?_
  · rintro i x H hx ⟨s, e⟩
    refine ⟨hw x, tYes_if (he x (List.mem_of_getElem? hx) H _ s ⟨_, e, ?_, fun b o eb => ?_, ?_⟩)⟩
    · rw [List.length_map, List.length_take]
      exact Nat.lt_of_le_of_lt (Nat.min_le_right _ _) hl
    · rw [upd_ne (ne_of_none eb nD)]
      exact s _ _ eb
    · rw [upd_same, List.take_add_one, hx, List.map_append]
      rfl
  · rintro H ⟨s, e⟩
    rw [List.take_length] at e
    exact hd H s e
theorem lc_mapR {n : Nat} (g : Nat → V) (nD : H1 D = none) (hl : n < sizeLine) (he : ∀ i, i < n → ∀ H' (R : VK), Same H1 H' → R (g i) H' → te ((wipe σ vs).set sl (some (num i))) H' R)
    (hd : ∀ H', Same H1 H' → H' D = some (.lst ((List.range n).map g)) → Qd H') (hw : ∀ x, wipe ((wipe σ vs).set sl (some x)) vs = wipe σ vs := by intro _; rfl) :
    ∃ W : Nat → Nat → Hp → Prop, (∃ m, W 0 m (upd H1 D (.lst []))) ∧ ∀ i m H, W i m H →
      ((Itr 0 n).stop i H ∧ Qd H) ∨ ((Itr 0 n).go i H ∧ ∃ Nx : Hp → Prop, (∀ H', Nx H' → ∃ m', m' < m ∧ W (i + 1) m' H') ∧ ∀ x H', (Itr 0 n).yld i H x H' → gName sl x (wipe σ vs) H' fun σ2 H2 => wipe σ2 vs = wipe σ vs ∧ tYes σ2 H2 fun b H3 =>
        if b = true then te σ2 H3 fun y H4 => ∃ acc, H4 D = some (.lst acc) ∧ acc.length < sizeLine ∧ Nx (upd H4 D (.lst (acc ++ [y]))) else Nx H3) := by
  refine lc_range (lo := 0) (n := n) (fun i H => Same H1 H ∧ H D = some (.lst ((List.range i).map g))) ⟨same_upd nD, upd_same⟩ ?_ ?_
  · rintro i H hi ⟨s, e⟩
    refine ⟨hw _, tYes_if ?_⟩
    have en : V.int (0 + (i : Int)) = num i := congrArg V.int (Int.zero_add _)
    rw [en]
    refine he i hi H _ s ⟨_, e, ?_, fun b o eb => ?_, ?_⟩
    · rw [List.length_map, List.length_range]
      omega
    · rw [upd_ne (ne_of_none eb nD)]
      exact s _ _ eb
    · rw [upd_same, List.range_succ, List.map_append]
      rfl
  · rintro H ⟨s, e⟩
    exact hd H s e
theorem lc_mapS {cs : List Nat} (g : Nat → V) (nD : H1 D = none) (hl : cs.length < sizeLine) (he : ∀ c ∈ cs, ∀ H' (R : VK), Same H1 H' → R (g c) H' → te ((wipe σ vs).set sl (some (.str (S [c])))) H' R)
    (hd : ∀ H', Same H1 H' → H' D = some (.lst (cs.map g)) → Qd H') (hw : ∀ x, wipe ((wipe σ vs).set sl (some x)) vs = wipe σ vs := by intro _; rfl) :
    ∃ W : Nat → Nat → Hp → Prop, (∃ m, W 0 m (upd H1 D (.lst []))) ∧ ∀ i m H, W i m H →
      ((Its (S cs)).stop i H ∧ Qd H) ∨ ((Its (S cs)).go i H ∧ ∃ Nx : Hp → Prop, (∀ H', Nx H' → ∃ m', m' < m ∧ W (i + 1) m' H') ∧ ∀ x H', (Its (S cs)).yld i H x H' → gName sl x (wipe σ vs) H' fun σ2 H2 => wipe σ2 vs = wipe σ vs ∧ tYes σ2 H2 fun b H3 =>
        if b = true then te σ2 H3 fun y H4 => ∃ acc, H4 D = some (.lst acc) ∧ acc.length < sizeLine ∧ Nx (upd H4 D (.lst (acc ++ [y]))) else Nx H3) := by
  refine lc_it (walk_str (z := S cs)) (fun i H => Same H1 H ∧ H D = some (.lst ((cs.take i).map g))) ⟨same_upd nD, upd_same⟩ (fun _ _ _ _ => trivial) ?_ ?_
  · rintro i x H H' hi ⟨s, e⟩ ⟨rfl, c, hc, rfl⟩
    have hc' : cs[i]? = some c := by
      have h := hc
      rw [show (S cs).cps = cs.toArray from rfl, List.getElem?_toArray] at h
      exact h
    refine ⟨hw _, tYes_if (he c (List.mem_of_getElem? hc') _ _ s ⟨_, e, ?_, fun b o eb => ?_, ?_⟩)⟩
    · rw [List.length_map, List.length_take]
      exact Nat.lt_of_le_of_lt (Nat.min_le_right _ _) hl
    · rw [upd_ne (ne_of_none eb nD)]
      exact s _ _ eb
    · rw [upd_same, List.take_add_one, hc', List.map_append]
      rfl
  · rintro H ⟨s, e⟩
    rw [show (S cs).cps.size = cs.length from rfl, List.take_length] at e
    exact hd H s e
theorem tif {t : TT} {σ : L2.St} {H : Hp} {A : Hp → Prop} {B : Hp → Prop} {k : Bool} (ht : ∀ R : Bool → Hp → Prop, R k H → t σ H R) (h1 : k = true → A H) (h2 : k = false → B H) : t σ H (fun b H3 => if b = true then A H3 else B H3) := by
  refine ht _ ?_
  cases k with
  | true =>
    show (if true = true then A H else B H)
    rw [if_pos rfl]
    exact h1 rfl
  | false =>
    show (if false = true then A H else B H)
    rw [if_neg Bool.false_ne_true]
    exact h2 rfl
/-- a list's items that keep, each by its value -/
theorem lc_filtL {a : Addr} {xs : List V} {tt : TT} (keep : V → Bool) (g : V → V) (hS : SqL K H1 a xs) (nD : H1 D = none) (hl : xs.length < sizeLine) (ht : ∀ x ∈ xs, ∀ H' (R : Bool → Hp → Prop), Same H1 H' → R (keep x) H' → tt ((wipe σ vs).set sl (some x)) H' R)
    (he : ∀ x ∈ xs, keep x = true → ∀ H' (R : VK), Same H1 H' → R (g x) H' → te ((wipe σ vs).set sl (some x)) H' R)
    (hd : ∀ H', Same H1 H' → H' D = some (.lst ((xs.filter keep).map g)) → Qd H') (hw : ∀ x, wipe ((wipe σ vs).set sl (some x)) vs = wipe σ vs := by intro _; rfl) :
    ∃ W : Nat → Nat → Hp → Prop, (∃ m, W 0 m (upd H1 D (.lst []))) ∧ ∀ i m H, W i m H →
      ((Itl K a).stop i H ∧ Qd H) ∨ ((Itl K a).go i H ∧ ∃ Nx : Hp → Prop, (∀ H', Nx H' → ∃ m', m' < m ∧ W (i + 1) m' H') ∧ ∀ x H', (Itl K a).yld i H x H' → gName sl x (wipe σ vs) H' fun σ2 H2 => wipe σ2 vs = wipe σ vs ∧ tt σ2 H2 fun b H3 =>
        if b = true then te σ2 H3 fun y H4 => ∃ acc, H4 D = some (.lst acc) ∧ acc.length < sizeLine ∧ Nx (upd H4 D (.lst (acc ++ [y]))) else Nx H3) := by
  refine lc_list (K := K) (a := a) (xs := xs) (fun i H => Same H1 H ∧ H D = some (.lst (((xs.take i).filter keep).map g))) ⟨same_upd nD, upd_same⟩ (fun i H _ h => h.1.seq hS) ?_ ?_
  · rintro i x H hx ⟨s, e⟩
    have hm := List.mem_of_getElem? hx
    have et : xs.take (i + 1) = xs.take i ++ [x] := by
      rw [List.take_add_one, hx]
      rfl
    refine ⟨hw x, tif (k := keep x) (fun R r => ht x hm H R s r) (fun hk => he x hm hk H _ s ⟨_, e, ?_, fun b o eb => ?_, ?_⟩) (fun hk => ⟨s, ?_⟩)⟩
    · rw [List.length_map]
      refine Nat.lt_of_le_of_lt (List.length_filter_le _ _) ?_
      rw [List.length_take]
      exact Nat.lt_of_le_of_lt (Nat.min_le_right _ _) hl
    · rw [upd_ne (ne_of_none eb nD)]
      exact s _ _ eb
    · rw [upd_same, et, List.filter_append, List.map_append]
      simp only [List.filter_cons, hk, if_true, List.filter_nil]
      rfl
    · rw [e, et, List.filter_append]
      simp [List.filter_cons, hk]
  · rintro H ⟨s, e⟩
    rw [List.take_length] at e
    exact hd H s e
end
/-! ### slices, members -/
theorem inV_S (x : List Nat) (ys : List (List Nat)) : inV (.str (S x)) (ys.map fun y => .str (S y)) = decide (x ∈ ys) := by
  unfold inV
  rw [List.any_map, Bool.eq_iff_iff, List.any_eq_true, decide_eq_true_eq]
  constructor
  · rintro ⟨y, hy, e⟩
    have e' : (S y == S x) = true := e
    rw [← S_inj (beq_iff_eq.mp e')]
    exact hy
  · intro h
    exact ⟨x, h, beq_self_eq_true (S x)⟩
theorem flat_S (ys : List (List Nat)) : (ys.map fun y => V.str (S y)).all flatV = true := by
  rw [List.all_map, List.all_eq_true]
  intro y _
  rfl
theorem cutS_drop (cs : List Nat) (k : Nat) : cutS (S cs) (some (k : Int)) none = S (cs.drop k) := by
  refine ext_tl ?_
  show ((cs.drop (HT.sIx (S cs).length 0 (some (k : Int)))).take (HT.sIx (S cs).length (S cs).length none - HT.sIx (S cs).length 0 (some (k : Int)))) = cs.drop k
  rw [HT.sIx_nat, HT.sIx_none, len_S]
  by_cases h : k ≤ cs.length
  · rw [Nat.min_eq_left h]
    refine List.take_of_length_le ?_
    rw [List.length_drop]
    exact Nat.le_refl _
  · rw [Nat.min_eq_right (by omega), List.drop_eq_nil_of_le (Nat.le_refl _), List.drop_eq_nil_of_le (by omega)]
    rw [List.take_nil]
/-! ### slices -/
section
variable {X : Cx}
def rSlLS (K : PySem.W.Frag) : V → Option Int → Option Int → Hp → VK → Prop := fun x lo hi H Q => ∃ a xs, x = .ref a ∧ SqL K H a xs ∧ New H (.lst (cutV xs lo hi)) Q
theorem sl_listS : SlR X (rSlLS X.K) := fun pins s σ H x v vl vu lo hi sl Q I r hs h1 h2 ⟨a, xs, e, hS, q⟩ => sl_list pins s σ H x v vl vu lo hi sl Q I r hs h1 h2 ⟨a, xs, e, hS, q.at⟩
theorem cutV_take (xs : List V) (m : Nat) : cutV xs none (some (m : Int)) = xs.take m := by
  unfold cutV
  rw [HT.sIx_nat, HT.sIx_none, List.drop_zero, Nat.sub_zero, List.take_eq_take_iff]
  omega
end
end Tb

set_option Elab.async false
set_option linter.all false
set_option maxRecDepth 100000
namespace Tb
open PySem PySem.Spec PyProof.Rows L2
def topS (i : Nat) : Stmt := PySem.Challenge.pw_textboxes_k06_readers.main.body.getD i (.Pass ⟨0, 0, 0, 0⟩)
abbrev sSource : Stmt := topS 48
abbrev sDraw : Stmt := topS 49
abbrev sPick : Stmt := topS 50
abbrev sOrder : Stmt := topS 51
abbrev sName : Stmt := topS 52
abbrev sNames : Stmt := topS 53
abbrev sSigns : Stmt := topS 54
abbrev sPiece : Stmt := topS 55
abbrev sFill : Stmt := topS 56
abbrev sProgram : Stmt := topS 57
abbrev sMade : Stmt := topS 58
end Tb

set_option Elab.async false
set_option linter.all false
set_option maxRecDepth 100000
set_option maxHeartbeats 1000000
namespace Tb
open PySem PySem.Spec PyProof.Rows L2 TL
/-! ### the source of draws -/
/-- a list [great, seed, how many were drawn], of at most n draws -/
def SrcO (n : Nat) (o : HO) : Prop := ∃ g s c : Int, o = .lst [.int g, .int s, .int c] ∧ 0 ≤ g ∧ 0 ≤ s ∧ s < 2147483647 ∧ 0 ≤ c ∧ c ≤ n
/-- all but the source stands -/
def But (p : Addr) (H H' : Hp) : Prop := ∀ b o, H b = some o → b ≠ p → H' b = some o
theorem But.refl (p : Addr) (H : Hp) : But p H H := fun _ _ h _ => h
theorem But.trans {p : Addr} {H H1 H2 : Hp} (a : But p H H1) (b : But p H1 H2) : But p H H2 := fun c o h n => b c o (a c o h n) n
theorem But.upd (p : Addr) (H : Hp) (o : HO) : But p H (upd H p o) := fun b u h n => by
  rw [upd_ne n]
  exact h
theorem Same.but {H H' : Hp} (s : Same H H') (p : Addr) : But p H H' := fun b o h _ => s b o h
theorem But.seq {K : PySem.W.Frag} {p a : Addr} {H H' : Hp} {xs : List V} (e : But p H H') (n : a ≠ p) (h : SqL K H a xs) : SqL K H' a xs := by
  rcases h with (h | ⟨o, h⟩) | h
  · exact .inl (.inl (e _ _ h n))
  · exact .inl (.inr ⟨o, e _ _ h n⟩)
  · exact .inr h
theorem But.free {p : Addr} {H H' : Hp} (e : But p H H') {l : Addr} {o : HO} (hp : H' p = some o) (h : H' l = none) : H l = none := by
  cases q : H l with
  | none => rfl
  | some u =>
    have n : l ≠ p := fun z => by
      rw [z, hp] at h
      cases h
    rw [e l u q n] at h
    cases h
/-- the source stands at p, at most n were drawn -/
def Src (H : Hp) (p : Addr) (n : Nat) : Prop := ∃ o, H p = some o ∧ SrcO n o
theorem SrcO.le {n m : Nat} {o : HO} (h : SrcO n o) (l : n ≤ m) : SrcO m o := by
  obtain ⟨g, s, c, e, a, b, d, f, k⟩ := h
  exact ⟨g, s, c, e, a, b, d, f, by omega⟩
theorem Src.le {H : Hp} {p : Addr} {n m : Nat} (h : Src H p n) (l : n ≤ m) : Src H p m := by
  obtain ⟨o, e, h⟩ := h
  exact ⟨o, e, h.le l⟩
theorem Src.same {H H' : Hp} {p : Addr} {n : Nat} (h : Src H p n) (s : Same H H') : Src H' p n := by
  obtain ⟨o, e, h⟩ := h
  exact ⟨o, s _ _ e, h⟩
section
variable {P : Program} {w : World} {K : PySem.W.Frag} {mg : Str → Option Value} {base : Heap}
theorem scSource : FnScope ["_law_script", "_law_great", "_law_seed", "_law_cell"] ["_law_script"] (defScope sSource) := ⟨rfl, rfl, rfl, by decide +kernel, rfl, by decide +kernel, by decide +kernel⟩
def spSource (K : PySem.W.Frag) : Sp := fun vs H Q _ => ∃ (a : Addr) (ns : List Int), vs = [.ref a] ∧ SqL K H a (ns.map V.int) ∧ ∀ p o H', Same H H' → H p = none → H' p = some o → SrcO 0 o → Q (.ref p) H'
theorem ok_source {f : Addr} {fd : FuncData} {k : Nat} (F : Fun K "_law_source" "_law_source" sSource f fd) (mi : mg "int" = none) : FnOk P w K mg base CX0 (k + 1) f fd ["_law_script"] (spSource K) := by
  refine F.ok scSource (fun vs H Q E h => ?_) (fun cdv A outer s H vs Q E hr h => ?_)
  · obtain ⟨a, ns, rfl, _⟩ := h
    rfl
  · obtain ⟨a, ns, rfl, hS, q⟩ := h
    refine ⟨_, pss_cons (ps_asg (pe_tup (pa_cons pe_int (pa_cons pe_int pa_nil))) (pg_tup (by rfl) (pgs_cons (pg_name (i := 1) scSource.nd rfl (.inl rfl)) (pgs_cons (pg_name (i := 2) scSource.nd rfl (.inl rfl)) pgs_nil))))
      (pss_cons (ps_for PassesOwn.never rfl (pi_list (pv 0)) (pg_name (i := 3) scSource.nd rfl (.inl rfl))
        (pss_cons (ps_if (PW.pt (pw_and (pt_cmpR op_eq (pv 1) pe_int (nomark _)) (pw_and1 (pt_cmpR op_ge (pv 3) (pe_op op_pow pe_int pe_int) (nomark _))))) (pss_one (ps_set (i := 1) scSource.nd rfl (.inl rfl) (pv 3))) pss_nil)
        (pss_one (ps_set (i := 2) scSource.nd rfl (.inl rfl) (pe_op op_mod (pe_callTy call_int1 (by rfl) mi (by decide +kernel) (pa_cons (pe_op op_add (pe_op op_add (pe_op op_mul (pv 2) pe_int) (pv 3)) pe_int) pa_nil)) pe_int)))))
      (pss_one (ps_ret (pe_lst (pa_cons (pv 1) (pa_cons (pv 2) (pa_cons pe_int pa_nil))))))), ?_⟩
    refine ⟨by show 2 ≤ sizeLine; decide, fun tp ntp => ⟨tp, _, rfl, .inl (.inl upd_same), rfl, _, _, rfl, _, _, rfl, rfl, ?_⟩⟩
    have s1 : Same H (upd H tp (.tup [.int 0, .int 17])) := same_upd ntp
    generalize upd H tp (.tup [.int 0, .int 17]) = H1 at s1
    refine ⟨_, rfl, a, rfl, ⟨_, s1.seq hS⟩, for_list (K := K) (a := a) (xs := ns.map V.int) (fun i σ H2 => H2 = H1 ∧ ∃ (g s : Int) (v : Option V), σ = [some (.ref a), some (.int g), some (.int s), v] ∧ 0 ≤ g ∧ 0 ≤ s ∧ s < 2147483647) ⟨rfl, 0, 17, none, rfl, by decide, by decide, by decide⟩ (fun i σ H2 _ z => by rw [z.1]; exact s1.seq hS) ?_ ?_⟩
    · rintro i y σ H2 hi ⟨rfl, g, sd, v, rfl, g0, s0, s2⟩
      obtain ⟨z, rfl⟩ : ∃ z, y = V.int z := by
        rw [List.getElem?_map] at hi
        cases e : ns[i]? with
        | none =>
          rw [e] at hi
          cases hi
        | some z =>
          rw [e] at hi
          exact ⟨z, (Option.some.inj hi).symm⟩
      have fin : ∀ g' : Int, 0 ≤ g' → tAsg
        (tOp (rI (fun x j => 0 < j) fun i j => V.int (i % j))
          (tCB (fun xs H Q => (∃ i, xs = [V.int i] ∧ Q (V.int i) H) ∨ ∃ k, xs = [V.bl k] ∧ Q (V.int (if k = true then 1 else 0)) H)
            (tCons (tOp (rI0 fun i j => V.int (i + j)) (tOp (rI0 fun i j => V.int (i + j)) (tOp (rI CMul fun i j => V.int (i * j)) (tVar 2) (tC (V.int 31))) (tVar 3)) (tC (V.int 7))) tNil))
          (tC (V.int 2147483647))) (gName 2) { nx := fun σ H3 => H3 = H2 ∧ ∃ g s v, σ = [some (V.ref a), some (V.int g), some (V.int s), v] ∧ 0 ≤ g ∧ 0 ≤ s ∧ s < 2147483647, rt := Q } [some (.ref a), some (.int g'), some (.int sd), some (.int z)] H2 := fun g' hg => by
        refine ⟨_, rfl, _, _, rfl, rfl, .inl ⟨by omega, by omega⟩, _, rfl, _, _, rfl, rfl, _, _, rfl, rfl, .inl ⟨_, rfl, ?_⟩⟩
        exact ⟨_, _, rfl, rfl, by show (0 : Int) < 2147483647; decide, rfl, g', _, some (.int z), rfl, hg, Int.emod_nonneg _ (by decide), Int.emod_lt_of_pos _ (by decide)⟩
      refine ⟨_, rfl, rfl, _, rfl, ite2 (fun e0 => ?_) (fun e0 => ?_)⟩
      · refine ⟨_, rfl, _, _, rfl, rfl, ⟨by decide, by decide, by decide⟩, _, _, rfl, rfl, _, rfl, ite2 (fun e1 => ?_) (fun e1 => fin g g0)⟩
        have hz : (10 : Int) ^ (18 : Int).toNat ≤ z := of_decide_eq_true e1
        have h10 : (0 : Int) ≤ (10 : Int) ^ (18 : Int).toNat := by decide
        exact ⟨_, rfl, fin z (by omega)⟩
      · exact fin g g0
    · rintro σ H2 ⟨rfl, g, sd, v, rfl, g0, s0, s2⟩
      refine ⟨_, rfl, _, rfl, by show 3 ≤ sizeLine; decide, fun p np => ?_⟩
      exact q p _ _ (s1.trans (same_upd np)) (s1.free np) upd_same ⟨g, sd, 0, rfl, g0, s0, s2, by decide, by decide⟩
theorem scDraw : FnScope ["_law_source_here", "_law_many", "_law_digit", "_law_mixed"] ["_law_source_here", "_law_many"] (defScope sDraw) := ⟨rfl, rfl, rfl, by decide +kernel, rfl, by decide +kernel, by decide +kernel⟩
def spDraw : Sp := fun vs H Q _ => ∃ (p : Addr) (m : Int) (n : Nat) (o : HO), vs = [.ref p, .int m] ∧ H p = some o ∧ SrcO n o ∧ n < 1000000 ∧ 0 < m ∧ m < 1073741824 ∧ ∀ d o', 0 ≤ d → d < m → SrcO (n + 1) o' → Q (.int d) (upd H p o')
theorem ok_draw {f : Addr} {fd : FuncData} {k : Nat} (F : Fun K "_law_draw" "_law_draw" sDraw f fd) (mi : mg "int" = none) : FnOk P w K mg base CX0 (k + 1) f fd ["_law_source_here", "_law_many"] spDraw := by
  refine F.ok scDraw (fun vs H Q E h => ?_) (fun cdv A outer s H vs Q E hr h => ?_)
  · obtain ⟨p, m, n, o, rfl, _⟩ := h
    rfl
  · obtain ⟨p, m, n, o, rfl, hp, ⟨g, sd, c, rfl, g0, s0, s1, c0, c1⟩, hn, m0, m1, q⟩ := h
    refine ⟨_, pss_cons (ps_asg (pe_op op_add (pe_ix ix_list (pv 0) pe_int (fun _ _ => rfl)) pe_int) (pg_sub (pv 0) pe_int set_list))
      (pss_cons (ps_if (pt_cmpR op_gt (pe_ix ix_list (pv 0) pe_int (fun _ _ => rfl)) pe_int (nomark _))
        (pss_cons (ps_set (i := 2) scDraw.nd rfl (.inl rfl) (pe_op op_mod (pe_callTy call_int1 (by rfl) mi (by decide +kernel) (pa_cons (pe_ix ix_list (pv 0) pe_int (fun _ _ => rfl)) pa_nil)) (pv 1)))
        (pss_cons (ps_asg (pe_op op_fdiv (pe_ix ix_list (pv 0) pe_int (fun _ _ => rfl)) (pv 1)) (pg_sub (pv 0) pe_int set_list))
        (pss_one (ps_ret (pv 2))))) pss_nil)
      (pss_cons (ps_set (i := 3) scDraw.nd rfl (.inl rfl) (pe_op op_mod (pe_op op_pow (pe_op op_add (pe_ix ix_list (pv 0) pe_int (fun _ _ => rfl)) (pe_op op_mul pe_int (pe_ix ix_list (pv 0) pe_int (fun _ _ => rfl)))) pe_int) pe_int))
      (pss_one (ps_ret (pe_op op_mod (pe_op op_mod (pe_op op_pow (pe_op op_add (pe_op op_add (pe_op op_mul (pv 3) pe_int) (pe_op op_mul (pe_op op_mul pe_int (pe_ix ix_list (pv 0) pe_int (fun _ _ => rfl))) (pe_ix ix_list (pv 0) pe_int (fun _ _ => rfl)))) pe_int) pe_int) pe_int) (pv 1)))))), ?_⟩
    -- one more was drawn
    refine ⟨_, rfl, p, _, _, _, rfl, rfl, SqL.of hp, atI_nat (j := 2) rfl, _, _, rfl, rfl, _, rfl, p, _, _, 2, rfl, rfl, hp, rfl, ?_⟩
    have h1 : (upd H p (.lst ([V.int g, .int sd, .int c].set 2 (.int (c + 1))))) p = some (.lst [V.int g, .int sd, .int (c + 1)]) := upd_same
    -- a great number gives its digits
    refine ⟨_, rfl, p, _, _, _, rfl, rfl, SqL.of h1, atI_nat (j := 0) rfl, _, _, rfl, rfl, _, rfl, ite2 (fun e0 => ?_) (fun e0 => ?_)⟩
    · have hg : (1 : Int) < g := of_decide_eq_true e0
      refine ⟨_, rfl, p, _, _, _, rfl, rfl, SqL.of h1, atI_nat (j := 0) rfl, .inl ⟨_, rfl, _, rfl, _, _, rfl, rfl, m0, ?_⟩⟩
      refine ⟨_, rfl, p, _, _, _, rfl, rfl, SqL.of h1, atI_nat (j := 0) rfl, _, rfl, _, _, rfl, rfl, ⟨m0, m1⟩, _, rfl, p, _, _, 0, rfl, rfl, h1, rfl, ?_⟩
      refine ⟨_, rfl, ?_⟩
      rw [upd_upd]
      exact q _ _ (Int.emod_nonneg _ (by omega)) (Int.emod_lt_of_pos _ m0) ⟨g / m, sd, c + 1, rfl, Int.ediv_nonneg g0 (by omega), s0, s1, by omega, by omega⟩
    · refine ⟨_, rfl, p, _, _, _, rfl, rfl, SqL.of h1, atI_nat (j := 1) rfl, _, rfl, p, _, _, _, rfl, rfl, SqL.of h1, atI_nat (j := 2) rfl, _, _, rfl, rfl, .inl ⟨by omega, by omega⟩, _, _, rfl, rfl, _, _, rfl, rfl, ⟨by decide, by decide, by omega⟩, _, _, rfl, rfl, by show (0 : Int) < 2147483629; decide, ?_⟩
      have x0 : 0 ≤ (sd + 7919 * (c + 1)) ^ (5 : Int).toNat % 2147483629 := Int.emod_nonneg _ (by decide)
      have x1 : (sd + 7919 * (c + 1)) ^ (5 : Int).toNat % 2147483629 < 2147483629 := Int.emod_lt_of_pos _ (by decide)
      generalize (sd + 7919 * (c + 1)) ^ (5 : Int).toNat % 2147483629 = x at x0 x1
      have y0 : 0 ≤ (c + 1) * (c + 1) := Int.mul_nonneg (by omega) (by omega)
      have y1 : (c + 1) * (c + 1) ≤ 1000000 * 1000000 := Int.mul_le_mul (by omega) (by omega) (by omega) (by decide)
      have e : 16807 * (c + 1) * (c + 1) = 16807 * ((c + 1) * (c + 1)) := Int.mul_assoc _ _ _
      refine ⟨_, rfl, _, _, rfl, rfl, .inl ⟨by omega, by omega⟩, _, rfl, p, _, _, _, rfl, rfl, SqL.of h1, atI_nat (j := 2) rfl, _, _, rfl, rfl, .inl ⟨by decide, by decide⟩, _, rfl, p, _, _, _, rfl, rfl, SqL.of h1, atI_nat (j := 2) rfl, _, _, rfl, rfl, .inr ⟨by omega, by omega⟩, _, _, rfl, rfl, _, _, rfl, rfl, _, _, rfl, rfl, ⟨by decide, by decide, by omega⟩, _, _, rfl, rfl, by show (0 : Int) < 1000000007; decide, _, rfl, _, _, rfl, rfl, m0, ?_⟩
      exact q _ _ (Int.emod_nonneg _ (by omega)) (Int.emod_lt_of_pos _ m0) ⟨g, sd, c + 1, rfl, g0, s0, s1, by omega, by omega⟩
/-- a draw: a number below m -/
def spDrawS : Sp := fun vs H Q _ => ∃ (p : Addr) (m : Int) (n : Nat), vs = [.ref p, .int m] ∧ Src H p n ∧ n < 1000000 ∧ 0 < m ∧ m < 1073741824 ∧ ∀ (d : Nat) H', (d : Int) < m → But p H H' → Src H' p (n + 1) → Q (num d) H'
theorem draw_soft : ∀ vs H Q E, spDrawS vs H Q E → spDraw vs H Q E := by
  rintro vs H Q E ⟨p, m, n, rfl, ⟨o, hp, ho⟩, hn, m0, m1, q⟩
  refine ⟨p, m, n, o, rfl, hp, ho, hn, m0, m1, fun d o' d0 d1 ho' => ?_⟩
  have e : num d.toNat = .int d := congrArg V.int (Int.toNat_of_nonneg d0)
  rw [← e]
  exact q d.toNat _ (by omega) (But.upd p H o') ⟨o', upd_same, ho'⟩
theorem scPick : FnScope ["_law_source_here", "_law_things"] ["_law_source_here", "_law_things"] (defScope sPick) := ⟨rfl, rfl, rfl, by decide +kernel, rfl, by decide +kernel, by decide +kernel⟩
/-- one of a list's, or a text's, things -/
def spPick (K : PySem.W.Frag) : Sp := fun vs H Q _ => ∃ (p : Addr) (n : Nat), Src H p n ∧ n < 1000000 ∧
  ((∃ (t : Addr) (xs : List V), vs = [.ref p, .ref t] ∧ SqL K H t xs ∧ t ≠ p ∧ 0 < xs.length ∧ xs.length < 1073741824 ∧ ∀ x H', x ∈ xs → But p H H' → Src H' p (n + 1) → Q x H') ∨
   (∃ z : Str, vs = [.ref p, .str z] ∧ 0 < z.length ∧ z.length ≤ sizeLine ∧ z.length < 1073741824 ∧ ∀ c H', c ∈ z.cps.toList → But p H H' → Src H' p (n + 1) → Q (.str ⟨#[c]⟩) H'))
theorem ok_pick {f : Addr} {fd : FuncData} {k : Nat} (F : Fun K "_law_pick" "_law_pick" sPick f fd) (DD : Df P w K mg base (k + 1) "_law_draw" ["_law_source_here", "_law_many"] spDrawS) (ml : mg "len" = none) : FnOk P w K mg base CX0 (k + 2) f fd ["_law_source_here", "_law_things"] (spPick K) := by
  refine F.ok scPick (fun vs H Q E h => ?_) (fun cdv A outer s H vs Q E hr h => ?_)
  · obtain ⟨p, n, _, _, ⟨t, xs, rfl, _⟩ | ⟨z, rfl, _⟩⟩ := h
    · rfl
    · rfl
  · obtain ⟨p, n, hp, hn, ⟨t, xs, rfl, ht, ne, l0, l1, q⟩ | ⟨z, rfl, l0, lz, l1, q⟩⟩ := h
    · refine ⟨_, pss_one (ps_ret (pe_ix ix_list (pv 1) (pe_df DD hr (pa_cons (pv 0) (pa_cons (pe_callB call_lenS (by rfl) ml PySem.boot_len (pa_cons (pv 1) pa_nil)) pa_nil))) (fun _ _ => rfl))), ?_⟩
      refine ⟨_, rfl, _, rfl, _, rfl, t, xs, rfl, .inl ht, p, _, n, rfl, hp, hn, by omega, by omega, fun d H' d1 b' s' => ?_⟩
      have hd : d < xs.length := by omega
      exact ⟨t, xs, d, xs[d], rfl, rfl, b'.seq ne ht, atI_nat (List.getElem?_eq_getElem hd), q _ _ (List.getElem_mem hd) b' s'⟩
    · refine ⟨_, pss_one (ps_ret (pe_ix ix_str (pv 1) (pe_df DD hr (pa_cons (pv 0) (pa_cons (pe_callB call_len_str (by rfl) ml PySem.boot_len (pa_cons (pv 1) pa_nil)) pa_nil))) (fun _ _ => rfl))), ?_⟩
      refine ⟨_, rfl, _, rfl, _, rfl, z, rfl, lz, p, _, n, rfl, hp, hn, by omega, by omega, fun d H' d1 b' s' => ?_⟩
      have hd : d < z.cps.toList.length := by
        rw [Array.length_toList]
        have e : z.length = z.cps.size := rfl
        omega
      exact ⟨z, d, z.cps.toList[d], rfl, rfl, lz, atI_nat (List.getElem?_eq_getElem hd), q _ _ (List.getElem_mem hd) b' s'⟩
end
end Tb

set_option Elab.async false
set_option linter.all false
set_option maxRecDepth 100000
set_option maxHeartbeats 1000000
namespace Tb
open PySem PySem.Spec PyProof.Rows L2 TL
theorem erase_map {α β : Type} (f : α → β) : ∀ (xs : List α) (i : Nat), (xs.eraseIdx i).map f = (xs.map f).eraseIdx i
  | [], _ => rfl
  | _ :: _, 0 => rfl
  | x :: xs, i + 1 => congrArg (f x :: ·) (erase_map f xs i)
theorem erase_perm {α : Type} : ∀ (xs : List α) (i : Nat) (h : i < xs.length), (xs[i] :: xs.eraseIdx i).Perm xs
  | x :: xs, 0, _ => List.Perm.refl _
  | x :: xs, i + 1, h => by
    have h' : i < xs.length := Nat.lt_of_succ_lt_succ h
    have ih := erase_perm xs i h'
    show (xs[i] :: x :: xs.eraseIdx i).Perm (x :: xs)
    exact (List.Perm.swap _ _ _).trans (ih.cons x)
section
variable {P : Program} {w : World} {K : PySem.W.Frag} {mg : Str → Option Value} {base : Heap}
theorem scOrder : FnScope ["_law_source_here", "_law_many", "_law_left", "_law_k"] ["_law_source_here", "_law_many"] (defScope sOrder) := ⟨rfl, rfl, rfl, by decide +kernel, rfl, by decide +kernel, by decide +kernel⟩
/-- the numbers below m in some order -/
def spOrder : Sp := fun vs H Q _ => ∃ (p : Addr) (m n : Nat), vs = [.ref p, num m] ∧ Src H p n ∧ n + m < 1000000 ∧ m ≤ 1000 ∧
  ∀ q H' (ks : List Nat), But p H H' → Src H' p (n + m) → H q = none → H' q = some (.lst (ks.map num)) → ks.Perm (List.range m) → Q (.ref q) H'
theorem ok_order {f : Addr} {fd : FuncData} {k : Nat} (F : Fun K "_law_order" "_law_order" sOrder f fd) (DD : Df P w K mg base (k + 1) "_law_draw" ["_law_source_here", "_law_many"] spDrawS)
    (ml : mg "len" = none) (mt : mg "list" = none) (mr : mg "range" = none) : FnOk P w K mg base CX0 (k + 2) f fd ["_law_source_here", "_law_many"] spOrder := by
  refine F.ok scOrder (fun vs H Q E h => ?_) (fun cdv A outer s H vs Q E hr h => ?_)
  · obtain ⟨p, m, n, rfl, _⟩ := h
    rfl
  · obtain ⟨p, m, n, rfl, hp, hn, hm, q⟩ := h
    refine ⟨_, pss_cons (ps_set (i := 2) scOrder.nd rfl (.inr rfl) (pe_listN rfl (by rfl) mt (by rfl) mr (pv 1)))
      (pss_one (ps_ret (pe_lc (own := [("_law_k", 3)]) (g := gName 3) (tt := tYes) (te := tBM K "list" rPopAt (tVar 2) (tCons (tCall spDrawS [] E0 (tCons (tVar 0) (tCons (tCB (rLen K) (tCons (tVar 2) tNil)) tNil))) tNil)) rfl scOrder.nd (pi_range1 rfl mr (pa_cons (pv 1) pa_nil)) (blkOk_by (own := [("_law_k", 3)]) (N := ["_law_source_here", "_law_many", "_law_left", "_law_k"]) (sc := defScope sOrder) (by decide +kernel))
        (fun _ _ _ _ _ => pg_name (i := 3) scOrder.nd rfl (.inl rfl)) (fun _ _ _ _ _ => pts_nil)
        (fun _ _ _ _ _ => pe_bm PySem.F.plainAttrs_list PySem.F.slot_list_pop PySem.F.type_list_pop mt_popAt (pv 2) (pa_cons (pe_df DD hr (pa_cons (pv 0) (pa_cons (pe_callB call_lenS (by rfl) ml PySem.boot_len (pa_cons (pv 2) pa_nil)) pa_nil))) pa_nil))))), ?_⟩
    refine ⟨_, rfl, m, rfl, by omega, fun L H1 s1 nL e1 => ?_⟩
    have hp1 := hp.same s1
    refine ⟨_, rfl, m, rfl, by omega, by omega, fun D nD => lc_range (lo := 0) (n := (m : Int).toNat) (fun i H' => ∃ ks left : List Nat, Src H' p (n + i) ∧ H' L = some (.lst (left.map num)) ∧ H' D = some (.lst (ks.map num)) ∧ (ks ++ left).Perm (List.range m) ∧ ks.length = i ∧ But p H H') ?_ ?_ ?_⟩
    · refine ⟨[], List.range m, hp1.same (same_upd nD), same_upd nD _ _ e1, upd_same, List.Perm.refl _, rfl, Same.but (s1.trans (same_upd nD)) p⟩
    · rintro i H2 hi ⟨ks, left, hs, hL, hD, hpm, hk, hb⟩
      have hl : left.length = m - i := by
        have e := hpm.length_eq
        rw [List.length_append, List.length_range] at e
        omega
      have hi' : i < m := by omega
      refine ⟨rfl, tYes_if ?_⟩
      refine ⟨_, rfl, .inl ⟨rfl, _, SqL.of hL⟩, _, rfl, _, rfl, L, _, rfl, .inl (SqL.of hL), p, _, n + i, rfl, hs, by omega, by rw [List.length_map]; omega, by rw [List.length_map]; omega, fun d H3 hd hb3 hs3 => ?_⟩
      have hd' : d < left.length := by
        rw [List.length_map] at hd
        omega
      have nLp : L ≠ p := fun z => by
        obtain ⟨o, e, _⟩ := hp
        rw [z, e] at nL
        cases nL
      have nDL : D ≠ L := fun z => by
        rw [z, e1] at nD
        cases nD
      have nDp : D ≠ p := fun z => by
        obtain ⟨o, e, _⟩ := hp1
        rw [z, e] at nD
        cases nD
      refine ⟨L, _, d, d, num left[d], rfl, rfl, hb3 _ _ hL nLp, by omega, by omega, seqIndex_of (by omega) (by rw [List.length_map]; omega), by rw [List.getElem?_map, List.getElem?_eq_getElem hd']; rfl, ?_⟩
      refine ⟨ks.map num, by rw [upd_ne nDL]; exact hb3 _ _ hD nDp, by rw [List.length_map]; exact small1000 (by omega), ks ++ [left[d]], left.eraseIdx d, ?_, ?_, ?_, ?_, ?_, ?_⟩
      · obtain ⟨o, e, h⟩ := hs3
        exact ⟨o, by rw [upd_ne nDp.symm, upd_ne nLp.symm]; exact e, by rw [Nat.add_assoc] at h; exact h⟩
      · rw [upd_ne nDL.symm, upd_same, erase_map]
      · rw [upd_same, List.map_append]
        rfl
      · rw [List.append_assoc]
        exact (((erase_perm left d hd').append_left ks)).trans hpm
      · rw [List.length_append, hk]
        rfl
      · intro b o e ne
        have nb1 : b ≠ L := ne_of_none e nL
        have nb2 : b ≠ D := ne_of_none (s1 _ _ e) nD
        rw [upd_ne nb2, upd_ne nb1]
        exact hb3 _ _ (hb _ _ e ne) ne
    · rintro H2 ⟨ks, left, hs, hL, hD, hpm, hk, hb⟩
      have hl : left = [] := by
        have e := hpm.length_eq
        rw [List.length_append, List.length_range] at e
        exact List.eq_nil_of_length_eq_zero (by omega)
      subst hl
      rw [List.append_nil] at hpm
      exact q D H2 ks hb (by have e : (m : Int).toNat = m := by omega
                             rw [e] at hs
                             exact hs) (s1.free nD) hD hpm
end
end Tb

set_option Elab.async false
set_option linter.all false
set_option maxRecDepth 100000
set_option maxHeartbeats 1000000
namespace Tb
open PySem PySem.Spec PyProof.Rows L2 TL
section
variable {P : Program} {w : World} {K : PySem.W.Frag} {mg : Str → Option Value} {base : Heap}
theorem scSigns : FnScope ["_law_source_here", "_law_signs_here", "_law_many", "_law_k"] ["_law_source_here", "_law_signs_here", "_law_many"] (defScope sSigns) := ⟨rfl, rfl, rfl, by decide +kernel, rfl, by decide +kernel, by decide +kernel⟩
/-- so many of the signs, in some order -/
def spSigns : Sp := fun vs H Q _ => ∃ (p : Addr) (n m : Nat) (zs : List Nat), vs = [.ref p, .str (S zs), num m] ∧ Src H p n ∧ n + zs.length < 1000000 ∧ zs.length ≤ 1000 ∧
  ∀ H' (all : List Nat), But p H H' → Src H' p (n + zs.length) → all.Perm zs → Q (.str (S (all.take m))) H'
theorem ok_signs {f : Addr} {fd : FuncData} {k : Nat} (F : Fun K "_law_signs" "_law_signs" sSigns f fd) (DO : Df P w K mg base (k + 1) "_law_order" ["_law_source_here", "_law_many"] spOrder) (ml : mg "len" = none) : FnOk P w K mg base CX0 (k + 2) f fd ["_law_source_here", "_law_signs_here", "_law_many"] spSigns := by
  refine F.ok scSigns (fun vs H Q E h => ?_) (fun cdv A outer s H vs Q E hr h => ?_)
  · obtain ⟨p, n, m, zs, rfl, _⟩ := h
    rfl
  · obtain ⟨p, n, m, zs, rfl, hp, hn, hz, q⟩ := h
    refine ⟨_, pss_one (ps_ret (pe_join pe_str (pe_slice sl_listS (pe_lc (own := [("_law_k", 3)]) (g := gName 3) (tt := tYes) (te := tOp rIxS (tVar 1) (tVar 3)) rfl scSigns.nd
        (pi_list (pe_df DO hr (pa_cons (pv 0) (pa_cons (pe_callB call_len_str (by rfl) ml PySem.boot_len (pa_cons (pv 1) pa_nil)) pa_nil)))) (blkOk_by (own := [("_law_k", 3)]) (N := ["_law_source_here", "_law_signs_here", "_law_many", "_law_k"]) (sc := defScope sSigns) (by decide +kernel))
        (fun _ _ _ _ _ => pg_name (i := 3) scSigns.nd rfl (.inl rfl)) (fun _ _ _ _ _ => pts_nil) (fun _ _ _ _ _ => pe_ix ix_str (pv 1) (pv 3) (fun _ _ => rfl))) po_none (po_some (pv 2))))), ?_⟩
    have lz : (S zs).length ≤ sizeLine := by
      rw [len_S]
      exact Nat.le_of_lt (small1000 hz)
    have hzl : ((S zs).length : Int) = (zs.length : Int) := by rw [len_S]
    refine ⟨⟨_, rfl⟩, _, rfl, _, rfl, _, rfl, lz, p, zs.length, n, by rw [hzl]; rfl, hp, hn, hz, fun a H1 ks hb1 hs1 na e1 hperm => ⟨a, rfl, ⟨_, SqL.of e1⟩, fun D nD => ?_⟩⟩
    refine lc_mapL (fun v => match v with | .int i => .str (S [zs.getD i.toNat 0]) | _ => .non) (SqL.of e1) nD ?_ ?_ ?_
    · rw [List.length_map, hperm.length_eq, List.length_range]
      exact small1000 hz
    · intro x hx H' R _ r
      obtain ⟨i, hi, rfl⟩ := List.mem_map.mp hx
      have hi' : i < zs.length := List.mem_range.mp (hperm.mem_iff.mp hi)
      refine ⟨_, rfl, _, rfl, S zs, (i : Int), zs[i], rfl, rfl, lz, atI_nat (List.getElem?_eq_getElem hi'), ?_⟩
      have e : zs.getD ((i : Int)).toNat 0 = zs[i] := by
        rw [Int.toNat_natCast, List.getD_eq_getElem?_getD, List.getElem?_eq_getElem hi']
        rfl
      have r' : R (.str (S [zs.getD ((i : Int)).toNat 0])) H' := r
      rw [e] at r'
      exact r'
    · intro H2 s2 e2
      refine ⟨_, rfl, m, rfl, D, _, rfl, SqL.of e2, fun T H3 s3 nT e3 => ?_⟩
      rw [cutV_take, List.map_map, ← List.map_take] at e3
      have e4 : (ks.take m).map ((fun v => match v with | V.int i => V.str (S [zs.getD i.toNat 0]) | _ => .non) ∘ num) = (((ks.map fun i => zs.getD i 0).take m).map fun c => S [c]).map V.str := by
        rw [← List.map_take, List.map_map, List.map_map]
        rfl
      rw [e4] at e3
      refine ⟨_, T, _, rfl, rfl, .inl (SqL.of e3), ?_, ?_⟩
      · rw [sum_ones, str_empty]
        have : (((ks.map fun i => zs.getD i 0).take m).map fun c => S [c]).length ≤ 1000 := by
          rw [List.length_map, List.length_take, List.length_map, hperm.length_eq, List.length_range]
          omega
        rw [List.length_map] at this
        rw [len_S]
        show _ + _ * 0 ≤ _
        omega
      · rw [str_empty, join_signs]
        have hall : (ks.map fun i => zs.getD i 0).Perm zs := by
          have h1 := hperm.map fun i => zs.getD i 0
          have h2 : (List.range zs.length).map (fun i => zs.getD i 0) = zs := by
            refine List.ext_getElem (by simp) fun i h1 h2 => ?_
            rw [List.getElem_map, List.getElem_range, List.getD_eq_getElem?_getD, List.getElem?_eq_getElem h2]
            rfl
          rw [h2] at h1
          exact h1
        exact q H3 _ (hb1.trans (Same.but (s2.trans s3) p)) ((hs1.same s2).same s3) hall
end
end Tb

set_option Elab.async false
set_option linter.all false
set_option maxRecDepth 100000
set_option maxHeartbeats 1000000
namespace Tb
open PySem PySem.Spec PyProof.Rows L2 TL
theorem ne_src {H : Hp} {p q : Addr} {n : Nat} (h : Src H p n) (hq : H q = none) : q ≠ p := fun z => by
  obtain ⟨o, e, _⟩ := h
  rw [z, e] at hq
  cases hq
theorem Src.at {H H' : Hp} {p : Addr} {n : Nat} (h : Src H p n) (e : H' p = H p) : Src H' p n := by
  obtain ⟨o, k, h⟩ := h
  exact ⟨o, e.trans k, h⟩
section
variable {P : Program} {w : World} {K : PySem.W.Frag} {mg : Str → Option Value} {base : Heap}
theorem scPiece : FnScope ["_law_source_here", "_law_out", "_law_size", "_law_k"] ["_law_source_here", "_law_out"] (defScope sPiece) := ⟨rfl, rfl, rfl, by decide +kernel, rfl, by decide +kernel, by decide +kernel⟩
/-- a short text of these signs -/
def spPiece : Sp := fun vs H Q _ => ∃ (p : Addr) (n : Nat) (zs : List Nat), vs = [.ref p, .str (S zs)] ∧ Src H p n ∧ n + 4 < 1000000 ∧ 0 < zs.length ∧ zs.length ≤ 1000 ∧
  ∀ H' (cs : List Nat), But p H H' → Src H' p (n + 4) → cs.length ≤ 3 → (∀ c ∈ cs, c ∈ zs) → Q (.str (S cs)) H'
def sizes9 : List Nat := [0, 0, 0, 0, 1, 1, 1, 2, 3]
theorem ok_piece {f : Addr} {fd : FuncData} {k : Nat} (F : Fun K "_law_piece" "_law_piece" sPiece f fd) (DD : Df P w K mg base (k + 1) "_law_draw" ["_law_source_here", "_law_many"] spDrawS) (DP : Df P w K mg base (k + 2) "_law_pick" ["_law_source_here", "_law_things"] (spPick K)) (mr : mg "range" = none) : FnOk P w K mg base CX0 (k + 3) f fd ["_law_source_here", "_law_out"] spPiece := by
  refine F.ok scPiece (fun vs H Q E h => ?_) (fun cdv A outer s H vs Q E hr h => ?_)
  · obtain ⟨p, n, zs, rfl, _⟩ := h
    rfl
  · obtain ⟨p, n, zs, rfl, hp, hn, z0, hz, q⟩ := h
    refine ⟨_, pss_cons (ps_set (i := 2) scPiece.nd rfl (.inl rfl) (pe_ix ix_list (pe_lstS (pa_cons pe_int (pa_cons pe_int (pa_cons pe_int (pa_cons pe_int (pa_cons pe_int (pa_cons pe_int (pa_cons pe_int (pa_cons pe_int (pa_cons pe_int pa_nil)))))))))) (pe_df DD hr (pa_cons (pv 0) (pa_cons pe_int pa_nil))) (fun _ _ => rfl)))
      (pss_one (ps_ret (pe_join pe_str (pe_lc (own := [("_law_k", 3)]) (g := gName 3) (tt := tYes) (te := tCall (spPick K) [] E0 (tCons (tVar 0) (tCons (tVar 1) tNil))) rfl scPiece.nd
        (pi_range1 rfl mr (pa_cons (pv 2) pa_nil)) (blkOk_by (own := [("_law_k", 3)]) (N := ["_law_source_here", "_law_out", "_law_size", "_law_k"]) (sc := defScope sPiece) (by decide +kernel))
        (fun _ _ _ _ _ => pg_name (i := 3) scPiece.nd rfl (.inl rfl)) (fun _ _ _ _ _ => pts_nil) (fun _ _ _ _ _ => pe_df DP hr (pa_cons (pv 0) (pa_cons (pv 1) pa_nil))))))), ?_⟩
    refine ⟨by show 9 ≤ sizeLine; decide, fun L H1 s1 nL e1 => ⟨_, rfl, p, 9, n, rfl, hp.same s1, by omega, by decide, by decide, fun d H2 hd hb2 hs2 => ?_⟩⟩
    have nLp := ne_src hp nL
    have e2 : H2 L = some (.lst (sizes9.map num)) := hb2 _ _ e1 nLp
    have hd9 : d < 9 := by omega
    obtain ⟨m, em, hm⟩ : ∃ m : Nat, sizes9[d]? = some m ∧ m ≤ 3 := by
      refine ⟨sizes9[d]'hd9, List.getElem?_eq_getElem hd9, ?_⟩
      have : ∀ i (h : i < 9), sizes9[i]'h ≤ 3 := by decide
      exact this d hd9
    refine ⟨L, _, d, num m, rfl, rfl, SqL.of e2, atI_nat (by rw [List.getElem?_map, em]; rfl), ?_⟩
    refine ⟨⟨_, rfl⟩, _, rfl, m, rfl, by omega, by omega, fun D nD => ?_⟩
    have hb12 := But.trans (Same.but s1 p) hb2
    have nDp := ne_src hs2 nD
    refine lc_range (lo := 0) (n := (m : Int).toNat) (fun i H' => ∃ cs : List Nat, Src H' p (n + 1 + i) ∧ H' D = some (.lst (cs.map fun c => .str (S [c]))) ∧ cs.length = i ∧ (∀ c ∈ cs, c ∈ zs) ∧ But p H H') ?_ ?_ ?_
    · exact ⟨[], hs2.same (same_upd nD), upd_same, rfl, fun c hc => (nomatch hc), hb12.trans (Same.but (same_upd nD) p)⟩
    · rintro i H3 hi ⟨cs, hs3, eD, hl, hc, hb3⟩
      have hi' : i < m := by omega
      refine ⟨rfl, tYes_if ?_⟩
      refine ⟨_, rfl, _, rfl, p, n + 1 + i, hs3, by omega, .inr ⟨S zs, rfl, by rw [len_S]; exact z0, by rw [len_S]; exact Nat.le_of_lt (small1000 hz), by rw [len_S]; omega, fun c H4 hcm hb4 hs4 => ?_⟩⟩
      refine ⟨_, hb4 _ _ eD nDp, by rw [List.length_map]; exact small1000 (by omega), cs ++ [c], hs4.at (upd_ne nDp.symm), ?_, ?_, ?_, ?_⟩
      · rw [upd_same, List.map_append]
        rfl
      · rw [List.length_append, hl]
        rfl
      · intro x hx
        rcases List.mem_append.mp hx with h | h
        · exact hc x h
        · rw [List.mem_singleton.mp h]
          exact hcm
      · intro b o e ne
        have nb : b ≠ D := by
          intro z
          have e' := hb12 _ _ e ne
          rw [z, nD] at e'
          cases e'
        rw [upd_ne nb]
        exact hb4 _ _ (hb3 _ _ e ne) ne
    · rintro H3 ⟨cs, hs3, eD, hl, hc, hb3⟩
      have hl' : cs.length ≤ 3 := by omega
      refine ⟨_, D, cs.map fun c => S [c], rfl, rfl, .inl (SqL.of (by rw [eD, List.map_map]; rfl)), ?_, ?_⟩
      · rw [sum_ones, str_empty, len_S]
        show _ + _ * 0 ≤ _
        omega
      · rw [str_empty, join_signs]
        exact q H3 cs hb3 (hs3.le (by omega)) hl' hc
end
end Tb

set_option Elab.async false
set_option linter.all false
set_option maxRecDepth 100000
set_option maxHeartbeats 2000000
namespace Tb
open PySem PySem.Spec PyProof.Rows L2 TL
/-- the signs of a name -/
def NameL (cs : List Nat) : Prop := 1 ≤ cs.length ∧ cs.length ≤ 8 ∧ ∀ c ∈ cs, 97 ≤ c ∧ c ≤ 122
def az : List Nat := (List.range 26).map (97 + ·)
theorem az_str : Str.ofString "abcdefghijklmnopqrstuvwxyz" = S az := by decide +kernel
theorem az_mem {c : Nat} : c ∈ az ↔ 97 ≤ c ∧ c ≤ 122 := by
  unfold az
  rw [List.mem_map]
  constructor
  · rintro ⟨i, hi, rfl⟩
    have := List.mem_range.mp hi
    omega
  · rintro ⟨h1, h2⟩
    exact ⟨c - 97, List.mem_range.mpr (by omega), by omega⟩
theorem az_len : az.length = 26 := by decide
def words6 (r : List Nat) : List (List Nat) := [[112, 108, 97, 99, 101], [98, 111, 120, 101, 115], [108, 101, 116, 116, 101, 114, 115], [111, 110], [114, 101, 102, 117, 115, 101], 113 :: r]
theorem words6_str (r : List Nat) : (words6 r).map (fun y => V.str (S y)) = [.str (Str.ofString "place"), .str (Str.ofString "boxes"), .str (Str.ofString "letters"), .str (Str.ofString "on"), .str (Str.ofString "refuse"), .str (S (113 :: r))] := by
  have h1 : Str.ofString "place" = S [112, 108, 97, 99, 101] := by decide +kernel
  have h2 : Str.ofString "boxes" = S [98, 111, 120, 101, 115] := by decide +kernel
  have h3 : Str.ofString "letters" = S [108, 101, 116, 116, 101, 114, 115] := by decide +kernel
  have h4 : Str.ofString "on" = S [111, 110] := by decide +kernel
  have h5 : Str.ofString "refuse" = S [114, 101, 102, 117, 115, 101] := by decide +kernel
  rw [h1, h2, h3, h4, h5]
  rfl
theorem words6_name {r w : List Nat} (hr : r.length ≤ 7) (h : ∀ c ∈ r, 97 ≤ c ∧ c ≤ 122) (hw : w ∈ words6 r) : NameL w := by
  simp only [words6, List.mem_cons, List.not_mem_nil, or_false] at hw
  have lit : ∀ l : List Nat, 1 ≤ l.length → l.length ≤ 8 → (l.all fun c => decide (97 ≤ c ∧ c ≤ 122)) = true → NameL l := fun l a b c => ⟨a, b, fun x hx => of_decide_eq_true (List.all_eq_true.mp c x hx)⟩
  rcases hw with rfl | rfl | rfl | rfl | rfl | rfl
  · exact lit _ (by decide) (by decide) (by decide)
  · exact lit _ (by decide) (by decide) (by decide)
  · exact lit _ (by decide) (by decide) (by decide)
  · exact lit _ (by decide) (by decide) (by decide)
  · exact lit _ (by decide) (by decide) (by decide)
  · refine ⟨by rw [List.length_cons]; omega, by rw [List.length_cons]; omega, fun c hc => ?_⟩
    rcases List.mem_cons.mp hc with rfl | hc
    · omega
    · exact h c hc
def sizes13 : List Nat := [8, 4, 5, 6, 7, 1, 2, 3, 1, 2, 3, 1, 2]
section
variable {P : Program} {w : World} {K : PySem.W.Frag} {mg : Str → Option Value} {base : Heap}
theorem scName : FnScope ["_law_source_here", "_law_taken", "_law_size", "_law_name_here", "_law_k", "_law_one", "_law_sign"] ["_law_source_here", "_law_taken"] (defScope sName) := ⟨rfl, rfl, rfl, by decide +kernel, rfl, by decide +kernel, by decide +kernel⟩
abbrev nName : List Str := ["_law_source_here", "_law_taken", "_law_size", "_law_name_here", "_law_k", "_law_one", "_law_sign"]
/-- a name that is not taken -/
def spName (K : PySem.W.Frag) : Sp := fun vs H Q _ => ∃ (p t : Addr) (n : Nat) (taken : List (List Nat)), vs = [.ref p, .ref t] ∧ Src H p n ∧ n + 10 < 1000000 ∧ SqL K H t (taken.map fun y => .str (S y)) ∧ t ≠ p ∧ taken.length ≤ 25 ∧
  ∀ H' (cs : List Nat), But p H H' → Src H' p (n + 10) → NameL cs → cs ∉ taken → Q (.str (S cs)) H'
theorem ok_name {f : Addr} {fd : FuncData} {k : Nat} (F : Fun K "_law_name" "_law_name" sName f fd) (DD : Df P w K mg base (k + 1) "_law_draw" ["_law_source_here", "_law_many"] spDrawS) (mr : mg "range" = none) : FnOk P w K mg base CX0 (k + 2) f fd ["_law_source_here", "_law_taken"] (spName K) := by
  refine F.ok scName (fun vs H Q E h => ?_) (fun cdv A outer s H vs Q E hr h => ?_)
  · obtain ⟨p, t, n, taken, rfl, _⟩ := h
    rfl
  · obtain ⟨p, t, n, taken, rfl, hp, hn, ht, ntp, hl, q⟩ := h
    refine ⟨_, pss_cons (ps_set (i := 2) scName.nd rfl (.inl rfl) (pe_ix ix_list (pe_lstS (pa_cons pe_int (pa_cons pe_int (pa_cons pe_int (pa_cons pe_int (pa_cons pe_int (pa_cons pe_int (pa_cons pe_int (pa_cons pe_int (pa_cons pe_int (pa_cons pe_int (pa_cons pe_int (pa_cons pe_int (pa_cons pe_int pa_nil)))))))))))))) (pe_df DD hr (pa_cons (pv 0) (pa_cons pe_int pa_nil))) (fun _ _ => rfl)))
      (pss_cons (ps_set (i := 3) scName.nd rfl (.inl rfl) (pe_join pe_str (pe_lc (own := [("_law_k", 4)]) (g := gName 4) (tt := tYes) (te := tOp rIxS (tC (.str "abcdefghijklmnopqrstuvwxyz")) (tCall spDrawS [] E0 (tCons (tVar 0) (tCons (tC (.int 26)) tNil)))) rfl scName.nd
          (pi_range1 rfl mr (pa_cons (pv 2) pa_nil)) (blkOk_by (own := [("_law_k", 4)]) (N := nName) (sc := defScope sName) (by decide +kernel))
          (fun _ _ _ _ _ => pg_name (i := 4) scName.nd rfl (.inl rfl)) (fun _ _ _ _ _ => pts_nil) (fun _ _ _ _ _ => pe_ix ix_str pe_str (pe_df DD hr (pa_cons (pv 0) (pa_cons pe_int pa_nil))) (fun _ _ => rfl)))))
      (C8.pss_cut (ps_if (pt_chain op_lt op_lt pe_int (pv 2) pe_int) (pss_one (ps_set (i := 3) scName.nd rfl (.inl rfl) (pe_ix ix_list (pe_lstS (pa_cons pe_str (pa_cons pe_str (pa_cons pe_str (pa_cons pe_str (pa_cons pe_str (pa_cons (pe_op op_add_str pe_str (pe_slice sl_str (pv 3) (po_some pe_int) po_none)) pa_nil))))))) (pe_df DD hr (pa_cons (pv 0) (pa_cons pe_int pa_nil))) (fun _ _ => rfl)))) pss_nil)
      (pss_cons (ps_if (pt_cmpR op_notIn_seq (pv 3) (pv 1) (by rfl)) (pss_one (ps_ret (pv 3))) pss_nil)
      (pss_one (ps_ret (pe_ix ix_list (pe_lc (own := [("_law_one", 5)]) (g := gName 5) (tt := tTest (tOp (rIn K true) (tVar 5) (tVar 1))) (te := tVar 5) rfl scName.nd
          (pi_list (pe_lc (own := [("_law_sign", 6)]) (g := gName 6) (tt := tYes) (te := tOp (fun x y H Q => ∃ i j, x = .str i ∧ y = .str j ∧ i.length + j.length ≤ sizeLine ∧ Q (.str (i ++ j)) H) (tC (.str "z")) (tVar 6)) rfl scName.nd
            (pi_str pe_str) (blkOk_by (own := [("_law_sign", 6)]) (N := nName) (sc := defScope sName) (by decide +kernel)) (fun _ _ _ _ _ => pg_name (i := 6) scName.nd rfl (.inl rfl)) (fun _ _ _ _ _ => pts_nil) (fun _ _ _ _ _ => pe_op op_add_str pe_str (pv 6))))
          (blkOk_by (own := [("_law_one", 5)]) (N := nName) (sc := defScope sName) (by decide +kernel))
          (fun _ _ _ _ _ => pg_name (i := 5) scName.nd rfl (.inl rfl)) (fun _ _ _ _ _ => pts_one (pt_cmpR op_notIn_seq (pv 5) (pv 1) (by rfl))) (fun _ _ _ _ _ => pv 5)) pe_int (fun _ _ => rfl))))))), ?_⟩
    have hpS := hp
    refine ⟨by show 13 ≤ sizeLine; decide, fun L H1 s1 nL e1 => ⟨_, rfl, p, 13, n, rfl, hp.same s1, by omega, by decide, by decide, fun d H2 hd hb2 hs2 => ?_⟩⟩
    have nLp := ne_src hp nL
    have e2 : H2 L = some (.lst (sizes13.map num)) := hb2 _ _ e1 nLp
    have hd9 : d < 13 := by omega
    obtain ⟨m, em, hm0, hm⟩ : ∃ m : Nat, sizes13[d]? = some m ∧ 1 ≤ m ∧ m ≤ 8 := by
      refine ⟨sizes13[d]'hd9, List.getElem?_eq_getElem hd9, ?_⟩
      have : ∀ i (h : i < 13), 1 ≤ sizes13[i]'h ∧ sizes13[i]'h ≤ 8 := by decide
      exact this d hd9
    refine ⟨L, _, d, num m, rfl, rfl, SqL.of e2, atI_nat (by rw [List.getElem?_map, em]; rfl), ?_⟩
    have hb12 := But.trans (Same.but s1 p) hb2
    -- the signs
    refine ⟨⟨_, rfl⟩, _, rfl, m, rfl, by omega, by omega, fun D nD => ?_⟩
    have nDp := ne_src hs2 nD
    refine lc_range (lo := 0) (n := (m : Int).toNat) (fun i H' => ∃ cs : List Nat, Src H' p (n + 1 + i) ∧ H' D = some (.lst (cs.map fun c => .str (S [c]))) ∧ cs.length = i ∧ (∀ c ∈ cs, 97 ≤ c ∧ c ≤ 122) ∧ But p H H') ?_ ?_ ?_
    · exact ⟨[], hs2.same (same_upd nD), upd_same, rfl, fun c hc => (nomatch hc), hb12.trans (Same.but (same_upd nD) p)⟩
    · rintro i H3 hi ⟨cs, hs3, eD, hl3, hc, hb3⟩
      have hi' : i < m := by omega
      refine ⟨rfl, tYes_if ?_⟩
      refine ⟨_, rfl, p, 26, n + 1 + i, rfl, hs3, by omega, by decide, by decide, fun d2 H4 hd2 hb4 hs4 => ?_⟩
      have hd2' : d2 < az.length := by
        rw [az_len]
        omega
      have ha : (az[d2]) ∈ az := List.getElem_mem hd2'
      refine ⟨S az, d2, az[d2], by rw [← az_str], rfl, (by rw [len_S]; show 26 ≤ sizeLine; decide), atI_nat (List.getElem?_eq_getElem hd2'), ?_⟩
      refine ⟨_, hb4 _ _ eD nDp, by rw [List.length_map]; exact small1000 (by omega), cs ++ [az[d2]], hs4.at (upd_ne nDp.symm), ?_, ?_, ?_, ?_⟩
      · rw [upd_same, List.map_append]
        rfl
      · rw [List.length_append, hl3]
        rfl
      · intro x hx
        rcases List.mem_append.mp hx with h | h
        · exact hc x h
        · rw [List.mem_singleton.mp h]
          exact az_mem.mp ha
      · intro b o e ne
        have nb : b ≠ D := by
          intro z
          have e' := hb12 _ _ e ne
          rw [z, nD] at e'
          cases e'
        rw [upd_ne nb]
        exact hb4 _ _ (hb3 _ _ e ne) ne
    · rintro H3 ⟨cs, hs3, eD, hl3, hc, hb3⟩
      have hl' : cs.length = m := by omega
      refine ⟨_, D, cs.map fun c => S [c], rfl, rfl, .inl (SqL.of (by rw [eD, List.map_map]; rfl)), ?_, ?_⟩
      · rw [sum_ones, str_empty, len_S]
        show _ + _ * 0 ≤ _
        omega
      rw [str_empty, join_signs]
      have hs3' : Src H3 p (n + 9) := hs3.le (by omega)
      -- a word in its place
      refine ⟨fun σ H' => ∃ c2, σ = [some (.ref p), some (.ref t), some (num m), some (.str (S c2)), none, none, none] ∧ NameL c2 ∧ Src H' p (n + 10) ∧ But p H H', ?_, ?_⟩
      · have keep : ∃ c2, [some (V.ref p), some (.ref t), some (num m), some (.str (S cs)), none, none, none] = [some (V.ref p), some (.ref t), some (num m), some (.str (S c2)), none, none, none] ∧ NameL c2 ∧ Src H3 p (n + 10) ∧ But p H H3 :=
          ⟨cs, rfl, ⟨by omega, by omega, hc⟩, hs3'.le (by omega), hb3⟩
        refine ⟨_, rfl, 3, m, rfl, rfl, _, rfl, ?_⟩
        by_cases h3 : (3 : Int) < (m : Int)
        · rw [decide_eq_true h3]
          refine iteT ⟨m, 8, rfl, rfl, _, rfl, ?_⟩
          by_cases h8 : (m : Int) < 8
          · rw [decide_eq_true h8]
            refine iteT ?_
            have ec : cutS (S cs) (some 1) none = S (cs.drop 1) := cutS_drop cs 1
            have hdl : (cs.drop 1).length ≤ 7 := by rw [List.length_drop]; omega
            refine ⟨_, rfl, 1, rfl, S cs, rfl, by rw [len_S]; exact Nat.le_of_lt (small1000 (by omega)), ?_⟩
            rw [ec]
            have eq : Str.ofString "q" = S [113] := by decide +kernel
            refine ⟨_, _, rfl, rfl, by rw [eq, len_S, len_S]; exact Nat.le_of_lt (small1000 (by show 1 + _ ≤ 1000; omega)), by show 6 ≤ sizeLine; decide, fun L6 H4 s4 n4 e4 => ?_⟩
            rw [eq, S_app] at e4
            refine ⟨_, rfl, p, 6, n + 9, rfl, hs3'.same s4, by omega, by decide, by decide, fun d6 H5 hd6 hb5 hs5 => ?_⟩
            have e4' : H5 L6 = some (.lst ((words6 (cs.drop 1)).map fun y => .str (S y))) := by
              rw [words6_str]
              exact hb5 _ _ e4 (ne_src hs3' n4)
            have hd6' : d6 < (words6 (cs.drop 1)).length := by show d6 < 6; omega
            refine ⟨L6, _, d6, _, rfl, rfl, SqL.of e4', atI_nat (by rw [List.getElem?_map, List.getElem?_eq_getElem hd6']; rfl), (words6 (cs.drop 1))[d6], rfl, ?_, hs5, hb3.trans ((Same.but s4 p).trans hb5)⟩
            exact words6_name hdl (fun c hcm => hc c (List.mem_of_mem_drop hcm)) (List.getElem_mem hd6')
          · rw [decide_eq_false h8]
            exact iteF keep
        · rw [decide_eq_false h3]
          exact iteF ⟨_, rfl, iteF keep⟩
      · rintro σ H4 ⟨c2, rfl, hN, hs4, hb4⟩
        have ht4 := hb4.seq ntp ht
        refine ⟨_, rfl, _, rfl, t, _, rfl, .inl ht4, rfl, flat_S _, _, rfl, ?_⟩
        rw [inV_S]
        by_cases hin : c2 ∈ taken
        · rw [decide_eq_true hin]
          refine iteF ?_
          have ez : Str.ofString "z" = S [122] := by decide +kernel
          refine ⟨S az, by rw [← az_str], fun D1 nD1 => lc_mapS (cs := az) (fun c => .str (S [122, c])) nD1 (by show 26 < sizeLine; decide) ?_ ?_⟩
          · intro c hcm H' R s' r
            refine ⟨_, rfl, _, _, rfl, rfl, by rw [ez, len_S, len_S]; show 1 + 1 ≤ sizeLine; decide, ?_⟩
            rw [ez, S_app]
            exact r
          · intro H5 s5 e5
            refine ⟨D1, rfl, ⟨_, SqL.of e5⟩, fun D2 nD2 => lc_filtL (fun v => !inV v (taken.map fun y => .str (S y))) id (SqL.of e5) nD2 (by rw [List.length_map]; show 26 < sizeLine; decide) ?_ ?_ ?_⟩
            · intro x hx H' R s' r
              obtain ⟨c, _, rfl⟩ := List.mem_map.mp hx
              exact ⟨_, rfl, _, rfl, t, _, rfl, .inl (s'.seq (s5.seq ht4)), rfl, flat_S _, _, rfl, r⟩
            · intro x hx _ H' R s' r
              exact ⟨_, rfl, r⟩
            · intro H6 s6 e6
              have some_free : ∃ c ∈ az, [122, c] ∉ taken := by
                refine Classical.byContradiction fun hno => ?_
                have sub : (az.map fun c => [122, c]) ⊆ taken := by
                  intro y hy
                  obtain ⟨c, hcm, rfl⟩ := List.mem_map.mp hy
                  exact Classical.byContradiction fun hn => hno ⟨c, hcm, hn⟩
                have hle := List.Nodup.length_le_of_subset (by decide) sub
                rw [List.length_map, az_len] at hle
                omega
              obtain ⟨c0, hc0, hf0⟩ := some_free
              have hne : ((az.map fun c => V.str (S [122, c])).filter fun v => !inV v (taken.map fun y => .str (S y))) ≠ [] := by
                have hm0 : V.str (S [122, c0]) ∈ ((az.map fun c => V.str (S [122, c])).filter fun v => !inV v (taken.map fun y => .str (S y))) := by
                  refine List.mem_filter.mpr ⟨List.mem_map.mpr ⟨c0, hc0, rfl⟩, ?_⟩
                  rw [inV_S, decide_eq_false hf0]
                  rfl
                exact List.ne_nil_of_mem hm0
              obtain ⟨y, r, hyr⟩ := List.exists_cons_of_ne_nil hne
              have hy : y ∈ ((az.map fun c => V.str (S [122, c])).filter fun v => !inV v (taken.map fun y => .str (S y))) := by
                rw [hyr]
                exact List.mem_cons_self
              obtain ⟨hy1, hy2⟩ := List.mem_filter.mp hy
              obtain ⟨c, hcm, rfl⟩ := List.mem_map.mp hy1
              rw [inV_S] at hy2
              have hfree : [122, c] ∉ taken := fun z => by
                rw [decide_eq_true z] at hy2
                cases hy2
              rw [hyr] at e6
              refine ⟨D2, _, 0, _, rfl, rfl, SqL.of e6, atI_nat (j := 0) rfl, ?_⟩
              refine q H6 [122, c] (hb4.trans (Same.but (s5.trans s6) p)) ((hs4.same s5).same s6) ⟨by show 1 ≤ 2; decide, by show 2 ≤ 8; decide, fun x hx => ?_⟩ hfree
              have hcr := az_mem.mp hcm
              simp only [List.mem_cons, List.not_mem_nil, or_false] at hx
              omega
        · rw [decide_eq_false hin]
          refine iteT ⟨_, rfl, ?_⟩
          exact q H4 c2 hb4 hs4 hN hin
end
end Tb

set_option Elab.async false
set_option linter.all false
set_option maxRecDepth 100000
set_option maxHeartbeats 2000000
namespace Tb
open PySem PySem.Spec PyProof.Rows L2 TL
section
variable {P : Program} {w : World} {K : PySem.W.Frag} {mg : Str → Option Value} {base : Heap}
theorem scNames : FnScope ["_law_source_here", "_law_many", "_law_names_here", "_law_k"] ["_law_source_here", "_law_many"] (defScope sNames) := ⟨rfl, rfl, rfl, by decide +kernel, rfl, by decide +kernel, by decide +kernel⟩
/-- so many unlike names -/
def spNames : Sp := fun vs H Q _ => ∃ (p : Addr) (n m : Nat), vs = [.ref p, num m] ∧ Src H p n ∧ n + 10 * m < 1000000 ∧ m ≤ 25 ∧
  ∀ t H' (ns : List (List Nat)), But p H H' → Src H' p (n + 10 * m) → H t = none → H' t = some (.lst (ns.map fun y => .str (S y))) → ns.length = m → (∀ x ∈ ns, NameL x) → ns.Nodup → Q (.ref t) H'
theorem ok_names {f : Addr} {fd : FuncData} {k : Nat} (F : Fun K "_law_names" "_law_names" sNames f fd) (DN : Df P w K mg base (k + 1) "_law_name" ["_law_source_here", "_law_taken"] (spName K)) (mr : mg "range" = none) : FnOk P w K mg base CX0 (k + 2) f fd ["_law_source_here", "_law_many"] spNames := by
  refine F.ok scNames (fun vs H Q E h => ?_) (fun cdv A outer s H vs Q E hr h => ?_)
  · obtain ⟨p, n, m, rfl, _⟩ := h
    rfl
  · obtain ⟨p, n, m, rfl, hp, hn, hm, q⟩ := h
    refine ⟨_, pss_cons (ps_set (i := 2) scNames.nd rfl (.inl rfl) (pe_lstS pa_nil))
      (pss_cons (ps_for PassesOwn.never rfl (pi_range1 rfl mr (pa_cons (pv 1) pa_nil)) (pg_name (i := 3) scNames.nd rfl (.inl rfl))
        (pss_one (ps_expr (pe_bm PySem.F.plainAttrs_list PySem.F.slot_list_append PySem.F.type_list_append mt_append (pv 2) (pa_cons (pe_df DN hr (pa_cons (pv 0) (pa_cons (pv 2) pa_nil))) pa_nil)))))
      (pss_one (ps_ret (pv 2)))), ?_⟩
    refine ⟨Nat.zero_le _, fun t H1 s1 nt e1 => ?_⟩
    have ntp := ne_src hp nt
    refine ⟨_, rfl, m, rfl, by omega, by omega, for_range (lo := 0) (n := (m : Int).toNat) (fun i σ H' => ∃ (v : Option V) (ns : List (List Nat)), σ = [some (.ref p), some (num m), some (.ref t), v] ∧ Src H' p (n + 10 * i) ∧ But p H H' ∧ H' t = some (.lst (ns.map fun y => .str (S y))) ∧ ns.length = i ∧ (∀ x ∈ ns, NameL x) ∧ ns.Nodup) ?_ ?_ ?_⟩
    · exact ⟨none, [], rfl, hp.same s1, Same.but s1 p, e1, rfl, fun x hx => (nomatch hx), List.nodup_nil⟩
    · rintro i σ H2 hi ⟨v, ns, rfl, hs, hb, e, hl, hN, hd⟩
      have hi' : i < m := by omega
      refine ⟨_, rfl, .inl ⟨rfl, _, SqL.of e⟩, _, rfl, _, rfl, p, t, n + 10 * i, ns, rfl, hs, by omega, SqL.of e, ntp, by omega, fun H3 cs hb3 hs3 hc hf => ?_⟩
      refine ⟨t, _, _, rfl, rfl, hb3 _ _ e ntp, by rw [List.length_map]; exact small1000 (by omega), some (.int (0 + i)), ns ++ [cs], rfl, ?_, ?_, ?_, ?_, ?_, ?_⟩
      · have h4 := hs3.at (H' := upd H3 t (.lst (ns.map (fun y => V.str (S y)) ++ [.str (S cs)]))) (upd_ne ntp.symm)
        exact h4.le (by omega)
      · intro b o eb ne
        have nb : b ≠ t := ne_of_none eb nt
        rw [upd_ne nb]
        exact hb3 _ _ (hb _ _ eb ne) ne
      · rw [upd_same, List.map_append]
        rfl
      · rw [List.length_append, hl]
        rfl
      · intro x hx
        rcases List.mem_append.mp hx with h | h
        · exact hN x h
        · rw [List.mem_singleton.mp h]
          exact hc
      · rw [List.nodup_append]
        refine ⟨hd, List.nodup_cons.mpr ⟨fun h => (nomatch h), List.nodup_nil⟩, fun a ha b hb' => ?_⟩
        rw [List.mem_singleton.mp hb']
        intro z
        rw [z] at ha
        exact hf ha
    · rintro σ H2 ⟨v, ns, rfl, hs, hb, e, hl, hN, hd⟩
      have el : (m : Int).toNat = m := by omega
      rw [el] at hs hl
      exact ⟨_, rfl, q t H2 ns hb hs nt e hl hN hd⟩
end
end Tb

set_option Elab.async false
set_option linter.all false
set_option maxRecDepth 100000
set_option maxHeartbeats 2000000
namespace Tb
open PySem PySem.Spec PyProof.Rows L2 TL
/-! ### dicts of texts -/
abbrev Fil := List (List Nat × List Nat)
def fkv (hf : Fil) : List (Key × V) := hf.map fun q => (Sum.inr (S q.1), V.str (S q.2))
def getF (hf : Fil) (h : List Nat) : Option (List Nat) := (hf.find? fun q => decide (q.1 = h)).map (·.2)
def setF (hf : Fil) (h f : List Nat) : Fil := hf.map fun q => if q.1 = h then (q.1, f) else q
theorem key_S {a b : List Nat} : (Sum.inr (S a) : Key) = Sum.inr (S b) ↔ a = b := ⟨fun h => S_inj (Sum.inr.inj h), fun h => by rw [h]⟩
theorem getF_cons (q : List Nat × List Nat) (hf : Fil) (h : List Nat) : getF (q :: hf) h = if q.1 = h then some q.2 else getF hf h := by
  unfold getF
  rw [List.find?_cons]
  by_cases e : q.1 = h
  · rw [if_pos e, decide_eq_true e]
    rfl
  · rw [if_neg e, decide_eq_false e]
theorem val_fkv (h : List Nat) : ∀ hf : Fil, valV (fkv hf) (Sum.inr (S h)) = (getF hf h).map fun f => V.str (S f)
  | [] => rfl
  | q :: hf => by
    rw [getF_cons]
    show valV ((Sum.inr (S q.1), V.str (S q.2)) :: fkv hf) _ = _
    by_cases e : q.1 = h
    · rw [if_pos e, valV_pos (key_S.mpr e)]
      rfl
    · rw [if_neg e, valV_neg (fun z => e (key_S.mp z)), val_fkv h hf]
theorem getF_some {hf : Fil} {h : List Nat} (m : h ∈ hf.map (·.1)) : ∃ f, getF hf h = some f ∧ (h, f) ∈ hf := by
  induction hf with
  | nil => exact (nomatch m)
  | cons q r ih =>
    rw [getF_cons]
    by_cases e : q.1 = h
    · exact ⟨q.2, by rw [if_pos e], by rw [← e]; exact List.mem_cons_self⟩
    · rw [if_neg e]
      rcases List.mem_cons.mp m with z | z
      · exact absurd z.symm e
      · obtain ⟨f, h1, h2⟩ := ih z
        exact ⟨f, h1, List.mem_cons_of_mem _ h2⟩
theorem getF_none {hf : Fil} {h : List Nat} (m : h ∉ hf.map (·.1)) : getF hf h = none := by
  induction hf with
  | nil => rfl
  | cons q r ih =>
    rw [getF_cons, if_neg (fun e => m (by rw [← e]; exact List.mem_cons_self)), ih (fun z => m (List.mem_cons_of_mem _ z))]
theorem put_fkv {hf : Fil} {h : List Nat} (f : List Nat) (m : h ∈ hf.map (·.1)) : putK (fkv hf) (Sum.inr (S h)) (V.str (S f)) = fkv (setF hf h f) := by
  obtain ⟨f0, e, _⟩ := getF_some m
  unfold putK
  rw [if_pos (by rw [valV_any, val_fkv, e]; rfl)]
  unfold fkv setF
  rw [List.map_map, List.map_map]
  refine List.map_congr_left fun q _ => ?_
  show (if (Sum.inr (S q.1) : Key) = Sum.inr (S h) then _ else _) = _
  by_cases e : q.1 = h
  · rw [if_pos (key_S.mpr e)]
    show _ = ((Sum.inr (S (if q.1 = h then (q.1, f) else q).1) : Key), V.str (S (if q.1 = h then (q.1, f) else q).2))
    rw [if_pos e]
  · rw [if_neg (fun z => e (key_S.mp z))]
    show _ = ((Sum.inr (S (if q.1 = h then (q.1, f) else q).1) : Key), V.str (S (if q.1 = h then (q.1, f) else q).2))
    rw [if_neg e]
theorem setF_keys (hf : Fil) (h f : List Nat) : (setF hf h f).map (·.1) = hf.map (·.1) := by
  unfold setF
  rw [List.map_map]
  refine List.map_congr_left fun q _ => ?_
  show (if q.1 = h then (q.1, f) else q).1 = q.1
  by_cases e : q.1 = h
  · rw [if_pos e]
  · rw [if_neg e]
theorem setF_mem {hf : Fil} {h f : List Nat} {q : List Nat × List Nat} (m : q ∈ setF hf h f) : q.2 = f ∨ q ∈ hf := by
  obtain ⟨r, hr, e⟩ := List.mem_map.mp m
  by_cases z : r.1 = h
  · rw [if_pos z] at e
    exact .inl (by rw [← e])
  · rw [if_neg z] at e
    exact .inr (by rw [← e]; exact hr)
theorem setF_other {h f : List Nat} : ∀ {hf : Fil}, h ∉ hf.map (·.1) → setF hf h f = hf
  | [], _ => rfl
  | q :: r, m => by
    have e : q.1 ≠ h := fun z => m (by rw [← z]; exact List.mem_cons_self)
    show (if q.1 = h then (q.1, f) else q) :: setF r h f = q :: r
    rw [if_neg e, setF_other (fun z => m (List.mem_cons_of_mem _ z))]
theorem setF_count (p : Nat → Bool) {h f0 x : List Nat} : ∀ {hf : Fil}, (hf.map (·.1)).Nodup → getF hf h = some f0 →
    (((setF hf h (f0 ++ x)).map (·.2)).flatten).countP p = ((hf.map (·.2)).flatten).countP p + x.countP p
  | [], _, e => by cases e
  | q :: r, nd, e => by
    have nd' := List.nodup_cons.mp nd
    rw [getF_cons] at e
    show (((if q.1 = h then (q.1, f0 ++ x) else q) :: setF r h (f0 ++ x)).map (·.2)).flatten.countP p = _
    rw [List.map_cons, List.flatten_cons, List.countP_append, List.map_cons, List.flatten_cons, List.countP_append]
    by_cases z : q.1 = h
    · rw [if_pos z] at e
      have e' : q.2 = f0 := Option.some.inj e
      rw [if_pos z, setF_other (by rw [← z]; exact nd'.1)]
      show (f0 ++ x).countP p + _ = _
      rw [List.countP_append, e']
      omega
    · rw [if_neg z] at e
      rw [if_neg z, setF_count p nd'.2 e]
      omega
theorem merge_new : ∀ (more acc : List (Key × V)), ((acc ++ more).map (·.1)).Nodup → mergeK acc more = acc ++ more
  | [], acc, _ => (List.append_nil acc).symm
  | kv :: r, acc, nd => by
    show mergeK (putK acc kv.1 kv.2) r = _
    have hno : kv.1 ∉ acc.map (·.1) := fun z => by
      rw [List.map_append, List.nodup_append] at nd
      exact nd.2.2 _ z _ (by rw [List.map_cons]; exact List.mem_cons_self) rfl
    have en : putK acc kv.1 kv.2 = acc ++ [kv] := by
      unfold putK
      rw [if_neg ?_]
      intro z
      obtain ⟨u, hu, e⟩ := List.any_eq_true.mp z
      exact hno (List.mem_map.mpr ⟨u, hu, of_decide_eq_true e⟩)
    rw [en, merge_new r (acc ++ [kv]) (by rw [List.append_assoc]; exact nd), List.append_assoc]
    rfl
theorem fkv_nodup {hf : Fil} (nd : (hf.map (·.1)).Nodup) : ((fkv hf).map (·.1)).Nodup := by
  unfold fkv
  rw [List.map_map]
  have e : hf.map ((fun q : Key × V => q.1) ∘ fun q => (Sum.inr (S q.1), V.str (S q.2))) = (hf.map (·.1)).map fun h => (Sum.inr (S h) : Key) := by
    rw [List.map_map]
    rfl
  rw [e]
  refine List.Pairwise.map _ (fun a b hab z => hab (key_S.mp z)) nd
/-! ### a list of pairs -/
section
variable {K : PySem.W.Frag} {te : TE} {tt : TT} {vs : List Nat} {σ : L2.St} {H1 : Hp} {D : Addr} {Qd : Hp → Prop} {sl : Nat}
theorem lc_pairsL {a : Addr} {xs : List V} (keep : V → Bool) (kf vf : V → V) (hS : SqL K H1 a xs) (nD : H1 D = none) (hl : xs.length < sizeLine)
    (ht : ∀ x ∈ xs, ∀ H' (R : Bool → Hp → Prop), Same H1 H' → R (keep x) H' → tt ((wipe σ vs).set sl (some x)) H' R)
    (he : ∀ x ∈ xs, keep x = true → ∀ H' (R : VK), Same H1 H' → New H' (.tup [kf x, vf x]) R → te ((wipe σ vs).set sl (some x)) H' R)
    (hd : ∀ H' ts, Same H1 H' → H' D = some (.lst (ts.map V.ref)) → Paired (fun t x => H' t = some (.tup [kf x, vf x])) ts (xs.filter keep) → Qd H') (hw : ∀ x, wipe ((wipe σ vs).set sl (some x)) vs = wipe σ vs := by intro _; rfl) :
    ∃ W : Nat → Nat → Hp → Prop, (∃ m, W 0 m (upd H1 D (.lst []))) ∧ ∀ i m H, W i m H →
      ((Itl K a).stop i H ∧ Qd H) ∨ ((Itl K a).go i H ∧ ∃ Nx : Hp → Prop, (∀ H', Nx H' → ∃ m', m' < m ∧ W (i + 1) m' H') ∧ ∀ x H', (Itl K a).yld i H x H' → gName sl x (wipe σ vs) H' fun σ2 H2 => wipe σ2 vs = wipe σ vs ∧ tt σ2 H2 fun b H3 =>
        if b = true then te σ2 H3 fun y H4 => ∃ acc, H4 D = some (.lst acc) ∧ acc.length < sizeLine ∧ Nx (upd H4 D (.lst (acc ++ [y]))) else Nx H3) := by
  have mono : ∀ {H H' : Hp} {ts : List Addr} {ys : List V}, (∀ b o, H b = some o → b ≠ D → H' b = some o) → (∃ l, H D = some (.lst l)) → Paired (fun t x => H t = some (.tup [kf x, vf x])) ts ys → Paired (fun t x => H' t = some (.tup [kf x, vf x])) ts ys := by
    intro H H' ts ys hb hD hp
    induction hp with
    | nil => exact .nil
    | cons h _ ih =>
      refine .cons (hb _ _ h fun z => ?_) ih
      obtain ⟨l, e⟩ := hD
      rw [z, e] at h
      cases h
  refine lc_list (K := K) (a := a) (xs := xs) (fun i H => Same H1 H ∧ ∃ ts, H D = some (.lst (ts.map V.ref)) ∧ Paired (fun t x => H t = some (.tup [kf x, vf x])) ts ((xs.take i).filter keep)) ⟨same_upd nD, [], upd_same, .nil⟩ (fun i H _ h => h.1.seq hS) ?_ ?_
  · rintro i x H hx ⟨s, ts, e, hp⟩
    have hm := List.mem_of_getElem? hx
    have et : xs.take (i + 1) = xs.take i ++ [x] := by
      rw [List.take_add_one, hx]
      rfl
    refine ⟨hw x, tif (k := keep x) (fun R r => ht x hm H R s r) (fun hk => he x hm hk H _ s fun T H2 s2 nT eT => ?_) (fun hk => ⟨s, ts, e, ?_⟩)⟩
    · have hlt : ts.length < sizeLine := by
        rw [Paired.length hp]
        refine Nat.lt_of_le_of_lt (List.length_filter_le _ _) ?_
        rw [List.length_take]
        exact Nat.lt_of_le_of_lt (Nat.min_le_right _ _) hl
      have nTD : T ≠ D := fun z => by
        rw [z, e] at nT
        cases nT
      refine ⟨_, s2 _ _ e, by rw [List.length_map]; exact hlt, fun b o eb => ?_, ts ++ [T], ?_, ?_⟩
      · rw [upd_ne (ne_of_none eb nD)]
        exact s2 _ _ (s _ _ eb)
      · rw [upd_same, List.map_append]
        rfl
      · rw [et, List.filter_append]
        have h1 : Paired (fun t x => (upd H2 D (.lst (ts.map V.ref ++ [.ref T]))) t = some (.tup [kf x, vf x])) ts ((xs.take i).filter keep) :=
          mono (H := H) (fun b o eb ne => by rw [upd_ne ne]; exact s2 _ _ eb) ⟨_, e⟩ hp
        have h2 : [x].filter keep = [x] := by simp [List.filter_cons, hk]
        rw [h2]
        exact h1.snoc (by rw [upd_ne nTD]; exact eT)
    · rw [et, List.filter_append]
      have h2 : [x].filter keep = [] := by simp [List.filter_cons, hk]
      rw [h2, List.append_nil]
      exact hp
  · rintro H ⟨s, ts, e, hp⟩
    rw [List.take_length] at hp
    exact hd H ts s e hp
end
section
variable {X : Cx}
def rDictP (K : PySem.W.Frag) : List V → Hp → VK → Prop := fun xs H Q => ∃ (a : Addr) (ps : List Addr) (kvs : List (Key × V)), xs = [.ref a] ∧ SqL K H a (ps.map V.ref) ∧ Paired (fun p kv => SqT K H p [kV kv.1, kv.2]) ps kvs ∧ New H (.dK (mergeK [] kvs)) Q
theorem call_dictS (hc : X.calm = true) : CallR X (.type "dict") (rDictP X.K) := CallR.weak (call_dictP hc) fun xs H Q ⟨a, ps, kvs, e, h1, h2, q⟩ => ⟨a, ps, kvs, e, h1, h2, q.at⟩
/-- xs != ys: of unlike lengths, or the very same things -/
def rNeLen (K : PySem.W.Frag) : R2 := fun x y H Q => ∃ a b xs ys, x = .ref a ∧ y = .ref b ∧ SqL K H a xs ∧ SqL K H b ys ∧ ((xs.length ≠ ys.length ∧ Q (.bl true) H) ∨ (xs = [] ∧ ys = [] ∧ Q (.bl false) H))
theorem op_neLen (hu : X.A.units + 1 < cLine) : OpR X (compareOp .NotEq) (rNeLen X.K) := by
  intro pins s σ H x y v u Q I rx ry h
  obtain ⟨a, b, xs, ys, rfl, rfl, ha, hb, hq⟩ := h
  cases (show v = Value.ref a from rx)
  cases (show u = Value.ref b from ry)
  obtain ⟨us, r1, p1, _⟩ := I.list ha
  obtain ⟨ws, r2, p2, _⟩ := I.list hb
  rcases hq with ⟨hne, q⟩ | ⟨rfl, rfl, q⟩
  · have hsz : (us.toArray.size != ws.toArray.size) = true := by
      rw [List.size_toArray, List.size_toArray, ← r1.length, ← r2.length]
      simpa using hne
    exact SeqAt.RcNeAt.lists_lengths (A := X.A) (s := s) p1.isList p2.isList hsz (by omega) X.prog X.w _ _ ⟨.bl true, H, I, rfl, q⟩
  · cases r1
    cases r2
    exact SeqAt.RcNeAt.lists (A := X.A) (s := s) (e := fun _ => true) p1.isList p2.isList rfl (by omega) (fun j h1 h2 => absurd h1 (Nat.not_lt_zero j)) X.prog X.w _ _ ⟨.bl false, H, I, rfl, q⟩
end
end Tb

set_option Elab.async false
set_option linter.all false
set_option maxRecDepth 100000
set_option maxHeartbeats 2000000
namespace Tb
open PySem PySem.Spec PyProof.Rows L2 TL
def txs (l : List (List Nat)) : List V := l.map fun y => V.str (S y)
def sgs (l : List Nat) : List V := l.map fun c => V.str (S [c])
/-- each sign of the fillings is of out or a box; each box stands at most as often as in `done` -/
structure FillOk (out boxes done : List Nat) (hf : Fil) : Prop where
  nd : (hf.map (·.1)).Nodup
  signs : ∀ q ∈ hf, ∀ c ∈ q.2, c ∈ out ∨ c ∈ boxes
  cnt : ∀ b ∈ boxes, ((hf.map (·.2)).flatten).count b ≤ done.count b
theorem count_countP (l : List Nat) (b : Nat) : l.count b = l.countP (· == b) := rfl
theorem FillOk.put {out boxes done : List Nat} {hf : Fil} (F : FillOk out boxes done hf) {h f0 x y : List Nat} (g : getF hf h = some f0) (hm : (h, f0) ∈ hf) (hx : ∀ c ∈ x, c ∈ out) (hb : ∀ b ∈ boxes, b ∉ out) (hy : ∀ c ∈ y, c ∈ boxes) (d2 : List Nat) (hd : ∀ b ∈ boxes, done.count b + y.count b ≤ d2.count b) :
    FillOk out boxes d2 (setF hf h (f0 ++ (x ++ y))) where
  nd := by rw [setF_keys]; exact F.nd
  signs := fun q hq c hc => by
    rcases setF_mem hq with e | e
    · rw [e] at hc
      rcases List.mem_append.mp hc with z | z
      · exact F.signs _ hm c z
      · rcases List.mem_append.mp z with z | z
        · exact .inl (hx c z)
        · exact .inr (hy c z)
    · exact F.signs q e c hc
  cnt := fun b hbm => by
    rw [count_countP, setF_count (· == b) F.nd g, List.countP_append]
    have h1 := F.cnt b hbm
    have h2 := hd b hbm
    rw [count_countP] at h1
    have h3 : x.countP (· == b) = 0 := List.countP_eq_zero.mpr fun c hc z => hb b hbm (by rw [← beq_iff_eq.mp z]; exact hx c hc)
    have h4 : y.countP (· == b) = y.count b := rfl
    omega
def lenF (hf : Fil) : Nat := ((hf.map (·.2)).flatten).length
theorem lenF_put {hf : Fil} {h f0 x : List Nat} (nd : (hf.map (·.1)).Nodup) (g : getF hf h = some f0) : lenF (setF hf h (f0 ++ x)) = lenF hf + x.length := by
  have e := setF_count (fun _ => true) nd g (x := x)
  simpa [lenF, List.countP_true] using e
theorem len_le {hf : Fil} {q : List Nat × List Nat} (m : q ∈ hf) : q.2.length ≤ lenF hf := by
  unfold lenF
  induction hf with
  | nil => exact (nomatch m)
  | cons r rs ih =>
    rw [List.map_cons, List.flatten_cons, List.length_append]
    rcases List.mem_cons.mp m with e | e
    · rw [e]; omega
    · have := ih e
      omega
theorem fill_start {out boxes : List Nat} {hs : List (List Nat)} (nd : hs.Nodup) : FillOk out boxes [] (hs.map fun h => (h, [])) := by
  have e0 : (hs.map fun h => (h, ([] : List Nat))).map (·.2) = hs.map fun _ => [] := by
    rw [List.map_map]
    rfl
  have e1 : ((hs.map fun h => (h, ([] : List Nat))).map (·.2)).flatten = [] := by
    rw [e0]
    induction hs with
    | nil => rfl
    | cons h r ih =>
      rw [List.map_cons, List.flatten_cons, ih (List.nodup_cons.mp nd).2 (by rw [List.map_map]; rfl)]
      rfl
  refine ⟨?_, fun q hq c hc => ?_, fun b _ => ?_⟩
  · have : (hs.map fun h => (h, ([] : List Nat))).map (·.1) = hs := by
      rw [List.map_map]
      exact List.map_id _
    rw [this]
    exact nd
  · obtain ⟨h, _, rfl⟩ := List.mem_map.mp hq
    exact (nomatch hc)
  · rw [e1]
    exact Nat.le_refl _
theorem keys_start (hs : List (List Nat)) : (hs.map fun h => (h, ([] : List Nat))).map (·.1) = hs := by
  rw [List.map_map]
  exact List.map_id _
theorem lenF_start (hs : List (List Nat)) : lenF (hs.map fun h => (h, ([] : List Nat))) = 0 := by
  unfold lenF
  rw [List.map_map]
  induction hs with
  | nil => rfl
  | cons h r ih => exact ih
theorem paired_map {α β γ : Type} {F : α → β → Prop} {g : γ → β} : ∀ {l : List α} {m : List γ}, Paired F l (m.map g) → Paired (fun a c => F a (g c)) l m
  | _, [], h => by
    cases h
    exact .nil
  | _, c :: m, h => by
    cases h with
    | cons h t => exact .cons h (paired_map t)
theorem map_paired {α β γ : Type} {F : α → β → Prop} {g : γ → β} : ∀ {l : List α} {m : List γ}, Paired (fun a c => F a (g c)) l m → Paired F l (m.map g)
  | _, [], h => by
    cases h
    exact .nil
  | _, c :: m, h => by
    cases h with
    | cons h t => exact .cons h (map_paired t)
def pick1 (l : List Nat) : V → V := fun v => match v with | .int i => .str (S [l.getD i.toNat 0]) | _ => .non
theorem pick1_num (l : List Nat) (i : Nat) : pick1 l (num i) = .str (S [l.getD i 0]) := rfl
theorem getD_perm {ks zs : List Nat} (h : ks.Perm (List.range zs.length)) : (ks.map fun i => zs.getD i 0).Perm zs := by
  have h1 := h.map fun i => zs.getD i 0
  have h2 : (List.range zs.length).map (fun i => zs.getD i 0) = zs := by
    refine List.ext_getElem (by simp) fun i h1 h2 => ?_
    rw [List.getElem_map, List.getElem_range, List.getD_eq_getElem?_getD, List.getElem?_eq_getElem h2]
    rfl
  rw [h2] at h1
  exact h1
section
variable {P : Program} {w : World} {K : PySem.W.Frag} {mg : Str → Option Value} {base : Heap}
abbrev nFill : List Str := ["_law_source_here", "_law_boxes", "_law_holders", "_law_out", "_law_holder", "_law_found", "_law_box", "_law_way", "_law_k"]
theorem scFill : FnScope nFill ["_law_source_here", "_law_boxes", "_law_holders", "_law_out"] (defScope sFill) := ⟨rfl, rfl, rfl, by decide +kernel, rfl, by decide +kernel, by decide +kernel⟩
/-- fillings of the holders, each box once at most -/
def spFill (K : PySem.W.Frag) : Sp := fun vs H Q _ => ∃ (p tb th : Addr) (n : Nat) (boxes out : List Nat) (hs : List (List Nat)), vs = [.ref p, .ref tb, .ref th, .str (S out)] ∧ Src H p n ∧ n + 100 < 1000000 ∧ SqL K H tb (sgs boxes) ∧ SqL K H th (txs hs) ∧ tb ≠ p ∧ th ≠ p ∧
  boxes.length ≤ 7 ∧ hs.length ≤ 7 ∧ boxes.Nodup ∧ hs.Nodup ∧ 0 < out.length ∧ out.length ≤ 1000 ∧ (∀ b ∈ boxes, b ∉ out) ∧
  ∀ d H' (hf : Fil), But p H H' → Src H' p (n + 100) → H d = none → H' d = some (.dK (fkv hf)) → hf.map (·.1) = hs → FillOk out boxes boxes hf → (lenF hf ≤ 100 ∧ lenF hf ≤ 4 * boxes.length + 3 * hf.length) → Q (.ref d) H'
theorem ok_fill {f : Addr} {fd : FuncData} {k : Nat} (F : Fun K "_law_fill" "_law_fill" sFill f fd) (DD : Df P w K mg base (k + 1) "_law_draw" ["_law_source_here", "_law_many"] spDrawS) (DP : Df P w K mg base (k + 2) "_law_pick" ["_law_source_here", "_law_things"] (spPick K))
    (DO : Df P w K mg base (k + 2) "_law_order" ["_law_source_here", "_law_many"] spOrder) (DC : Df P w K mg base (k + 3) "_law_piece" ["_law_source_here", "_law_out"] spPiece) (ml : mg "len" = none) (md : mg "dict" = none) : FnOk P w K mg base CX0 (k + 4) f fd ["_law_source_here", "_law_boxes", "_law_holders", "_law_out"] (spFill K) := by
  refine F.ok scFill (fun vs H Q E h => ?_) (fun cdv A outer s H vs Q E hr h => ?_)
  · obtain ⟨p, tb, th, n, boxes, out, hs, rfl, _⟩ := h
    rfl
  · obtain ⟨p, tb, th, n, boxes, out, hs, rfl, hp, hn, hB, hH, nbp, nhp, lB, lH, ndB, ndH, o0, o1, dis, q⟩ := h
    have hu := hu_of hr
    refine ⟨_, pss_cons (ps_set (i := 5) scFill.nd rfl (.inl rfl) (pe_callTy (call_dictS rfl) (by rfl) md (by decide +kernel) (pa_cons (pe_lc (own := [("_law_holder", 4)]) (g := gName 4) (tt := tYes) (te := tTupS (tCons (tVar 4) (tCons (tC (.str "")) tNil))) rfl scFill.nd
          (pi_list (pv 2)) (blkOk_by (own := [("_law_holder", 4)]) (N := nFill) (sc := defScope sFill) (by decide +kernel)) (fun _ _ _ _ _ => pg_name (i := 4) scFill.nd rfl (.inl rfl)) (fun _ _ _ _ _ => pts_nil) (fun _ _ _ _ _ => pe_tupS (pa_cons (pv 4) (pa_cons pe_str pa_nil)))) pa_nil)))
      (pss_cons (ps_for PassesOwn.never rfl (pi_list (pe_lc (own := [("_law_k", 8)]) (g := gName 8) (tt := tYes) (te := tOp (rIxL K) (tVar 1) (tVar 8)) rfl scFill.nd
          (pi_list (pe_df DO hr (pa_cons (pv 0) (pa_cons (pe_callB call_lenS (by rfl) ml PySem.boot_len (pa_cons (pv 1) pa_nil)) pa_nil)))) (blkOk_by (own := [("_law_k", 8)]) (N := nFill) (sc := defScope sFill) (by decide +kernel)) (fun _ _ _ _ _ => pg_name (i := 8) scFill.nd rfl (.inl rfl)) (fun _ _ _ _ _ => pts_nil) (fun _ _ _ _ _ => pe_ix ix_list (pv 1) (pv 8) (fun _ _ => rfl)))) (pg_name (i := 6) scFill.nd rfl (.inl rfl))
        (pss_cons (ps_set (i := 7) scFill.nd rfl (.inl rfl) (pe_df DD hr (pa_cons (pv 0) (pa_cons pe_int pa_nil))))
        (pss_one (ps_if (PW.pt (pw_and (pt_cmpR op_gt (pv 7) pe_int (nomark _)) (pw_and1 (pt_cmpR (op_neLen hu) (pv 2) (pe_lstS pa_nil) (nomark _)))))
          (C8.pss_cut (ps_set (i := 4) scFill.nd rfl (.inl rfl) (pe_ifExp (PW.pt (pw_and (pt_cmpR op_gt (pv 7) pe_int (nomark _)) (pw_and1 (pt_cmp (pc_din hu (pv 6) (pv 5)))))) (pv 6) (pe_df DP hr (pa_cons (pv 0) (pa_cons (pv 2) pa_nil)))))
          (pss_one (ps_dput hu (pv 5) (pv 4) (pe_op op_add_str (pe_op op_add_str (pe_dget hu (pv 5) (pv 4) (fun _ _ => rfl)) (pe_df DC hr (pa_cons (pv 0) (pa_cons (pv 3) pa_nil)))) (pv 6)) rfl))) pss_nil))))
      (pss_cons (ps_for PassesOwn.never rfl (pi_list (pv 2)) (pg_name (i := 4) scFill.nd rfl (.inl rfl))
        (pss_one (ps_dput hu (pv 5) (pv 4) (pe_op op_add_str (pe_dget hu (pv 5) (pv 4) (fun _ _ => rfl)) (pe_df DC hr (pa_cons (pv 0) (pa_cons (pv 3) pa_nil)))) rfl)))
      (pss_one (ps_ret (pv 5))))), ?_⟩
    have ee : Str.ofString "" = S [] := str_empty
    -- found = dict([(holder, '') ..])
    refine ⟨_, rfl, th, rfl, ⟨_, hH⟩, fun D0 nD0 => lc_pairsL (fun _ => true) id (fun _ => .str (S [])) hH nD0 (by show (hs.map _).length < _; rw [List.length_map]; exact small1000 (by omega)) (fun x hx H' R s' r => r) (fun x hx _ H' R s' hN => ?_) (fun H1 ts s1 e1 hpair => ?_)⟩
    · refine ⟨_, rfl, by show 2 ≤ sizeLine; decide, ?_⟩
      rw [ee]
      exact hN
    have hpair2 : Paired (fun p kv => SqT K H1 p [kV kv.1, kv.2]) ts (fkv (hs.map fun h => (h, []))) := by
      rw [List.filter_eq_self.mpr (fun _ _ => rfl)] at hpair
      have h1 := paired_map (m := hs) (g := fun y => V.str (S y)) hpair
      unfold fkv
      rw [List.map_map]
      exact map_paired (Paired.mono (fun a c h => SqT.of h) h1)
    refine ⟨D0, ts, fkv (hs.map fun h => (h, [])), rfl, SqL.of e1, hpair2, fun d H2 s2 nd0 e2 => ?_⟩
    have ndK : ((hs.map fun h => (h, ([] : List Nat))).map (·.1)).Nodup := by rw [keys_start]; exact ndH
    rw [merge_new _ [] (by rw [List.nil_append]; exact fkv_nodup ndK), List.nil_append] at e2
    have s12 := s1.trans s2
    have hp2 := hp.same s12
    have ndp : d ≠ p := ne_src (hp.same s1) nd0
    have ndH0 : H d = none := s1.free nd0
    -- the boxes in some order
    have hB2 := s12.seq hB
    have lb : (sgs boxes).length = boxes.length := List.length_map _
    refine ⟨_, rfl, _, rfl, tb, _, rfl, .inl hB2, p, (sgs boxes).length, n, rfl, hp2, by omega, by omega, fun a H3 ks hb3 hs3 na e3 hperm => ⟨a, rfl, ⟨_, SqL.of e3⟩, fun D nD => lc_mapL (pick1 boxes) (SqL.of e3) nD ?_ ?_ ?_⟩⟩
    · rw [List.length_map, hperm.length_eq, List.length_range]
      exact small1000 (by omega)
    · intro x hx H' R s' r
      obtain ⟨i, hi, rfl⟩ := List.mem_map.mp hx
      have hi' : i < boxes.length := by
        rw [← lb]
        exact List.mem_range.mp (hperm.mem_iff.mp hi)
      rw [pick1_num] at r
      have eg : boxes.getD i 0 = boxes[i] := by
        rw [List.getD_eq_getElem?_getD, List.getElem?_eq_getElem hi']
        rfl
      rw [eg] at r
      exact ⟨_, rfl, _, rfl, tb, _, (i : Int), _, rfl, rfl, s'.seq (hb3.seq nbp hB2), atI_nat (by unfold sgs; rw [List.getElem?_map, List.getElem?_eq_getElem hi']; rfl), r⟩
    intro H4 s4 e4
    rw [lb] at hperm
    have hall := getD_perm hperm
    have e4' : H4 D = some (.lst (sgs (ks.map fun i => boxes.getD i 0))) := by
      rw [e4, List.map_map]
      unfold sgs
      rw [List.map_map]
      rfl
    generalize (ks.map fun i => boxes.getD i 0) = all at hall e4'
    have la : all.length = boxes.length := hall.length_eq
    have hb4 : But p H H4 := (Same.but s12 p).trans (hb3.trans (Same.but s4 p))
    have hs4 : Src H4 p (n + 7) := (hs3.same s4).le (by omega)
    have ed4 : H4 d = some (.dK (fkv (hs.map fun h => (h, [])))) := s4 _ _ (hb3 _ _ e2 ndp)
    have nDp : D ≠ p := ne_src hs3 nD
    have nDH : H D = none := by
      cases z : H D with
      | none => rfl
      | some o =>
        have z' := hb3 _ _ (s12 _ _ z) nDp
        rw [nD] at z'
        cases z'
    have ndD : d ≠ D := fun z => by
      rw [z] at ndp e2
      have z' := hb3 _ _ e2 ndp
      rw [nD] at z'
      cases z'
    refine ⟨D, rfl, ⟨_, SqL.of e4'⟩, for_list (K := K) (a := D) (xs := sgs all) (fun i σ H' => ∃ v4 v6 v7 hf, σ = [some (.ref p), some (.ref tb), some (.ref th), some (.str (S out)), v4, some (.ref d), v6, v7, none] ∧ Src H' p (n + 7 + 6 * i) ∧ But p H H' ∧ H' D = some (.lst (sgs all)) ∧ H' d = some (.dK (fkv hf)) ∧ hf.map (·.1) = hs ∧ FillOk out boxes (all.take i) hf ∧ lenF hf ≤ 4 * i)
      ⟨none, none, none, hs.map fun h => (h, []), rfl, hs4, hb4, e4', ed4, keys_start hs, fill_start ndH, by rw [lenF_start]; exact Nat.zero_le _⟩ (fun i σ H' _ ⟨_, _, _, _, _, _, _, e, _⟩ => SqL.of e) ?_ ?_⟩
    · rintro i y σ H5 hi ⟨v4, v6, v7, hf, rfl, hs5, hb5, eD5, ed5, hk5, F5, l5⟩
      obtain ⟨c, hc, rfl⟩ : ∃ c, all[i]? = some c ∧ y = V.str (S [c]) := by
        unfold sgs at hi
        rw [List.getElem?_map] at hi
        cases z : all[i]? with
        | none =>
          rw [z] at hi
          cases hi
        | some c =>
          rw [z] at hi
          exact ⟨c, rfl, (Option.some.inj hi).symm⟩
      have hcb : c ∈ boxes := hall.mem_iff.mp (List.mem_of_getElem? hc)
      have hi7 : i < 7 := by
        have := (List.getElem?_eq_some_iff.mp hc).1
        omega
      have et : all.take (i + 1) = all.take i ++ [c] := by
        rw [List.take_add_one, hc]
        rfl
      have more : FillOk out boxes (all.take (i + 1)) hf := ⟨F5.nd, F5.signs, fun b hb => by
        have h1 := F5.cnt b hb
        rw [et, List.count_append]
        omega⟩
      refine ⟨_, rfl, p, 6, n + 7 + 6 * i, rfl, hs5, by omega, by decide, by decide, fun wv H6 hw hb6 hs6 => ?_⟩
      have hb6' := hb5.trans hb6
      have eD6 := hb6 _ _ eD5 nDp
      have ed6 := hb6 _ _ ed5 ndp
      refine ⟨_, rfl, _, _, rfl, rfl, _, rfl, ite2 (fun _ => ?_) (fun _ => ?_)⟩
      · refine ⟨_, rfl, Nat.zero_le _, fun z H7 s7 n7 e7 => ?_⟩
        have hH7 : SqL K H7 th (txs hs) := s7.seq (hb6'.seq nhp hH)
        have keep7 : ∃ v4 v6 v7 hf, [some (V.ref p), some (.ref tb), some (.ref th), some (.str (S out)), v4, some (.ref d), some (.str (S [c])), some (num wv), none] = [some (V.ref p), some (.ref tb), some (.ref th), some (.str (S out)), v4, some (.ref d), v6, v7, none] ∧ Src H7 p (n + 7 + 6 * (i + 1)) ∧ But p H H7 ∧ H7 D = some (.lst (sgs all)) ∧ H7 d = some (.dK (fkv hf)) ∧ hf.map (·.1) = hs ∧ FillOk out boxes (all.take (i + 1)) hf ∧ lenF hf ≤ 4 * (i + 1) := by
          exact ⟨v4, _, _, hf, rfl, (hs6.same s7).le (by omega), hb6'.trans (Same.but s7 p), s7 _ _ eD6, s7 _ _ ed6, hk5, more, by omega⟩
        refine ⟨th, z, _, [], rfl, rfl, hH7, SqL.of e7, ?_⟩
        by_cases hne : hs = []
        · refine .inr ⟨by rw [hne]; rfl, rfl, _, rfl, iteF ?_⟩
          exact ⟨v4, _, _, hf, rfl, (hs6.same s7).le (by omega), hb6'.trans (Same.but s7 p), s7 _ _ eD6, s7 _ _ ed6, hk5, more, by omega⟩
        · have hl0 : 0 < (txs hs).length := by
            show 0 < (hs.map _).length
            rw [List.length_map]
            exact List.length_pos_iff.mpr hne
          refine .inl ⟨by show (txs hs).length ≠ 0; omega, _, rfl, iteT ?_⟩
          -- the holder
          refine ⟨fun σ H' => ∃ h, h ∈ hs ∧ σ = [some (.ref p), some (.ref tb), some (.ref th), some (.str (S out)), some (.str (S h)), some (.ref d), some (.str (S [c])), some (num wv), none] ∧ Src H' p (n + 7 + 6 * i + 2) ∧ But p H H' ∧ H' D = some (.lst (sgs all)) ∧ H' d = some (.dK (fkv hf)), ?_, ?_⟩
          · have hs7 := hs6.same s7
            have other : ∀ Q' : VK, (∀ h H', h ∈ hs → Src H' p (n + 7 + 6 * i + 2) → But p H7 H' → Q' (.str (S h)) H') → tCall (spPick K) [] E0 (tCons (tVar 0) (tCons (tVar 2) tNil)) [some (.ref p), some (.ref tb), some (.ref th), some (.str (S out)), v4, some (.ref d), some (.str (S [c])), some (num wv), none] H7 Q' := fun Q' hQ => by
              refine ⟨_, rfl, _, rfl, p, n + 7 + 6 * i + 1, hs7, by omega, .inl ⟨th, _, rfl, hH7, nhp, hl0, by show (hs.map _).length < _; rw [List.length_map]; omega, fun x H8 hx hb8 hs8 => ?_⟩⟩
              obtain ⟨h, hh, rfl⟩ := List.mem_map.mp hx
              exact hQ h H8 hh hs8 hb8
            have fin8 : ∀ h H8, h ∈ hs → Src H8 p (n + 7 + 6 * i + 2) → But p H7 H8 → ∃ h', h' ∈ hs ∧ [some (V.ref p), some (.ref tb), some (.ref th), some (.str (S out)), some (.str (S h)), some (.ref d), some (.str (S [c])), some (num wv), none] = [some (V.ref p), some (.ref tb), some (.ref th), some (.str (S out)), some (.str (S h')), some (.ref d), some (.str (S [c])), some (num wv), none] ∧ Src H8 p (n + 7 + 6 * i + 2) ∧ But p H H8 ∧ H8 D = some (.lst (sgs all)) ∧ H8 d = some (.dK (fkv hf)) :=
              fun h H8 hh hs8 hb8 => ⟨h, hh, rfl, hs8, (hb6'.trans (Same.but s7 p)).trans hb8, hb8 _ _ (s7 _ _ eD6) nDp, hb8 _ _ (s7 _ _ ed6) ndp⟩
            refine ⟨_, rfl, _, _, rfl, rfl, _, rfl, ite2 (fun _ => ?_) (fun _ => ?_)⟩
            · refine ⟨_, rfl, _, rfl, d, _, rfl, DGet.k (k := Sum.inr (S [c])) (s7 _ _ ed6), _, rfl, ?_⟩
              by_cases hin : [c] ∈ hs
              · obtain ⟨f0, g0, _⟩ := getF_some (hf := hf) (h := [c]) (by rw [hk5]; exact hin)
                rw [val_fkv, g0]
                exact iteT ⟨_, rfl, fin8 [c] H7 hin (hs7.le (by omega)) (But.refl p H7)⟩
              · rw [val_fkv, getF_none (by rw [hk5]; exact hin)]
                exact iteF (other _ fun h H8 hh hs8 hb8 => fin8 h H8 hh hs8 hb8)
            · exact iteF (other _ fun h H8 hh hs8 hb8 => fin8 h H8 hh hs8 hb8)
          · rintro σ H8 ⟨h, hh, rfl, hs8, hb8, eD8, ed8⟩
            obtain ⟨f0, g0, m0⟩ := getF_some (hf := hf) (h := h) (by rw [hk5]; exact hh)
            have lf0 := len_le m0
            have lf1 : f0.length ≤ 28 := Nat.le_trans lf0 (by omega)
            have hv : valV (fkv hf) (Sum.inr (S h)) = some (.str (S f0)) := by rw [val_fkv, g0]; rfl
            have lk : (fkv hf).length ≤ 7 := by
              unfold fkv
              rw [List.length_map]
              have := congrArg List.length hk5
              rw [List.length_map] at this
              omega
            refine ⟨_, rfl, _, rfl, d, _, rfl, hv ▸ DGet.k (k := Sum.inr (S h)) ed8, _, rfl, _, rfl, p, n + 7 + 6 * i + 2, out, rfl, hs8, by omega, o0, o1, fun H9 cs hb9 hs9 l9 hc9 => ?_⟩
            refine ⟨_, _, rfl, rfl, by rw [len_S, len_S]; exact Nat.le_of_lt (small1000 (by omega)), _, rfl, _, _, rfl, rfl, by rw [S_app, len_S, len_S, List.length_append]; exact Nat.le_of_lt (small1000 (by show _ + 1 ≤ 1000; omega)), ?_⟩
            rw [S_app, S_app, List.append_assoc]
            have ed9 := hb9 _ _ ed8 ndp
            refine ⟨_, rfl, _, rfl, d, _, rfl, DPut.k (k := Sum.inr (S h)) ed9 (small1000 (by omega)), ?_⟩
            refine ⟨_, _, _, setF hf h (f0 ++ (cs ++ [c])), rfl, ?_, ?_, ?_, ?_, ?_, ?_, ?_⟩
            · exact (hs9.at (upd_ne ndp.symm)).le (by omega)
            · intro b o eb ne
              rw [upd_ne (ne_of_none eb ndH0)]
              exact hb9 _ _ (hb8 _ _ eb ne) ne
            · rw [upd_ne ndD.symm]
              exact hb9 _ _ eD8 nDp
            · rw [upd_same, put_fkv _ (by rw [hk5]; exact hh)]
            · rw [setF_keys, hk5]
            · refine F5.put g0 m0 hc9 dis (fun x hx => by rw [List.mem_singleton.mp hx]; exact hcb) _ fun b hb => ?_
              rw [et, List.count_append]
              exact Nat.le_refl _
            · rw [lenF_put F5.nd g0, List.length_append]
              show _ + (_ + 1) ≤ _
              omega
      · refine iteF ?_
        exact ⟨v4, _, _, hf, rfl, hs6.le (by omega), hb6', eD6, ed6, hk5, more, by omega⟩
    · rintro σ H5 ⟨v4, v6, v7, hf, rfl, hs5, hb5, eD5, ed5, hk5, F5, l5⟩
      have la' : (sgs all).length = all.length := List.length_map _
      rw [la'] at hs5 l5 F5
      rw [List.take_length] at F5
      have F5' : FillOk out boxes boxes hf := ⟨F5.nd, F5.signs, fun b hb => by rw [← hall.count_eq]; exact F5.cnt b hb⟩
      have lH' : hf.length = hs.length := by
        have := congrArg List.length hk5
        rw [List.length_map] at this
        exact this
      -- a last piece for each holder
      refine ⟨_, rfl, th, rfl, ⟨_, hb5.seq nhp hH⟩, for_list (K := K) (a := th) (xs := txs hs) (fun i σ H' => ∃ v4 hf, σ = [some (.ref p), some (.ref tb), some (.ref th), some (.str (S out)), v4, some (.ref d), v6, v7, none] ∧ Src H' p (n + 49 + 4 * i) ∧ But p H H' ∧ H' d = some (.dK (fkv hf)) ∧ hf.map (·.1) = hs ∧ FillOk out boxes boxes hf ∧ lenF hf ≤ 4 * boxes.length + 3 * i)
        ⟨v4, hf, rfl, hs5.le (by omega), hb5, ed5, hk5, F5', by omega⟩ (fun i σ H' _ ⟨_, _, _, _, b, _⟩ => b.seq nhp hH) ?_ ?_⟩
      · rintro i y σ H6 hi ⟨v4, hf, rfl, hs6, hb6, ed6, hk6, F6, l6⟩
        obtain ⟨h, hh, rfl⟩ := List.mem_map.mp (List.mem_of_getElem? hi)
        have hi7 : i < 7 := by
          have := (List.getElem?_eq_some_iff.mp hi).1
          unfold txs at this
          rw [List.length_map] at this
          omega
        obtain ⟨f0, g0, m0⟩ := getF_some (hf := hf) (h := h) (by rw [hk6]; exact hh)
        have lf1 : f0.length ≤ lenF hf := len_le m0
        have hv : valV (fkv hf) (Sum.inr (S h)) = some (.str (S f0)) := by rw [val_fkv, g0]; rfl
        have lk : (fkv hf).length ≤ 7 := by
          unfold fkv
          rw [List.length_map]
          have := congrArg List.length hk6
          rw [List.length_map] at this
          omega
        refine ⟨_, rfl, _, rfl, d, _, rfl, hv ▸ DGet.k (k := Sum.inr (S h)) ed6, _, rfl, _, rfl, p, n + 49 + 4 * i, out, rfl, hs6, by omega, o0, o1, fun H9 cs hb9 hs9 l9 hc9 => ?_⟩
        refine ⟨_, _, rfl, rfl, by rw [len_S, len_S]; exact Nat.le_of_lt (small1000 (by omega)), ?_⟩
        rw [S_app]
        have ed9 := hb9 _ _ ed6 ndp
        refine ⟨_, rfl, _, rfl, d, _, rfl, DPut.k (k := Sum.inr (S h)) ed9 (small1000 (by omega)), ?_⟩
        have ea : f0 ++ cs = f0 ++ (cs ++ []) := by rw [List.append_nil]
        refine ⟨_, setF hf h (f0 ++ cs), rfl, ?_, ?_, ?_, ?_, ?_, ?_⟩
        · exact (hs9.at (upd_ne ndp.symm)).le (by omega)
        · intro b o eb ne
          rw [upd_ne (ne_of_none eb ndH0)]
          exact hb9 _ _ (hb6 _ _ eb ne) ne
        · rw [upd_same, put_fkv _ (by rw [hk6]; exact hh)]
        · rw [setF_keys, hk6]
        · rw [ea]
          exact F6.put g0 m0 hc9 dis (fun x hx => absurd hx (List.not_mem_nil)) _ fun b hb => Nat.le_refl _
        · rw [lenF_put F6.nd g0]
          omega
      · rintro σ H6 ⟨v4, hf, rfl, hs6, hb6, ed6, hk6, F6, l6⟩
        have lt' : (txs hs).length = hs.length := List.length_map _
        rw [lt'] at hs6 l6
        have lh6 : hf.length = hs.length := by
          have := congrArg List.length hk6
          rw [List.length_map] at this
          exact this
        exact ⟨_, rfl, q d H6 hf hb6 (hs6.le (by omega)) ndH0 ed6 hk6 F6 ⟨by omega, by omega⟩⟩
end
end Tb

set_option Elab.async false
set_option linter.all false
set_option maxRecDepth 100000
set_option maxHeartbeats 4000000
/-! set(..) of a list of texts, or of a text's signs, of any number; len of it. -/
namespace Ts
open PySem PySem.Spec PySem.Calls PyProof.Rows
def stepS (σ : List Str) (v : Str) : List Str := if σ.any (· == v) then σ else σ ++ [v]
/-- the first i of them, each once -/
def metS (val : Nat → Str) (i : Nat) : List Str := ((List.range i).map val).foldl stepS []
theorem metS_succ (val : Nat → Str) (i : Nat) : metS val (i + 1) = stepS (metS val i) (val i) := by
  unfold metS
  rw [List.range_succ, List.map_append, List.foldl_append]
  rfl
theorem stepS_len (σ : List Str) (v : Str) : (stepS σ v).length = if σ.any (· == v) then σ.length else σ.length + 1 := by
  unfold stepS
  split <;> simp
theorem metS_le (val : Nat → Str) : ∀ i, (metS val i).length ≤ i
  | 0 => Nat.le_refl _
  | i + 1 => by
    rw [metS_succ, stepS_len]
    have ih := metS_le val i
    split <;> omega
theorem stepS_any (σ : List Str) (v k : Str) : (stepS σ v).any (· == k) = (σ.any (· == k) || decide (k = v)) := by
  unfold stepS
  by_cases h : σ.any (· == v) = true
  · rw [if_pos h]
    by_cases e : k = v
    · subst e
      rw [h]
      simp
    · simp [e]
  · rw [if_neg h, List.any_append]
    by_cases e : k = v
    · subst e
      simp
    · have hb : (v == k) = false := by simpa [beq_iff_eq] using (fun h' : v = k => e h'.symm)
      simp [hb, e]
section
variable {prog : Program} {w : World} {A : Around} {R : Result → Shared → Prop} {I : Addr} {fp wr : List Addr} {G : Array GenState → Array GenState → Prop} {n : Nat} {P : Nat → Value → Prop} {St : Nat → Shared → Prop}
theorem loopS (W : WalksS prog w A.in1 I fp wr G n P St) (b0 : Addr) (hfp : b0 ∉ fp) (val : Nat → Str) (hval : ∀ i v, P i v → ∃ t, v = .str (val i) t) (hb : n + 1 < scanBound) :
    ∀ (k i : Nat) (s : Shared), n - i = k → i ≤ n → St i s → s.heap.SetOf (PySem.strKind prog w) b0 (fun k' => (metS val i).any (· == k')) (metS val i).length →
      (∀ s', Moved (b0 :: wr) G s s' → s'.heap.SetOf (PySem.strKind prog w) b0 (fun k' => (metS val n).any (· == k')) (metS val n).length → R (.ok (.ret .none)) s') →
      codeAny (model prog w) A (.builtin "set.update.loop" ⟨[.ref b0, .ref I], []⟩) R s := by
  have hwr : b0 ∉ wr := fun h => hfp (W.sub _ h)
  have sub : ∀ b ∈ wr, b ∈ b0 :: wr := fun b h => List.mem_cons_of_mem _ h
  intro k
  induction k with
  | zero =>
    intro i s hk hi hst hS hR
    have hin : i = n := by omega
    subst hin
    refine codeAny_builtin PyProof.Rows.F.entry_set_update_loop ?_
    rw [Around.under_plainId PyProof.Rows.F.plain_set_update_loop _]
    show wpAny _ A.in1 (pyNext (.ref I) >>= _) _ _ s
    refine wpAny_bind (W.done s _ _ hst fun s' hm => ?_)
    show wpAny _ A.in1 (ret Value.none) _ _ s'
    refine wpAny_pure (hR s' (hm.mono sub) ?_)
    obtain ⟨o, es, ep, t, ho, rest⟩ := hS
    exact ⟨o, es, ep, t, hm.heap b0 _ hwr ho, rest⟩
  | succ k ih =>
    intro i s hk hi hst hS hR
    have hlt : i < n := by omega
    refine codeAny_builtin PyProof.Rows.F.entry_set_update_loop ?_
    rw [Around.under_plainId PyProof.Rows.F.plain_set_update_loop _]
    show wpAny _ A.in1 (pyNext (.ref I) >>= _) _ _ s
    refine wpAny_bind (W.item i s _ _ hlt hst fun v s' hP hst' hm => ?_)
    obtain ⟨t, rfl⟩ := hval i v hP
    have hS1 : s'.heap.SetOf (PySem.strKind prog w) b0 (fun k' => (metS val i).any (· == k')) (metS val i).length := by
      obtain ⟨o, es, ep, tb, ho, rest⟩ := hS
      exact ⟨o, es, ep, tb, hm.heap b0 _ hwr ho, rest⟩
    show wpAny _ A.in1 (holding [Value.str (val i) t] (setAdd b0 (.str (val i) t)) >>= _) _ _ s'
    refine wpAny_bind (wpAny_holding ?_)
    unfold setAdd
    refine wpAny_holding ?_
    refine wpAny_bind ((PySem.strKind prog w).pyHash (k := val i) (strKind_is _ _ _ _) ?_)
    have room : (metS val i).length + 1 < scanBound := by
      have := metS_le val i
      omega
    refine wpAny_setAddHashed_of (knd := PySem.strKind prog w) (s := { s' with toks := s'.toks + 1 }) (strKind_is _ _ _ _) rfl hS1 room fun h' hsb hS2 => ?_
    have hSi : h'.SetOf (PySem.strKind prog w) b0 (fun k' => (metS val (i + 1)).any (· == k')) (metS val (i + 1)).length :=
      SetOf_congr hS2 (fun k' => by rw [metS_succ, stepS_any]) (by rw [metS_succ, stepS_len])
    refine wpAny_pure ⟨plainId_quiet PyProof.Rows.F.plain_set_update_loop _, ih (i + 1) _ (by omega) hlt (W.frame _ s' _ _ hst' (Nat.le_succ _) fun b hbf o e => ?_) hSi fun s2 hm2 hS2' => ?_⟩
    · rw [hsb.2 b (fun h : b = b0 => hfp (by rw [← h]; exact hbf))]
      exact e
    · refine hR s2 (Moved.trans W.gtrans ((hm.mono sub).then_heap (Nat.le_succ _) fun b o hbw e => ?_) hm2) hS2'
      rw [hsb.2 b (fun h : b = b0 => hbw (by rw [h]; exact List.mem_cons_self))]
      exact e
end
section
variable {prog : Program} {w : World} {A : Around} {E : Value → Shared → Prop} {s : Shared}
abbrev newSet (led : Bool) : Obj := { cls := .type "set", dict := none, data := .set #[] 0 (.fresh 0 0 led) }
set_option maxHeartbeats 6400000 in
theorem set_of_list {l : Addr} {items : Array Value} {val : Nat → Str} {Q : Value → Shared → Prop} (hh : A.handled = none) (hl : s.heap.IsList l items) (hi : ∀ (i : Nat) (v : Value), items[i]? = some v → ∃ t, v = .str (val i) t) (hb : items.size + 1 < scanBound)
    (h : ∀ (h' : Heap) (tk : Nat), h'.SetOf (PySem.strKind prog w) s.heap.objs.size (fun k' => (metS val items.size).any (· == k')) (metS val items.size).length →
      (∀ b o, b < s.heap.objs.size → s.heap.get? b = some o → h'.get? b = some o) → Q (.ref s.heap.objs.size) { s with heap := h', toks := tk }) :
    wpAny (model prog w) A (call (.type "set") [.ref l]) Q E s := by
  obtain ⟨c, tl, hmro⟩ := PySem.F.called_set.mro
  have hmade := PySem.F.called_set.made
  have hsub := PySem.F.called_set.sub
  refine wpAny_call (codeAny_of_tree ?_)
  show wpAny _ _ (callAny (.type "set") _) _ _ _
  refine wpAny_pure ⟨Code.quiet_builtin _ (by decide +kernel), codeAny_builtin PySem.F.entry_type_call ?_⟩
  rw [Around.under_plain (weight_type_call_type "set" [.ref l] []) rfl]
  have h1 := PySem.F.called_set.notType
  have h2 := PySem.F.called_set.canCreate
  have hct := PySem.F.typeCall_set_1 (.ref l)
  repeat (any_goals (first
    | assumption
    | wp_step))
  refine codeAny_mono (code_set_new_1 (.ref l) (E := E) (Q₁ := fun obj s₁ => ∃ led : Bool, obj = .ref s.heap.objs.size ∧ s₁ = { s with heap := s.heap.push (newSet led) }) fun led => ⟨led, rfl, rfl⟩) fun r s₁ hr => ?_
  cases r with
  | error e => exact hr
  | ok fl =>
    cases fl with
    | ret obj =>
      obtain ⟨led, rfl, rfl⟩ := hr
      have hS : (s.heap.push (newSet led)).get? s.heap.objs.size = some (newSet led) := Heap.get?_push_size _ rfl
      have hT : Shared.TypeIs { s with heap := s.heap.push (newSet led) } (.ref s.heap.objs.size) "set" := ⟨_, hS, rfl⟩
      have hli := PySem.F.called_set.init.lookup
      have hbi := PySem.F.called_set.init.bind (.ref s.heap.objs.size)
      repeat (any_goals (first
        | assumption
        | wp_step))
      refine codeAny_mono (codeAny_call_builtin (R := wants (fun r s₂ => r = .none ∧ ∃ h' tk, s₂ = { s with heap := h', toks := tk } ∧ h'.SetOf (PySem.strKind prog w) s.heap.objs.size (fun k' => (metS val items.size).any (· == k')) (metS val items.size).length ∧
          (∀ b o, b < s.heap.objs.size → s.heap.get? b = some o → h'.get? b = some o)) E) PySem.F.called_set.init.plain PySem.F.entry_set_init (check_set_init_1 hT ?_)) fun r₂ s₂ hr₂ => ?_
      · obtain ⟨ol, hol, hcl, nl, hdl⟩ := hl
        obtain ⟨ocls, odict, odata, oslots⟩ := ol
        simp only at hcl hdl
        subst hcl
        subst hdl
        have hol' : (s.heap.push (newSet led)).get? l = some { cls := .type "list", dict := odict, data := .seq items nl, slots := oslots } := Heap.get?_push_of_some _ hol
        have hsls := PySem.F.sub_list_set
        have hslf := PySem.F.sub_list_frozenset
        have hne : (Value.type "list" == Value.type "dict") = false := by decide
        have hl1 : (s.heap.push (newSet led)).IsList l items := ⟨_, hol', rfl, nl, rfl⟩
        unfold Builtin.«set.__init__» noKeywords Builtin.Frozenset.updateFrom
        generalize hPI : pyIter = PI
        wp_walk
        subst hPI
        refine wpAny_pyIter_list hl1 ?_
        refine wpAny_bind (wpAny_runValue ?_)
        have hlS : l < s.heap.objs.size := Heap.lt_size hol
        have hh3 : A.in1.in1.in1.handled = none := by simp [hh]
        have sz : (s.heap.push (newSet led)).objs.size = s.heap.objs.size + 1 := Heap.size_push _ _
        have hneI : l ≠ (s.heap.push (newSet led)).objs.size := by
          rw [sz]
          exact Nat.ne_of_lt (Nat.lt_succ_of_lt hlS)
        have hSf : s.heap.objs.size ∉ [(s.heap.push (newSet led)).objs.size, l] := by
          rw [sz]
          simp only [List.mem_cons, List.not_mem_nil, or_false, not_or]
          exact ⟨Nat.ne_of_lt (Nat.lt_succ_self _), Nat.ne_of_gt hlS⟩
        refine loopS ((Walks.list hh3 _ l hneI items).toS) s.heap.objs.size hSf val hi hb (items.size - 0) 0 _ (by omega) (Nat.zero_le _) ⟨⟨_, Heap.get?_push_size _ rfl, rfl, rfl⟩, (hl1.push _)⟩ ?hS0 ?hR
        case hS0 =>
          have hget : ((s.heap.push (newSet led)).push { cls := .type "list_iterator", data := .fields #[.ref l, .int 0 0] }).get? s.heap.objs.size = some (newSet led) := Heap.get?_push_of_some _ hS
          exact SetOf_congr ((setObjOf_fresh (knd := PySem.strKind prog w) led).setOf hget (by unfold scanBound; omega)) (fun _ => rfl) rfl
        case hR =>
          intro s' hm hS'
          obtain ⟨h', g', d', tk', os'⟩ := s'
          have eg : g' = s.gens := hm.gens
          have ed : d' = s.drawn := hm.drawn
          have eo : os' = s.os := hm.os
          subst eg
          subst ed
          subst eo
          show wpAny _ _ _ _ _ _
          refine wpAny_pure ?_
          show wpAny _ _ (ret Value.none) _ _ _
          refine wpAny_pure ⟨rfl, h', tk', rfl, hS', fun b o hbs e => ?_⟩
          refine hm.heap b o ?_ (Heap.get?_push_of_some _ (Heap.get?_push_of_some _ e))
          rw [sz]
          simp only [List.mem_cons, List.not_mem_nil, or_false, not_or]
          exact ⟨Nat.ne_of_lt hbs, Nat.ne_of_lt (Nat.lt_succ_of_lt hbs)⟩
      · cases r₂ with
        | error e => exact hr₂
        | ok fl₂ =>
          cases fl₂ with
          | ret r =>
            obtain ⟨rfl, h', tk, rfl, hS', hk'⟩ := hr₂
            repeat (any_goals (first
              | assumption
              | wp_step))
            exact h _ _ hS' hk'
          | _ => exact hr₂.elim
    | _ => exact hr.elim
end
end Ts

set_option Elab.async false
set_option linter.all false
set_option maxRecDepth 100000
set_option maxHeartbeats 4000000
namespace Ts
open PySem PySem.Spec PySem.Calls PyProof.Rows
section
variable {prog : Program} {w : World} {A : Around} {E : Value → Shared → Prop} {s : Shared}
set_option maxHeartbeats 6400000 in
theorem set_of_tuple {l : Addr} {items : Array Value} {val : Nat → Str} {Q : Value → Shared → Prop} (hh : A.handled = none) (hl : s.heap.IsTuple l items) (hi : ∀ (i : Nat) (v : Value), items[i]? = some v → ∃ t, v = .str (val i) t) (hb : items.size + 1 < scanBound)
    (h : ∀ (h' : Heap) (tk : Nat), h'.SetOf (PySem.strKind prog w) s.heap.objs.size (fun k' => (metS val items.size).any (· == k')) (metS val items.size).length →
      (∀ b o, b < s.heap.objs.size → s.heap.get? b = some o → h'.get? b = some o) → Q (.ref s.heap.objs.size) { s with heap := h', toks := tk }) :
    wpAny (model prog w) A (call (.type "set") [.ref l]) Q E s := by
  obtain ⟨c, tl, hmro⟩ := PySem.F.called_set.mro
  have hmade := PySem.F.called_set.made
  have hsub := PySem.F.called_set.sub
  refine wpAny_call (codeAny_of_tree ?_)
  show wpAny _ _ (callAny (.type "set") _) _ _ _
  refine wpAny_pure ⟨Code.quiet_builtin _ (by decide +kernel), codeAny_builtin PySem.F.entry_type_call ?_⟩
  rw [Around.under_plain (weight_type_call_type "set" [.ref l] []) rfl]
  have h1 := PySem.F.called_set.notType
  have h2 := PySem.F.called_set.canCreate
  have hct := PySem.F.typeCall_set_1 (.ref l)
  repeat (any_goals (first
    | assumption
    | wp_step))
  refine codeAny_mono (code_set_new_1 (.ref l) (E := E) (Q₁ := fun obj s₁ => ∃ led : Bool, obj = .ref s.heap.objs.size ∧ s₁ = { s with heap := s.heap.push (newSet led) }) fun led => ⟨led, rfl, rfl⟩) fun r s₁ hr => ?_
  cases r with
  | error e => exact hr
  | ok fl =>
    cases fl with
    | ret obj =>
      obtain ⟨led, rfl, rfl⟩ := hr
      have hS : (s.heap.push (newSet led)).get? s.heap.objs.size = some (newSet led) := Heap.get?_push_size _ rfl
      have hT : Shared.TypeIs { s with heap := s.heap.push (newSet led) } (.ref s.heap.objs.size) "set" := ⟨_, hS, rfl⟩
      have hli := PySem.F.called_set.init.lookup
      have hbi := PySem.F.called_set.init.bind (.ref s.heap.objs.size)
      repeat (any_goals (first
        | assumption
        | wp_step))
      refine codeAny_mono (codeAny_call_builtin (R := wants (fun r s₂ => r = .none ∧ ∃ h' tk, s₂ = { s with heap := h', toks := tk } ∧ h'.SetOf (PySem.strKind prog w) s.heap.objs.size (fun k' => (metS val items.size).any (· == k')) (metS val items.size).length ∧
          (∀ b o, b < s.heap.objs.size → s.heap.get? b = some o → h'.get? b = some o)) E) PySem.F.called_set.init.plain PySem.F.entry_set_init (check_set_init_1 hT ?_)) fun r₂ s₂ hr₂ => ?_
      · obtain ⟨ol, hol, hcl, nl, hdl⟩ := hl
        obtain ⟨ocls, odict, odata, oslots⟩ := ol
        simp only at hcl hdl
        subst hcl
        subst hdl
        have hol' : (s.heap.push (newSet led)).get? l = some { cls := .type "tuple", dict := odict, data := .seq items nl, slots := oslots } := Heap.get?_push_of_some _ hol
        have hsls := PySem.F.sub_tuple_set
        have hslf := PySem.F.sub_tuple_frozenset
        have hne : (Value.type "tuple" == Value.type "dict") = false := by decide
        have hl1 : (s.heap.push (newSet led)).IsTuple l items := ⟨_, hol', rfl, nl, rfl⟩
        unfold Builtin.«set.__init__» noKeywords Builtin.Frozenset.updateFrom
        generalize hPI : pyIter = PI
        wp_walk
        subst hPI
        refine wpAny_pyIter_tuple hl1 ?_
        refine wpAny_bind (wpAny_runValue ?_)
        have hlS : l < s.heap.objs.size := Heap.lt_size hol
        have hh3 : A.in1.in1.in1.handled = none := by simp [hh]
        have sz : (s.heap.push (newSet led)).objs.size = s.heap.objs.size + 1 := Heap.size_push _ _
        have hneI : l ≠ (s.heap.push (newSet led)).objs.size := by
          rw [sz]
          exact Nat.ne_of_lt (Nat.lt_succ_of_lt hlS)
        have hSf : s.heap.objs.size ∉ [(s.heap.push (newSet led)).objs.size, l] := by
          rw [sz]
          simp only [List.mem_cons, List.not_mem_nil, or_false, not_or]
          exact ⟨Nat.ne_of_lt (Nat.lt_succ_self _), Nat.ne_of_gt hlS⟩
        refine loopS ((Walks.tuple hh3 _ l hneI items).toS) s.heap.objs.size hSf val hi hb (items.size - 0) 0 _ (by omega) (Nat.zero_le _) ⟨⟨_, Heap.get?_push_size _ rfl, rfl, rfl⟩, (hl1.push _)⟩ ?hS0 ?hR
        case hS0 =>
          have hget : ((s.heap.push (newSet led)).push { cls := .type "tuple_iterator", data := .fields #[.ref l, .int 0 0] }).get? s.heap.objs.size = some (newSet led) := Heap.get?_push_of_some _ hS
          exact SetOf_congr ((setObjOf_fresh (knd := PySem.strKind prog w) led).setOf hget (by unfold scanBound; omega)) (fun _ => rfl) rfl
        case hR =>
          intro s' hm hS'
          obtain ⟨h', g', d', tk', os'⟩ := s'
          have eg : g' = s.gens := hm.gens
          have ed : d' = s.drawn := hm.drawn
          have eo : os' = s.os := hm.os
          subst eg
          subst ed
          subst eo
          show wpAny _ _ _ _ _ _
          refine wpAny_pure ?_
          show wpAny _ _ (ret Value.none) _ _ _
          refine wpAny_pure ⟨rfl, h', tk', rfl, hS', fun b o hbs e => ?_⟩
          refine hm.heap b o ?_ (Heap.get?_push_of_some _ (Heap.get?_push_of_some _ e))
          rw [sz]
          simp only [List.mem_cons, List.not_mem_nil, or_false, not_or]
          exact ⟨Nat.ne_of_lt hbs, Nat.ne_of_lt (Nat.lt_succ_of_lt hbs)⟩
      · cases r₂ with
        | error e => exact hr₂
        | ok fl₂ =>
          cases fl₂ with
          | ret r =>
            obtain ⟨rfl, h', tk, rfl, hS', hk'⟩ := hr₂
            repeat (any_goals (first
              | assumption
              | wp_step))
            exact h _ _ hS' hk'
          | _ => exact hr₂.elim
    | _ => exact hr.elim
end
end Ts

set_option Elab.async false
set_option linter.all false
set_option maxRecDepth 100000
set_option maxHeartbeats 4000000
namespace Ts
open PySem PySem.Spec PySem.Calls PyProof.Rows
section
variable {prog : Program} {w : World} {A : Around} {E : Value → Shared → Prop} {s : Shared}
set_option maxHeartbeats 6400000 in
theorem set_of_str {x : Str} {u : Tok} {val : Nat → Str} {Q : Value → Shared → Prop} (hh : A.handled = none) (hi : ∀ (i : Nat) (v : Value), SignAt x i v → ∃ t, v = .str (val i) t) (hb : x.cps.size + 1 < scanBound)
    (h : ∀ (h' : Heap) (tk : Nat), h'.SetOf (PySem.strKind prog w) s.heap.objs.size (fun k' => (metS val x.cps.size).any (· == k')) (metS val x.cps.size).length →
      (∀ b o, b < s.heap.objs.size → s.heap.get? b = some o → h'.get? b = some o) → Q (.ref s.heap.objs.size) { s with heap := h', toks := tk }) :
    wpAny (model prog w) A (call (.type "set") [.str x u]) Q E s := by
  obtain ⟨c, tl, hmro⟩ := PySem.F.called_set.mro
  have hmade := PySem.F.called_set.made
  have hsub := PySem.F.called_set.sub
  refine wpAny_call (codeAny_of_tree ?_)
  show wpAny _ _ (callAny (.type "set") _) _ _ _
  refine wpAny_pure ⟨Code.quiet_builtin _ (by decide +kernel), codeAny_builtin PySem.F.entry_type_call ?_⟩
  rw [Around.under_plain (weight_type_call_type "set" [.str x u] []) rfl]
  have h1 := PySem.F.called_set.notType
  have h2 := PySem.F.called_set.canCreate
  have hct := PySem.F.typeCall_set_1 (.str x u)
  repeat (any_goals (first
    | assumption
    | wp_step))
  refine codeAny_mono (code_set_new_1 (.str x u) (E := E) (Q₁ := fun obj s₁ => ∃ led : Bool, obj = .ref s.heap.objs.size ∧ s₁ = { s with heap := s.heap.push (newSet led) }) fun led => ⟨led, rfl, rfl⟩) fun r s₁ hr => ?_
  cases r with
  | error e => exact hr
  | ok fl =>
    cases fl with
    | ret obj =>
      obtain ⟨led, rfl, rfl⟩ := hr
      have hS : (s.heap.push (newSet led)).get? s.heap.objs.size = some (newSet led) := Heap.get?_push_size _ rfl
      have hT : Shared.TypeIs { s with heap := s.heap.push (newSet led) } (.ref s.heap.objs.size) "set" := ⟨_, hS, rfl⟩
      have hli := PySem.F.called_set.init.lookup
      have hbi := PySem.F.called_set.init.bind (.ref s.heap.objs.size)
      repeat (any_goals (first
        | assumption
        | wp_step))
      refine codeAny_mono (codeAny_call_builtin (R := wants (fun r s₂ => r = .none ∧ ∃ h' tk, s₂ = { s with heap := h', toks := tk } ∧ h'.SetOf (PySem.strKind prog w) s.heap.objs.size (fun k' => (metS val x.cps.size).any (· == k')) (metS val x.cps.size).length ∧
          (∀ b o, b < s.heap.objs.size → s.heap.get? b = some o → h'.get? b = some o)) E) PySem.F.called_set.init.plain PySem.F.entry_set_init (check_set_init_1 hT ?_)) fun r₂ s₂ hr₂ => ?_
      · have hsls := PySem.F.sub_str_set
        have hslf := PySem.F.sub_str_frozenset
        have hne : (Value.type "str" == Value.type "dict") = false := by decide
        unfold Builtin.«set.__init__» noKeywords Builtin.Frozenset.updateFrom
        generalize hPI : pyIter = PI
        wp_walk
        subst hPI
        refine wpAny_pyIter_str fun oI StI hW hst => ?_
        refine wpAny_bind (wpAny_runValue ?_)
        have hh3 : A.in1.in1.in1.handled = none := by simp [hh]
        have sz : (s.heap.push (newSet led)).objs.size = s.heap.objs.size + 1 := Heap.size_push _ _
        have hSf : s.heap.objs.size ∉ [(s.heap.push (newSet led)).objs.size] := by
          rw [sz]
          simp only [List.mem_cons, List.not_mem_nil, or_false]
          exact Nat.ne_of_lt (Nat.lt_succ_self _)
        refine loopS ((hW _ hh3).toS) s.heap.objs.size hSf val hi hb (x.cps.size - 0) 0 _ (by omega) (Nat.zero_le _) hst ?hS0 ?hR
        case hS0 =>
          have hget : ((s.heap.push (newSet led)).push oI).get? s.heap.objs.size = some (newSet led) := Heap.get?_push_of_some _ hS
          exact SetOf_congr ((setObjOf_fresh (knd := PySem.strKind prog w) led).setOf hget (by unfold scanBound; omega)) (fun _ => rfl) rfl
        case hR =>
          intro s' hm hS'
          obtain ⟨h', g', d', tk', os'⟩ := s'
          have eg : g' = s.gens := hm.gens
          have ed : d' = s.drawn := hm.drawn
          have eo : os' = s.os := hm.os
          subst eg
          subst ed
          subst eo
          show wpAny _ _ _ _ _ _
          refine wpAny_pure ?_
          show wpAny _ _ (ret Value.none) _ _ _
          refine wpAny_pure ⟨rfl, h', tk', rfl, hS', fun b o hbs e => ?_⟩
          refine hm.heap b o ?_ (Heap.get?_push_of_some _ (Heap.get?_push_of_some _ e))
          rw [sz]
          simp only [List.mem_cons, List.not_mem_nil, or_false, not_or]
          exact ⟨Nat.ne_of_lt hbs, Nat.ne_of_lt (Nat.lt_succ_of_lt hbs)⟩
      · cases r₂ with
        | error e => exact hr₂
        | ok fl₂ =>
          cases fl₂ with
          | ret r =>
            obtain ⟨rfl, h', tk, rfl, hS', hk'⟩ := hr₂
            repeat (any_goals (first
              | assumption
              | wp_step))
            exact h _ _ hS' hk'
          | _ => exact hr₂.elim
    | _ => exact hr.elim
end
end Ts

set_option Elab.async false
set_option linter.all false
set_option maxRecDepth 100000
set_option maxHeartbeats 4000000
namespace Tb
open PySem PySem.Spec PyProof.Rows L2 TL
def dedS (xs : List Str) : List Str := xs.foldl Ts.stepS []
theorem metS_list (xs : List Str) : Ts.metS (fun i => xs.getD i Str.empty) xs.length = dedS xs := by
  unfold Ts.metS dedS
  have e : (List.range xs.length).map (fun i => xs.getD i Str.empty) = xs := by
    refine List.ext_getElem (by simp) fun i h1 h2 => ?_
    rw [List.getElem_map, List.getElem_range, List.getD_eq_getElem?_getD, List.getElem?_eq_getElem h2]
    rfl
  rw [e]
/-- len(set(a)), a a list or a tuple of texts, or a text -/
def tLenSetS (K : PySem.W.Frag) (ta : TE) : TE := fun σ H Q => ta σ H fun x H1 =>
  (∃ l, ∃ xs : List Str, x = .ref l ∧ (SqL K H1 l (xs.map V.str) ∨ SqT K H1 l (xs.map V.str)) ∧ xs.length ≤ 1000 ∧ Q (num (dedS xs).length) H1) ∨
  (∃ cs : List Nat, x = .str (S cs) ∧ cs.length ≤ 1000 ∧ Q (num (dedS (cs.map fun c => S [c])).length) H1)
section
variable {X : Cx}
theorem pe_lenSetS {a : Expr} {ta : TE} {p p2 q pos : Pos} (hc : X.calm = true) (hg : Gl X "len") (hm : X.mg "len" = none) (hg2 : Gl X "set") (hm2 : X.mg "set" = none) (ha : PE X a ta)
    (na : starEach [a] X.env = (false, eval a X.env) :: starEach [] X.env := by rfl) : PE X (.Call (.Name "len" p) [.Call (.Name "set" p2) [a] [] q] [] pos) (tLenSetS X.K ta) := by
  refine ⟨fun pins s σ H Q I h => ?_⟩
  refine Call_ (ld_blt I hg hm boot_len ?_)
  refine PyProof.Rows.callWith_builtin1 (PyProof.Rows.args_cons ?_ rfl) rfl rfl
  refine Call_ (ld_blt I hg2 hm2 boot_set ?_)
  refine PyProof.Rows.callWith_type1 (PyProof.Rows.args_cons (thn (ha.run pins s σ H _ I h) fun v s1 ⟨x, H1, I1, r1, q1⟩ => PyProof.Rows.args_nil ?_) na) na rfl
  have scan : (1002 : Nat) < scanBound := by unfold scanBound; decide
  have fin : ∀ (xs : List Str), xs.length ≤ 1000 → Q (num (dedS xs).length) H1 → ∀ (h' : Heap) (tk : Nat), h'.SetOf (PySem.strKind X.prog X.w) s1.heap.objs.size (fun k' => (Ts.metS (fun i => xs.getD i Str.empty) xs.length).any (· == k')) (Ts.metS (fun i => xs.getD i Str.empty) xs.length).length →
      (∀ b o, b < s1.heap.objs.size → s1.heap.get? b = some o → h'.get? b = some o) →
      wpAny (model X.prog X.w) X.A (spliced (backTo pos (starEach [] X.env))) (fun vs s₂ => wpAny (model X.prog X.w) X.A (call (.builtin "len") (Value.ref s1.heap.objs.size :: vs)) (EP X pins σ Q) X.xe s₂) X.xe { s1 with heap := h', toks := tk } := fun xs hl q h' tk hS hk => by
    refine PyProof.Rows.args_nil ?_
    rw [metS_list] at hS
    have hle : (dedS xs).length ≤ xs.length := by
      rw [← metS_list]
      exact Ts.metS_le _ _
    obtain ⟨o, es, ep, t, ho, hex, hd, _, _, _, hf, hn⟩ := hS
    have I2 : Inv X pins σ H1 { s1 with heap := h', toks := tk } := I1.kept fun b o e => hk b o (Heap.lt_size e) e
    exact call_len_set ho hex hd hf (by rw [hn]; omega) ⟨.int (dedS xs).length, H1, I2.tok _, ⟨_, by rw [hn]⟩, q⟩
  have strAt : ∀ (xs : List Str) (its : List Value), Vals (xs.map V.str) its → ∀ (i : Nat) (v : Value), its.toArray[i]? = some v → ∃ t, v = .str (xs.getD i Str.empty) t := by
    intro xs its r i v hv
    rw [List.getElem?_toArray] at hv
    have hlt : i < xs.length := by
      have h1 := (List.getElem?_eq_some_iff.mp hv).1
      rw [← r.length, List.length_map] at h1
      exact h1
    obtain ⟨u, hu, ru⟩ := r.get (i := i) (x := V.str xs[i]) (by rw [List.getElem?_map, List.getElem?_eq_getElem hlt]; rfl)
    rw [hv] at hu
    cases hu
    obtain ⟨t, e⟩ := ru
    exact ⟨t, by rw [e, List.getD_eq_getElem?_getD, List.getElem?_eq_getElem hlt]; rfl⟩
  rcases q1 with ⟨l, xs, rfl, hq, hl, q1⟩ | ⟨cs, rfl, hl, q1⟩
  · cases r1
    rcases hq with hq | hq
    · obtain ⟨its, r, pl, hz⟩ := I1.list hq
      have sz : its.toArray.size = xs.length := by rw [List.size_toArray, ← r.length, List.length_map]
      exact Ts.set_of_list (val := fun i => xs.getD i Str.empty) (I1.ok.hd hc) pl.isList (strAt xs its r) (by omega) fun h' tk hS hk => fin xs hl q1 h' tk (by rw [sz] at hS; exact hS) hk
    · obtain ⟨its, r, pl, hz⟩ := I1.tuple hq
      have sz : its.toArray.size = xs.length := by rw [List.size_toArray, ← r.length, List.length_map]
      exact Ts.set_of_tuple (val := fun i => xs.getD i Str.empty) (I1.ok.hd hc) pl (strAt xs its r) (by omega) fun h' tk hS hk => fin xs hl q1 h' tk (by rw [sz] at hS; exact hS) hk
  · obtain ⟨t, rfl⟩ := r1
    have sz : (S cs).cps.size = (cs.map fun c => S [c]).length := by
      rw [List.length_map]
      rfl
    refine Ts.set_of_str (val := fun i => (cs.map fun c => S [c]).getD i Str.empty) (I1.ok.hd hc) (fun i v ⟨c, u, hcv, e⟩ => ⟨u, ?_⟩) (by rw [sz, List.length_map]; omega) fun h' tk hS hk => fin (cs.map fun c => S [c]) (by rw [List.length_map]; exact hl) q1 h' tk (by rw [sz] at hS; exact hS) hk
    have hc' : cs[i]? = some c := by
      rw [show (S cs).cps = cs.toArray from rfl, List.getElem?_toArray] at hcv
      exact hcv
    rw [e, List.getD_eq_getElem?_getD, List.getElem?_map, hc']
    rfl
end
/-! ### are they different -/
theorem dedS_nodup : ∀ (xs acc : List Str), (acc ++ xs).Nodup → xs.foldl Ts.stepS acc = acc ++ xs
  | [], acc, _ => (List.append_nil acc).symm
  | x :: r, acc, nd => by
    have hno : x ∉ acc := fun z => by
      rw [List.nodup_append] at nd
      exact nd.2.2 x z x List.mem_cons_self rfl
    have e : Ts.stepS acc x = acc ++ [x] := by
      unfold Ts.stepS
      rw [if_neg]
      intro z
      obtain ⟨y, hy, e⟩ := List.any_eq_true.mp z
      rw [beq_iff_eq.mp e] at hy
      exact hno hy
    rw [List.foldl_cons, e, dedS_nodup r (acc ++ [x]) (by rw [List.append_assoc]; exact nd), List.append_assoc]
    rfl
theorem dedS_len {xs : List Str} (nd : xs.Nodup) : (dedS xs).length = xs.length := by
  unfold dedS
  rw [dedS_nodup xs [] nd]
  rfl
theorem dedS_grow : ∀ (xs acc : List Str), (xs.foldl Ts.stepS acc).length ≤ acc.length + xs.length
  | [], acc => Nat.le_refl _
  | x :: r, acc => by
    rw [List.foldl_cons, List.length_cons]
    have h1 := dedS_grow r (Ts.stepS acc x)
    have h2 := Ts.stepS_len acc x
    split at h2 <;> omega
theorem stepS_mem {acc : List Str} {x y : Str} (h : y ∈ acc) : y ∈ Ts.stepS acc x := by
  unfold Ts.stepS
  split
  · exact h
  · exact List.mem_append_left _ h
theorem dedS_less : ∀ (xs acc : List Str), ((∃ x ∈ xs, x ∈ acc) ∨ ¬ xs.Nodup) → (xs.foldl Ts.stepS acc).length < acc.length + xs.length
  | [], acc, h => by
    rcases h with ⟨x, hx, _⟩ | h
    · exact (nomatch hx)
    · exact absurd List.nodup_nil h
  | x :: r, acc, h => by
    rw [List.foldl_cons, List.length_cons]
    have h2 := Ts.stepS_len acc x
    by_cases hx : acc.any (· == x) = true
    · rw [if_pos hx] at h2
      have h1 := dedS_grow r (Ts.stepS acc x)
      omega
    · rw [if_neg hx] at h2
      have hxn : x ∉ acc := fun z => hx (List.any_eq_true.mpr ⟨x, z, beq_self_eq_true x⟩)
      have h1 : (∃ y ∈ r, y ∈ Ts.stepS acc x) ∨ ¬ r.Nodup := by
        rcases h with ⟨y, hy, hya⟩ | h
        · rcases List.mem_cons.mp hy with e | e
          · rw [e] at hya
            exact absurd hya hxn
          · exact .inl ⟨y, e, stepS_mem hya⟩
        · by_cases hr : r.Nodup
          · refine .inl ⟨x, Classical.byContradiction fun z => h (List.nodup_cons.mpr ⟨z, hr⟩), ?_⟩
            unfold Ts.stepS
            rw [if_neg hx]
            exact List.mem_append_right _ List.mem_cons_self
          · exact .inr hr
      have h3 := dedS_less r _ h1
      omega
theorem dedS_iff (xs : List Str) : (dedS xs).length = xs.length ↔ xs.Nodup := by
  constructor
  · intro h
    refine Classical.byContradiction fun z => ?_
    have h1 := dedS_less xs [] (.inr z)
    unfold dedS at h
    simp at h1
    omega
  · exact dedS_len
end Tb

set_option Elab.async false
set_option linter.all false
set_option maxRecDepth 100000
set_option maxHeartbeats 2000000
namespace Tb
open PySem PySem.Spec PyProof.Rows L2 TL
/-! ### list(text) -/
def rListStr : List V → Hp → VK → Prop := fun xs H Q => ∃ cs : List Nat, xs = [.str (S cs)] ∧ cs.length ≤ 1000 ∧ New H (.lst (sgs cs)) Q
theorem vals_signs : ∀ (cs : List Nat) (us : List Value), us.length = cs.length → (∀ (j : Nat) v, us[j]? = some v → ∃ c t, cs[j]? = some c ∧ v = .str (S [c]) t) → Vals (sgs cs) us
  | [], [], _, _ => .nil
  | c :: cs, u :: us, hl, h => by
    obtain ⟨c', t, e, hu⟩ := h 0 u rfl
    cases e
    exact .cons ⟨t, hu⟩ (vals_signs cs us (Nat.succ.inj hl) fun j v hv => h (j + 1) v hv)
theorem call_listStr {X : Cx} (hc : X.calm = true) : CallR X (.type "list") rListStr := by
  intro pins s σ H xs us Q I r h
  obtain ⟨cs, rfl, hl, q⟩ := h
  obtain ⟨u, rfl, t, rfl⟩ := vals1 r
  have sz : (S cs).cps.size = cs.length := rfl
  have line : (1000 : Nat) ≤ sizeLine := by decide
  refine PySem.call_list_str (I.ok.hd hc) (S cs) t (hn := by rw [sz]; omega) fun h' tk acc c' k hS hacc => ?_
  have hv : Vals (sgs cs) acc.toList := vals_signs cs acc.toList (by rw [Array.length_toList, hacc.1, sz]) fun j v hv => by
    obtain ⟨c, u, e1, e2⟩ := hacc.2 j v (by simpa using hv)
    refine ⟨c, u, ?_, e2⟩
    rw [show (S cs).cps = cs.toArray from rfl, List.getElem?_toArray] at e1
    exact e1
  have hz : (sgs cs).length ≤ sizeLine := by
    unfold sgs
    rw [List.length_map]
    omega
  exact ⟨.ref s.heap.objs.size, _, I.laid (t' := tk) k (Nat.le_refl _) (show ObjOk X.prog X.w _ h' _ (.lst (sgs cs)) from ⟨hz, acc.toList, c', hv, by simpa using hS⟩), rfl, q.at _ (I.hok.fresh (Nat.le_refl _))⟩
/-! ### the parts of a program -/
structure Mv where
  pl : List Nat
  lt : Nat
  to : List Nat
  fl : Fil
structure Pt where
  letters : List Nat
  boxes : List Nat
  places : List (List Nat)
  moves : List Mv
  ends : Fil
def Mv.key (m : Mv) : List Key := [Sum.inr (S m.pl), Sum.inr (S [m.lt])]
/-- what stands under a key of the moves -/
def MvAt (H : Hp) (kv : List Key × V) (m : Mv) : Prop := kv.1 = m.key ∧ ∃ t d, kv.2 = .ref t ∧ H t = some (.tup [.str (S m.to), .ref d]) ∧ H d = some (.dK (fkv m.fl))
structure PtAt (H : Hp) (L : Addr) (pt : Pt) : Prop where
  ex : ∃ tp tm te kvs, H L = some (.lst [.str (S pt.letters), .str (S pt.boxes), .ref tp, .ref tm, .ref te]) ∧ H tp = some (.lst (txs pt.places)) ∧ H tm = some (.dT kvs) ∧ Paired (MvAt H) kvs pt.moves ∧ H te = some (.dK (fkv pt.ends))
theorem MvAt.same {H H' : Hp} (s : Same H H') {kv : List Key × V} {m : Mv} (h : MvAt H kv m) : MvAt H' kv m := by
  obtain ⟨e, t, d, h1, h2, h3⟩ := h
  exact ⟨e, t, d, h1, s _ _ h2, s _ _ h3⟩
theorem MvAt.but {H H' : Hp} {p : Addr} {n : Nat} (hp : Src H p n) (s : But p H H') {kv : List Key × V} {m : Mv} (h : MvAt H kv m) : MvAt H' kv m := by
  obtain ⟨e, t, d, h1, h2, h3⟩ := h
  obtain ⟨o, ho, g, sd, c, rfl, _⟩ := hp
  exact ⟨e, t, d, h1, s _ _ h2 (ne_of h2 ho (by intro z; cases z)), s _ _ h3 (ne_of h3 ho (by intro z; cases z))⟩
theorem PtAt.same {H H' : Hp} (s : Same H H') {L : Addr} {pt : Pt} (h : PtAt H L pt) : PtAt H' L pt := by
  obtain ⟨tp, tm, te, kvs, h1, h2, h3, h4, h5⟩ := h.ex
  exact ⟨tp, tm, te, kvs, s _ _ h1, s _ _ h2, s _ _ h3, Paired.mono (fun _ _ z => z.same s) h4, s _ _ h5⟩
/-- drawn fillings: each sign is a lower letter or a box, no box stands twice -/
structure FilOk (boxes : List Nat) (fs : List (List Nat)) : Prop where
  sg : ∀ f ∈ fs, ∀ c ∈ f, (97 ≤ c ∧ c ≤ 122) ∨ c ∈ boxes
  one : ∀ b ∈ boxes, fs.flatten.count b ≤ 1
  len : fs.flatten.length ≤ 100
  ti : fs.flatten.length ≤ 4 * boxes.length + 3 * fs.length
structure GoodP (pt : Pt) : Prop where
  l1 : 1 ≤ pt.letters.length
  l5 : pt.letters.length ≤ 5
  ll : ∀ c ∈ pt.letters, 97 ≤ c ∧ c ≤ 122
  ln : pt.letters.Nodup
  b6 : pt.boxes.length ≤ 6
  bb : ∀ c ∈ pt.boxes, 65 ≤ c ∧ c ≤ 90
  bn : pt.boxes.Nodup
  p1 : 1 ≤ pt.places.length
  p8 : pt.places.length ≤ 8
  pn : pt.places.Nodup
  pp : ∀ x ∈ pt.places, NameL x
  ky : (pt.moves.map fun m => (m.pl, m.lt)).Nodup
  mv : ∀ m ∈ pt.moves, m.pl ∈ pt.places ∧ m.lt ∈ pt.letters ∧ m.to ∈ pt.places ∧ m.fl.map (·.1) = pt.boxes.map (fun b => [b]) ∧ FilOk pt.boxes (m.fl.map (·.2))
  ek : (pt.ends.map (·.1)).Nodup
  en : ∀ q ∈ pt.ends, q.1 ∈ pt.places ∧ FilOk pt.boxes [q.2]
theorem putK_end {κ : Type} [DecidableEq κ] {kvs : List (κ × V)} {k : κ} (v : V) (h : k ∉ kvs.map (·.1)) : putK kvs k v = kvs ++ [(k, v)] := by
  unfold putK
  rw [if_neg]
  intro z
  obtain ⟨u, hu, e⟩ := List.any_eq_true.mp z
  exact h (List.mem_map.mpr ⟨u, hu, of_decide_eq_true e⟩)
theorem keys_of {H : Hp} : ∀ {kvs : List (List Key × V)} {ms : List Mv}, Paired (MvAt H) kvs ms → kvs.map (·.1) = ms.map Mv.key
  | _, _, .nil => rfl
  | _, _, .cons h t => by
    rw [List.map_cons, List.map_cons, h.1, keys_of t]
theorem key_inj {m : Mv} {pl : List Nat} {c : Nat} (h : m.key = [Sum.inr (S pl), Sum.inr (S [c])]) : m.pl = pl ∧ m.lt = c := by
  injection h with h1 h2
  injection h2 with h3 _
  have e := key_S.mp h3
  injection e with e1 _
  exact ⟨key_S.mp h1, e1⟩
def xyz : List Nat := [88, 89, 90, 65, 66, 80, 81]
theorem xyz_str : Str.ofString "XYZABPQ" = S xyz := by decide +kernel
def outs : List (List Nat) := [[97, 98], [97, 122], [97, 98, 99], [120]]
theorem outs_str : txs outs = [.str (Str.ofString "ab"), .str (Str.ofString "az"), .str (Str.ofString "abc"), .str (Str.ofString "x")] := by
  have h1 : Str.ofString "ab" = S [97, 98] := by decide +kernel
  have h2 : Str.ofString "az" = S [97, 122] := by decide +kernel
  have h3 : Str.ofString "abc" = S [97, 98, 99] := by decide +kernel
  have h4 : Str.ofString "x" = S [120] := by decide +kernel
  rw [h1, h2, h3, h4]
  rfl
theorem outs_ok {o : List Nat} (h : o ∈ outs) : 0 < o.length ∧ o.length ≤ 3 ∧ ∀ c ∈ o, 97 ≤ c ∧ c ≤ 122 := by
  have h' : ∀ o ∈ outs, 0 < o.length ∧ o.length ≤ 3 ∧ (o.all fun c => decide (97 ≤ c ∧ c ≤ 122)) = true := by decide
  obtain ⟨a, b, c⟩ := h' o h
  exact ⟨a, b, fun x hx => of_decide_eq_true (List.all_eq_true.mp c x hx)⟩
theorem end_str : Str.ofString "end" = S [101, 110, 100] := by decide +kernel
def MvOk (boxes letters : List Nat) (places : List (List Nat)) (m : Mv) : Prop := m.pl ∈ places ∧ m.lt ∈ letters ∧ m.to ∈ places ∧ m.fl.map (·.1) = boxes.map (fun b => [b]) ∧ FilOk boxes (m.fl.map (·.2))
structure MsOk (boxes letters : List Nat) (places done : List (List Nat)) (cur : List Nat) (sofar : List Nat) (ms : List Mv) : Prop where
  nd : (ms.map fun m => (m.pl, m.lt)).Nodup
  ok : ∀ m ∈ ms, MvOk boxes letters places m
  wh : ∀ m ∈ ms, m.pl ∈ done ∨ (m.pl = cur ∧ m.lt ∈ sofar)
structure EsOk (boxes : List Nat) (places done : List (List Nat)) (es : Fil) : Prop where
  nd : (es.map (·.1)).Nodup
  ok : ∀ q ∈ es, q.1 ∈ places ∧ FilOk boxes [q.2]
  wh : ∀ q ∈ es, q.1 ∈ done
/-- a move, its fillings apart from te -/
def MvX (te : Addr) (H : Hp) (kv : List Key × V) (m : Mv) : Prop := kv.1 = m.key ∧ ∃ t d, kv.2 = .ref t ∧ H t = some (.tup [.str (S m.to), .ref d]) ∧ H d = some (.dK (fkv m.fl)) ∧ d ≠ te
theorem MvX.at {te : Addr} {H : Hp} {kv : List Key × V} {m : Mv} (h : MvX te H kv m) : MvAt H kv m := by
  obtain ⟨e, t, d, a, b, c, _⟩ := h
  exact ⟨e, t, d, a, b, c⟩
/-- what the drawing of a program holds meanwhile -/
structure PgAt (H : Hp) (tb tpl tm te : Addr) (boxes : List Nat) (places : List (List Nat)) (ms : List Mv) (es : Fil) : Prop where
  b : H tb = some (.lst (sgs boxes))
  pl : H tpl = some (.lst (txs places))
  m : ∃ kvs, H tm = some (.dT kvs) ∧ Paired (MvX te H) kvs ms
  e : H te = some (.dK (fkv es))
theorem PgAt.same {H H' : Hp} {tb tpl tm te : Addr} {boxes : List Nat} {places : List (List Nat)} {ms : List Mv} {es : Fil} (G : PgAt H tb tpl tm te boxes places ms es) (s : Same H H') : PgAt H' tb tpl tm te boxes places ms es := by
  obtain ⟨kvs, h1, h2⟩ := G.m
  refine ⟨s _ _ G.b, s _ _ G.pl, ⟨kvs, s _ _ h1, Paired.mono (fun _ _ z => ?_) h2⟩, s _ _ G.e⟩
  obtain ⟨e, t, d, a, b, c, n⟩ := z
  exact ⟨e, t, d, a, s _ _ b, s _ _ c, n⟩
theorem PgAt.but {H H' : Hp} {p tb tpl tm te : Addr} {n : Nat} {boxes : List Nat} {places : List (List Nat)} {ms : List Mv} {es : Fil} (G : PgAt H tb tpl tm te boxes places ms es) (hp : Src H p n) (n1 : tb ≠ p) (n2 : tpl ≠ p) (s : But p H H') : PgAt H' tb tpl tm te boxes places ms es := by
  obtain ⟨kvs, h1, h2⟩ := G.m
  obtain ⟨o, ho, g, sd, c, rfl, _⟩ := id hp
  refine ⟨s _ _ G.b n1, s _ _ G.pl n2, ⟨kvs, s _ _ h1 (ne_of h1 ho (by intro z; cases z)), Paired.mono (fun _ _ z => ?_) h2⟩, s _ _ G.e (ne_of G.e ho (by intro z; cases z))⟩
  obtain ⟨e, t, d, a, b, c, n⟩ := z
  exact ⟨e, t, d, a, s _ _ b (ne_of b ho (by intro z; cases z)), s _ _ c (ne_of c ho (by intro z; cases z)), n⟩
/-- a move more -/
theorem PgAt.put {H : Hp} {tb tpl tm te t d : Addr} {boxes : List Nat} {places : List (List Nat)} {ms : List Mv} {es : Fil} {kvs : List (List Key × V)} (G : PgAt H tb tpl tm te boxes places ms es) (h1 : H tm = some (.dT kvs)) (h2 : Paired (MvX te H) kvs ms) (m : Mv) (hk : m.key ∉ kvs.map (·.1))
    (ht : H t = some (.tup [.str (S m.to), .ref d])) (hd : H d = some (.dK (fkv m.fl))) (nd : d ≠ te) : PgAt (upd H tm (.dT (putK kvs m.key (.ref t)))) tb tpl tm te boxes places (ms ++ [m]) es := by
  refine ⟨by rw [upd_ne (ne_of G.b h1 (by intro z; cases z))]; exact G.b, by rw [upd_ne (ne_of G.pl h1 (by intro z; cases z))]; exact G.pl, ⟨_, upd_same, ?_⟩, by rw [upd_ne (ne_of G.e h1 (by intro z; cases z))]; exact G.e⟩
  rw [putK_end _ hk]
  refine (Paired.mono (fun kv m' z => ?_) h2).snoc ?_
  · obtain ⟨e, t', d', a, b, c, n⟩ := z
    exact ⟨e, t', d', a, by rw [upd_ne (ne_of b h1 (by intro z; cases z))]; exact b, by rw [upd_ne (ne_of c h1 (by intro z; cases z))]; exact c, n⟩
  · exact ⟨rfl, t, d, rfl, by rw [upd_ne (ne_of ht h1 (by intro z; cases z))]; exact ht, by rw [upd_ne (ne_of hd h1 (by intro z; cases z))]; exact hd, nd⟩
/-- an end more -/
theorem PgAt.pute {H : Hp} {tb tpl tm te : Addr} {boxes : List Nat} {places : List (List Nat)} {ms : List Mv} {es es2 : Fil} (G : PgAt H tb tpl tm te boxes places ms es) : PgAt (upd H te (.dK (fkv es2))) tb tpl tm te boxes places ms es2 := by
  obtain ⟨kvs, h1, h2⟩ := G.m
  refine ⟨by rw [upd_ne (ne_of G.b G.e (by intro z; cases z))]; exact G.b, by rw [upd_ne (ne_of G.pl G.e (by intro z; cases z))]; exact G.pl, ⟨kvs, by rw [upd_ne (ne_of h1 G.e (by intro z; cases z))]; exact h1, Paired.mono (fun _ _ z => ?_) h2⟩, upd_same⟩
  obtain ⟨e, t, d, a, b, c, n⟩ := z
  exact ⟨e, t, d, a, by rw [upd_ne (ne_of b G.e (by intro z; cases z))]; exact b, by rw [upd_ne n]; exact c, n⟩
theorem keysX {te : Addr} {H : Hp} : ∀ {kvs : List (List Key × V)} {ms : List Mv}, Paired (MvX te H) kvs ms → kvs.map (·.1) = ms.map Mv.key
  | _, _, .nil => rfl
  | _, _, .cons h t => by
    rw [List.map_cons, List.map_cons, h.1, keysX t]
theorem fil_of {out boxes : List Nat} {hf : Fil} (F : FillOk out boxes boxes hf) (ho : ∀ c ∈ out, 97 ≤ c ∧ c ≤ 122) (bn : boxes.Nodup) (hl : lenF hf ≤ 100 ∧ lenF hf ≤ 4 * boxes.length + 3 * hf.length) : FilOk boxes (hf.map (·.2)) where
  sg := fun f hf' c hc => by
    obtain ⟨q, hq, rfl⟩ := List.mem_map.mp hf'
    rcases F.signs q hq c hc with h | h
    · exact .inl (ho c h)
    · exact .inr h
  one := fun b hb => Nat.le_trans (F.cnt b hb) (List.nodup_iff_count.mp bn b)
  len := hl.1
  ti := by
    rw [List.length_map]
    exact hl.2
theorem fkv_put {es : Fil} {h : List Nat} (f : List Nat) (hk : h ∉ es.map (·.1)) : putK (fkv es) (Sum.inr (S h)) (.str (S f)) = fkv (es ++ [(h, f)]) := by
  rw [putK_end]
  · unfold fkv
    rw [List.map_append]
    rfl
  · intro z
    obtain ⟨kv, hkv, e⟩ := List.mem_map.mp z
    obtain ⟨q, hq, rfl⟩ := List.mem_map.mp hkv
    exact hk (List.mem_map.mpr ⟨q, hq, key_S.mp e⟩)
section
variable {P : Program} {w : World} {K : PySem.W.Frag} {mg : Str → Option Value} {base : Heap}
abbrev nProgram : List Str := ["_law_source_here", "_law_letters", "_law_most_boxes", "_law_most_places", "_law_boxes", "_law_places", "_law_out", "_law_moves", "_law_ends", "_law_place", "_law_letter"]
theorem scProgram : FnScope nProgram ["_law_source_here", "_law_letters", "_law_most_boxes", "_law_most_places"] (defScope sProgram) := ⟨rfl, rfl, rfl, by decide +kernel, rfl, by decide +kernel, by decide +kernel⟩
def spProgram : Sp := fun vs H Q _ => ∃ (p : Addr) (n mb mp : Nat) (letters : List Nat), vs = [.ref p, .str (S letters), num mb, num mp] ∧ Src H p n ∧ n + 6000 < 1000000 ∧ 1 ≤ letters.length ∧ letters.length ≤ 5 ∧ letters.Nodup ∧ (∀ c ∈ letters, 97 ≤ c ∧ c ≤ 122) ∧ mb ≤ 6 ∧ 1 ≤ mp ∧ mp ≤ 8 ∧
  ∀ L H' (pt : Pt), But p H H' → Src H' p (n + 6000) → H L = none → PtAt H' L pt → GoodP pt → pt.letters = letters → pt.boxes.length ≤ mb → pt.places.length ≤ mp → Q (.ref L) H'
theorem ok_program {f : Addr} {fd : FuncData} {k : Nat} (F : Fun K "_law_program" "_law_program" sProgram f fd) (DD : Df P w K mg base (k + 1) "_law_draw" ["_law_source_here", "_law_many"] spDrawS) (DP : Df P w K mg base (k + 2) "_law_pick" ["_law_source_here", "_law_things"] (spPick K))
    (DS : Df P w K mg base (k + 3) "_law_signs" ["_law_source_here", "_law_signs_here", "_law_many"] spSigns) (DN : Df P w K mg base (k + 3) "_law_names" ["_law_source_here", "_law_many"] spNames) (DF : Df P w K mg base (k + 4) "_law_fill" ["_law_source_here", "_law_boxes", "_law_holders", "_law_out"] (spFill K))
    (mt : mg "list" = none) : FnOk P w K mg base CX0 (k + 5) f fd ["_law_source_here", "_law_letters", "_law_most_boxes", "_law_most_places"] spProgram := by
  refine F.ok scProgram (fun vs H Q E h => ?_) (fun cdv A outer s H vs Q E hr h => ?_)
  · obtain ⟨p, n, mb, mp, letters, rfl, _⟩ := h
    rfl
  · obtain ⟨p, n, mb, mp, letters, rfl, hp, hn, l1, l5, ln, ll, hmb, hmp1, hmp, q⟩ := h
    have hu := hu_of hr
    refine ⟨_, pss_cons (ps_set (i := 4) scProgram.nd rfl (.inl rfl) (pe_callTy (call_listStr rfl) (by rfl) mt (by decide +kernel) (pa_cons (pe_df DS hr (pa_cons (pv 0) (pa_cons pe_str (pa_cons (pe_df DD hr (pa_cons (pv 0) (pa_cons (pe_op op_add (pv 2) pe_int) pa_nil))) pa_nil)))) pa_nil)))
      (pss_cons (ps_set (i := 5) scProgram.nd rfl (.inl rfl) (pe_df DN hr (pa_cons (pv 0) (pa_cons (pe_op op_add pe_int (pe_df DD hr (pa_cons (pv 0) (pa_cons (pv 3) pa_nil)))) pa_nil))))
      (pss_cons (ps_par3 (i := 6) (j := 7) (l := 8) (by rfl) scProgram.nd rfl rfl rfl (by decide) (by decide) (by decide) rfl rfl rfl (pa_cons (pe_df DP hr (pa_cons (pv 0) (pa_cons (pe_lstS (pa_cons pe_str (pa_cons pe_str (pa_cons pe_str (pa_cons pe_str pa_nil))))) pa_nil))) (pa_cons pe_newT (pa_cons pe_newK pa_nil))) (by rfl))
      (pss_cons (ps_for PassesOwn.never rfl (pi_list (pv 5)) (pg_name (i := 9) scProgram.nd rfl (.inl rfl))
        (pss_cons (ps_for PassesOwn.never rfl (pi_str (pv 1)) (pg_name (i := 10) scProgram.nd rfl (.inl rfl))
          (pss_one (ps_if (pt_cmpR op_gt (pe_df DD hr (pa_cons (pv 0) (pa_cons pe_int pa_nil))) pe_int (nomark _))
            (pss_one (ps_dput hu (pv 7) (pe_tupS (pa_cons (pv 9) (pa_cons (pv 10) pa_nil))) (pe_tupS (pa_cons (pe_df DP hr (pa_cons (pv 0) (pa_cons (pv 5) pa_nil))) (pa_cons (pe_df DF hr (pa_cons (pv 0) (pa_cons (pv 4) (pa_cons (pv 4) (pa_cons (pv 6) pa_nil))))) pa_nil))) rfl)) pss_nil)))
        (pss_one (ps_if (pt_cmpR op_gt (pe_df DD hr (pa_cons (pv 0) (pa_cons pe_int pa_nil))) pe_int (nomark _))
          (pss_one (ps_dput hu (pv 8) (pv 9) (pe_dget hu (pe_df DF hr (pa_cons (pv 0) (pa_cons (pv 4) (pa_cons (pe_lstS (pa_cons pe_str pa_nil)) (pa_cons (pv 6) pa_nil))))) pe_str (fun _ _ => rfl)) rfl)) pss_nil))))
      (pss_one (ps_ret (pe_lstS (pa_cons (pv 1) (pa_cons (pe_join pe_str (pv 4)) (pa_cons (pv 5) (pa_cons (pv 7) (pa_cons (pv 8) pa_nil))))))))))), ?_⟩
    -- the boxes
    refine ⟨_, rfl, _, rfl, _, rfl, _, _, rfl, rfl, p, ((mb : Int) + 1), n, rfl, hp, by omega, by omega, by omega, fun d1 H1 hd1 hb1 hs1 => ?_⟩
    refine ⟨p, n + 1, d1, xyz, by rw [← xyz_str]; rfl, hs1, by show n + 1 + 7 < _; omega, by decide, fun H2 all hb2 hs2 hperm => ?_⟩
    have hall : all.length = 7 := hperm.length_eq
    have hbx : ∀ b ∈ all.take d1, b ∈ xyz := fun b hb => hperm.mem_iff.mp (List.mem_of_mem_take hb)
    have hbn : (all.take d1).Nodup := (List.take_sublist d1 all).nodup (hperm.nodup_iff.mpr (by decide))
    have hbl : (all.take d1).length ≤ mb := by
      rw [List.length_take]
      omega
    generalize all.take d1 = boxes at hbx hbn hbl
    refine ⟨boxes, rfl, by omega, fun tb H3 s3 nb e3 => ?_⟩
    have hb13 : But p H H3 := hb1.trans (hb2.trans (Same.but s3 p))
    have hs3 : Src H3 p (n + 8) := (hs2.same s3)
    have ntb : tb ≠ p := ne_src hs2 nb
    -- the places
    refine ⟨_, rfl, _, rfl, _, rfl, p, (mp : Int), n + 8, rfl, hs3, by omega, by omega, by omega, fun d2 H4 hd2 hb4 hs4 => ?_⟩
    refine ⟨_, _, rfl, rfl, p, n + 9, 1 + d2, congrArg (fun i : Int => [V.ref p, V.int i]) (show (1 + (d2 : Int)) = ((1 + d2 : Nat) : Int) by omega), hs4, by omega, by omega, fun tpl H5 places hb5 hs5 np5 e5 lpl hpp hpn => ?_⟩
    have ntpl : tpl ≠ p := ne_src hs4 np5
    have hs5' : Src H5 p (n + 89) := hs5.le (by omega)
    -- the letters that are told, no moves, no ends
    refine ⟨_, rfl, by show 4 ≤ sizeLine; decide, fun L4 H6 s6 n6 e6 => ?_⟩
    rw [← outs_str] at e6
    refine ⟨p, n + 89, hs5'.same s6, by omega, .inl ⟨L4, _, rfl, SqL.of e6, ne_src hs5' n6, by decide, by decide, fun x H7 hx hb7 hs7 => ?_⟩⟩
    obtain ⟨out, hout, rfl⟩ := List.mem_map.mp hx
    obtain ⟨o0, o3, ho⟩ := outs_ok hout
    refine fun tm H8 s8 n8 e8 => fun te H9 s9 n9 e9 => ⟨_, _, _, rfl, ?_⟩
    have s89 := s8.trans s9
    have hs9 : Src H9 p (n + 90) := hs7.same s89
    have hb9 : But p H H9 := hb13.trans (hb4.trans (hb5.trans ((Same.but s6 p).trans (hb7.trans (Same.but s89 p)))))
    have ntm : tm ≠ p := ne_src hs7 n8
    have nte : te ≠ p := ne_src (hs7.same s8) n9
    have back : ∀ {q : Addr} {Hm : Hp}, q ≠ p → But p H Hm → Hm q = none → H q = none := fun {q Hm} nq hb hn => by
      cases z : H q with
      | none => rfl
      | some o =>
        have z' := hb _ _ z nq
        rw [hn] at z'
        cases z'
    have hb7' : But p H H7 := hb13.trans (hb4.trans (hb5.trans ((Same.but s6 p).trans hb7)))
    have nHtm : H tm = none := back ntm hb7' n8
    have nHte : H te = none := back nte (hb7'.trans (Same.but s8 p)) n9
    have G9 : PgAt H9 tb tpl tm te boxes places [] [] := by
      refine ⟨s89 _ _ (hb7 _ _ (s6 _ _ (hb5 _ _ (hb4 _ _ e3 ntb) ntb)) ntb), s89 _ _ (hb7 _ _ (s6 _ _ e5) ntpl), ⟨[], s9 _ _ e8, .nil⟩, e9⟩
    have hdis : ∀ b ∈ boxes, b ∉ out := fun b hb hbo => by
      have h1 := hbx b hb
      have h2 := ho b hbo
      have h3 : ∀ b ∈ xyz, b ≤ 90 := by decide
      have h4 := h3 b h1
      omega
    refine ⟨_, rfl, tpl, rfl, ⟨_, SqL.of G9.pl⟩, for_list (K := K) (a := tpl) (xs := txs places) (fun i σ H' => ∃ v9 v10 ms es, σ = [some (.ref p), some (.str (S letters)), some (num mb), some (num mp), some (.ref tb), some (.ref tpl), some (.str (S out)), some (.ref tm), some (.ref te), v9, v10] ∧ Src H' p (n + 90 + 611 * i) ∧ But p H H' ∧ PgAt H' tb tpl tm te boxes places ms es ∧ MsOk boxes letters places (places.take i) [] [] ms ∧ EsOk boxes places (places.take i) es)
      ⟨none, none, [], [], rfl, hs9, hb9, G9, ⟨List.nodup_nil, fun m hm => (nomatch hm), fun m hm => (nomatch hm)⟩, ⟨List.nodup_nil, fun m hm => (nomatch hm), fun m hm => (nomatch hm)⟩⟩ (fun i σ H' _ ⟨_, _, _, _, _, _, _, G, _⟩ => SqL.of G.pl) ?_ ?_⟩
    · rintro i y σ H10 hi ⟨v9, v10, ms, es, rfl, hs10, hb10, G10, M10, E10⟩
      obtain ⟨pl, hpl, rfl⟩ : ∃ pl, places[i]? = some pl ∧ y = V.str (S pl) := by
        unfold txs at hi
        rw [List.getElem?_map] at hi
        cases z : places[i]? with
        | none =>
          rw [z] at hi
          cases hi
        | some c =>
          rw [z] at hi
          exact ⟨c, rfl, (Option.some.inj hi).symm⟩
      have hplm : pl ∈ places := List.mem_of_getElem? hpl
      have hi8 : i < 8 := by
        have := (List.getElem?_eq_some_iff.mp hpl).1
        omega
      have et : places.take (i + 1) = places.take i ++ [pl] := by
        rw [List.take_add_one, hpl]
        rfl
      have hnew : pl ∉ places.take i := fun z => by
        have h1 : (places.take (i + 1)).Nodup := (List.take_sublist _ _).nodup hpn
        rw [et, List.nodup_append] at h1
        exact h1.2.2 pl z pl (List.mem_singleton.mpr rfl) rfl
      -- the letters
      refine ⟨_, rfl, S letters, rfl, for_it (walk_str (z := S letters)) (fun j σ H' => ∃ v10 ms, σ = [some (.ref p), some (.str (S letters)), some (num mb), some (num mp), some (.ref tb), some (.ref tpl), some (.str (S out)), some (.ref tm), some (.ref te), some (.str (S pl)), v10] ∧ Src H' p (n + 90 + 611 * i + 102 * j) ∧ But p H H' ∧ PgAt H' tb tpl tm te boxes places ms es ∧ MsOk boxes letters places (places.take i) pl (letters.take j) ms)
        ⟨v10, ms, rfl, hs10, hb10, G10, ⟨M10.nd, M10.ok, fun m hm => .inl ((M10.wh m hm).resolve_right fun z => (nomatch z.2))⟩⟩ (fun _ _ _ _ _ => trivial) ?_ ?_⟩
      · rintro j x σ H11 H11' hj ⟨w10, ms, rfl, hs11, hb11, G11, M11⟩ ⟨rfl, c, hc, rfl⟩
        have hc' : letters[j]? = some c := by
          rw [show (S letters).cps = letters.toArray from rfl, List.getElem?_toArray] at hc
          exact hc
        have hj' : j < letters.length := (List.getElem?_eq_some_iff.mp hc').1
        have hcl : c ∈ letters := List.mem_of_getElem? hc'
        have etj : letters.take (j + 1) = letters.take j ++ [c] := by
          rw [List.take_add_one, hc']
          rfl
        have hcnew : c ∉ letters.take j := fun z => by
          have h1 : (letters.take (j + 1)).Nodup := (List.take_sublist _ _).nodup ln
          rw [etj, List.nodup_append] at h1
          exact h1.2.2 c z c (List.mem_singleton.mpr rfl) rfl
        have M11' : MsOk boxes letters places (places.take i) pl (letters.take (j + 1)) ms := ⟨M11.nd, M11.ok, fun m hm => (M11.wh m hm).imp id fun z => ⟨z.1, by rw [etj]; exact List.mem_append_left _ z.2⟩⟩
        refine ⟨_, rfl, p, 8, n + 90 + 611 * i + 102 * j, rfl, hs11, by omega, by decide, by decide, fun d H12 hd hb12 hs12 => ?_⟩
        have G12 := G11.but hs11 ntb ntpl hb12
        refine ⟨_, _, rfl, rfl, _, rfl, ite2 (fun _ => ?_) (fun _ => ?_)⟩
        · -- moves[(place, letter)] = (pick, fill)
          have lpl0 : 0 < (txs places).length := by
            show 0 < (places.map _).length
            rw [List.length_map]
            omega
          refine ⟨_, rfl, _, rfl, p, n + 90 + 611 * i + 102 * j + 1, hs12, by omega, .inl ⟨tpl, _, rfl, SqL.of G12.pl, ntpl, lpl0, by show (places.map _).length < _; rw [List.length_map]; omega, fun x H13 hx hb13' hs13 => ?_⟩⟩
          obtain ⟨to, hto, rfl⟩ := List.mem_map.mp hx
          have G13 := G12.but hs12 ntb ntpl hb13'
          have esg : sgs boxes = txs (boxes.map fun b => [b]) := by
            unfold sgs txs
            rw [List.map_map]
            rfl
          refine ⟨_, rfl, _, rfl, _, rfl, _, rfl, p, tb, tb, n + 90 + 611 * i + 102 * j + 2, boxes, out, boxes.map fun b => [b], rfl, hs13, by omega, SqL.of G13.b, by rw [← esg]; exact SqL.of G13.b, ntb, ntb, by omega, by rw [List.length_map]; omega, hbn, ?_, o0, by omega, hdis, fun fd' H14 hf hb14 hs14 nfd efd hkf FF lF => ?_⟩
          · exact List.Pairwise.map _ (fun a b hab z => hab (by injection z)) hbn
          have G14 := G13.but hs13 ntb ntpl hb14
          refine ⟨by show 2 ≤ sizeLine; decide, fun T H15 s15 n15 e15 => ?_⟩
          have G15 := G14.same s15
          refine ⟨_, rfl, _, rfl, _, rfl, by show 2 ≤ sizeLine; decide, fun kT H16 s16 n16 e16 => ?_⟩
          have G16 := G15.same s16
          obtain ⟨kvs, h1, h2⟩ := G16.m
          let m : Mv := ⟨pl, c, to, hf⟩
          have hkeys := keysX h2
          have hkn : m.key ∉ kvs.map (·.1) := fun z => by
            rw [hkeys] at z
            obtain ⟨m', hm', e'⟩ := List.mem_map.mp z
            obtain ⟨k1, k2⟩ := key_inj (m := m') e'
            rcases M11.wh m' hm' with w1 | w1
            · rw [k1] at w1
              exact hnew w1
            · rw [k2] at w1
              exact hcnew w1.2
          have lms : kvs.length < sizeLine := by
            have h3 := congrArg List.length hkeys
            rw [List.length_map, List.length_map] at h3
            rw [h3]
            -- at most eight places, five letters
            have sub : (ms.map fun m => (m.pl, m.lt)) ⊆ places.flatMap fun a => letters.map fun b => (a, b) := by
              intro x hx
              obtain ⟨m', hm', rfl⟩ := List.mem_map.mp hx
              obtain ⟨a1, a2, _⟩ := M11.ok m' hm'
              exact List.mem_flatMap.mpr ⟨m'.pl, a1, List.mem_map.mpr ⟨m'.lt, a2, rfl⟩⟩
            have hle := List.Nodup.length_le_of_subset M11.nd sub
            rw [List.length_map] at hle
            have hfl : ∀ l : List (List Nat), (l.flatMap fun a => letters.map fun b => (a, b)).length = l.length * letters.length := by
              intro l
              induction l with
              | nil => simp
              | cons a r ih =>
                rw [List.flatMap_cons, List.length_append, List.length_map, ih, List.length_cons, Nat.succ_mul]
                omega
            rw [hfl] at hle
            have : places.length * letters.length ≤ 8 * 5 := Nat.mul_le_mul (by omega) l5
            exact small1000 (by omega)
          have nfte : fd' ≠ te := fun z => by
            rw [z, G13.e] at nfd
            cases nfd
          refine ⟨tm, _, rfl, DPut.t (k := m.key) h1 e16 lms, ?_⟩
          have hs16 : Src H16 p (n + 90 + 611 * i + 102 * j + 102) := (hs14.same s15).same s16
          refine ⟨_, ms ++ [m], rfl, ?_, ?_, G16.put h1 h2 m hkn (s16 _ _ e15) (s16 _ _ (s15 _ _ efd)) nfte, ?_⟩
          · exact (hs16.at (upd_ne (Ne.symm ntm))).le (by omega)
          · intro b o eb ne
            rw [upd_ne (ne_of_none eb nHtm)]
            exact s16 _ _ (s15 _ _ (hb14 _ _ (hb13' _ _ (hb12 _ _ (hb11 _ _ eb ne) ne) ne) ne))
          · refine ⟨?_, fun m' hm' => ?_, fun m' hm' => ?_⟩
            · rw [List.map_append, List.nodup_append]
              refine ⟨M11.nd, List.nodup_cons.mpr ⟨fun h => (nomatch h), List.nodup_nil⟩, fun a ha b hb z => ?_⟩
              obtain ⟨m', hm', rfl⟩ := List.mem_map.mp ha
              rw [List.mem_singleton.mp hb] at z
              injection z with z1 z2
              rcases M11.wh m' hm' with w1 | w1
              · rw [z1] at w1
                exact hnew w1
              · rw [z2] at w1
                exact hcnew w1.2
            · rcases List.mem_append.mp hm' with h | h
              · exact M11.ok m' h
              · rw [List.mem_singleton.mp h]
                exact ⟨hplm, hcl, hto, hkf, fil_of FF ho hbn lF⟩
            · rcases List.mem_append.mp hm' with h | h
              · exact M11'.wh m' h
              · rw [List.mem_singleton.mp h]
                exact .inr ⟨rfl, by rw [etj]; exact List.mem_append_right _ (List.mem_singleton.mpr rfl)⟩
        · exact ⟨_, ms, rfl, hs12.le (by omega), hb11.trans hb12, G12, M11'⟩
      · rintro σ H11 ⟨w10, ms, rfl, hs11, hb11, G11, M11⟩
        have lsz : (S letters).cps.size = letters.length := rfl
        rw [lsz, List.take_length] at M11
        rw [lsz] at hs11
        have M12 : MsOk boxes letters places (places.take (i + 1)) [] [] ms := ⟨M11.nd, M11.ok, fun m hm => by
          rcases M11.wh m hm with h | h
          · exact .inl (by rw [et]; exact List.mem_append_left _ h)
          · exact .inl (by rw [et, h.1]; exact List.mem_append_right _ (List.mem_singleton.mpr rfl))⟩
        have E12 : EsOk boxes places (places.take (i + 1)) es := ⟨E10.nd, E10.ok, fun q hq => by rw [et]; exact List.mem_append_left _ (E10.wh q hq)⟩
        have hs11' : Src H11 p (n + 90 + 611 * i + 510) := hs11.le (by omega)
        refine ⟨_, rfl, p, 4, n + 90 + 611 * i + 510, rfl, hs11', by omega, by decide, by decide, fun d H12 hd hb12 hs12 => ?_⟩
        have G12 := G11.but hs11' ntb ntpl hb12
        refine ⟨_, _, rfl, rfl, _, rfl, ite2 (fun _ => ?_) (fun _ => ?_)⟩
        · refine ⟨_, rfl, _, rfl, by show 1 ≤ sizeLine; decide, fun Le H13 s13 n13 e13 => ?_⟩
          have e13' : H13 Le = some (.lst (txs [[101, 110, 100]])) := by
            rw [e13, end_str]
            rfl
          have G13 := G12.same s13
          have hs13 := hs12.same s13
          refine ⟨_, rfl, p, tb, Le, n + 90 + 611 * i + 511, boxes, out, [[101, 110, 100]], rfl, hs13, by omega, SqL.of G13.b, SqL.of e13', ntb, ne_src hs12 n13, by omega, by decide, hbn, by decide, o0, by omega, hdis, fun fd' H14 hf hb14 hs14 nfd efd hkf FF lF => ?_⟩
          have G14 := G13.but hs13 ntb ntpl hb14
          obtain ⟨f1, rfl⟩ : ∃ f1, hf = [([101, 110, 100], f1)] := by
            match hf, hkf with
            | [(a, b)], h =>
              have h' : [a] = [[101, 110, 100]] := h
              injection h' with h1 _
              exact ⟨b, by rw [h1]⟩
          have hv : valV (fkv [([101, 110, 100], f1)]) (Sum.inr (Str.ofString "end")) = some (.str (S f1)) := by
            rw [end_str, val_fkv, getF_cons, if_pos rfl]
            rfl
          refine ⟨fd', _, rfl, hv ▸ DGet.k (k := Sum.inr (Str.ofString "end")) efd, ?_⟩
          have hkn : pl ∉ es.map (·.1) := fun z => by
            obtain ⟨q', hq', e'⟩ := List.mem_map.mp z
            have := E10.wh q' hq'
            rw [e'] at this
            exact hnew this
          have les : (fkv es).length < sizeLine := by
            unfold fkv
            rw [List.length_map]
            have sub : (es.map (·.1)) ⊆ places := fun x hx => by
              obtain ⟨q', hq', rfl⟩ := List.mem_map.mp hx
              exact (E10.ok q' hq').1
            have hle := List.Nodup.length_le_of_subset E10.nd sub
            rw [List.length_map] at hle
            exact small1000 (by omega)
          refine ⟨_, rfl, _, rfl, te, _, rfl, DPut.k (k := Sum.inr (S pl)) G14.e les, ?_⟩
          rw [fkv_put f1 hkn]
          refine ⟨_, _, ms, es ++ [(pl, f1)], rfl, ?_, ?_, G14.pute, M12, ?_⟩
          · exact (hs14.at (upd_ne (Ne.symm nte))).le (by omega)
          · intro b o eb ne
            rw [upd_ne (ne_of_none eb nHte)]
            exact hb14 _ _ (s13 _ _ (hb12 _ _ (hb11 _ _ eb ne) ne)) ne
          · refine ⟨?_, fun q' hq' => ?_, fun q' hq' => ?_⟩
            · rw [List.map_append, List.nodup_append]
              refine ⟨E10.nd, List.nodup_cons.mpr ⟨fun h => (nomatch h), List.nodup_nil⟩, fun a ha b hb z => ?_⟩
              rw [List.mem_singleton.mp hb] at z
              rw [z] at ha
              exact hkn ha
            · rcases List.mem_append.mp hq' with h | h
              · exact E10.ok q' h
              · rw [List.mem_singleton.mp h]
                exact ⟨hplm, fil_of FF ho hbn lF⟩
            · rcases List.mem_append.mp hq' with h | h
              · exact E12.wh q' h
              · rw [List.mem_singleton.mp h, et]
                exact List.mem_append_right _ (List.mem_singleton.mpr rfl)
        · exact ⟨_, _, ms, es, rfl, hs12.le (by omega), hb11.trans hb12, G12, M12, E12⟩
    · rintro σ H10 ⟨v9, v10, ms, es, rfl, hs10, hb10, G10, M10, E10⟩
      have lt' : (txs places).length = places.length := List.length_map _
      rw [lt'] at hs10
      obtain ⟨kvs, h1, h2⟩ := G10.m
      have esg : sgs boxes = (boxes.map fun c => S [c]).map V.str := by
        unfold sgs
        rw [List.map_map]
        rfl
      refine ⟨_, rfl, ⟨_, rfl⟩, _, rfl, _, tb, boxes.map fun c => S [c], rfl, rfl, .inl (by rw [← esg]; exact SqL.of G10.b), ?_, ?_⟩
      · rw [sum_ones, str_empty, len_S]
        show _ + _ * 0 ≤ _
        omega
      rw [str_empty, join_signs]
      refine ⟨_, rfl, _, rfl, _, rfl, by show 5 ≤ sizeLine; decide, fun L H11 s11 nL eL => ?_⟩
      have up : ∀ b ∈ xyz, 65 ≤ b ∧ b ≤ 90 := by decide
      have nLp := ne_src hs10 nL
      refine q L H11 ⟨letters, boxes, places, ms, es⟩ (hb10.trans (Same.but s11 p)) ((hs10.same s11).le (by omega)) (back nLp hb10 nL) ⟨tpl, tm, te, kvs, eL, s11 _ _ G10.pl, s11 _ _ h1, Paired.mono (fun _ _ z => z.at.same s11) h2, s11 _ _ G10.e⟩ ?_ rfl hbl (by show places.length ≤ mp; omega)
      exact { l1 := l1, l5 := l5, ll := ll, ln := ln, b6 := by show boxes.length ≤ 6; omega, bb := fun c hc => up c (hbx c hc), bn := hbn, p1 := by show 1 ≤ places.length; omega, p8 := by show places.length ≤ 8; omega, pn := hpn, pp := hpp, ky := M10.nd, mv := M10.ok, ek := E10.nd, en := E10.ok }
end
end Tb

set_option Elab.async false
set_option linter.all false
set_option maxRecDepth 100000
set_option maxHeartbeats 4000000
namespace Tb
open PySem PySem.Spec PyProof.Rows L2 TL
/-! ### sorted(text) -/
def rSortStr : List V → Hp → VK → Prop := fun xs H Q => ∃ cs : List Nat, xs = [.str (S cs)] ∧ cs.length < 64 ∧ ∀ (ys : List Str), ys.Perm (cs.map fun c => S [c]) → sortedS ys = true → New H (.lst (ys.map V.str)) Q
theorem call_sortStr {X : Cx} (hcalm : X.calm = true) : CallR X (.builtin "sorted") rSortStr := by
  intro pins s σ H xs us Q I r q
  obtain ⟨cs, rfl, h64, q⟩ := q
  obtain ⟨u, rfl, t, rfl⟩ := vals1 r
  have sz : (S cs).cps.size = cs.length := rfl
  refine Calls.call_function_entry PyProof.Rows.kind_sorted PyProof.Rows.plain_sorted PyProof.Rows.entry_sorted (PyProof.Rows.args_sorted1 _) ?_
  unfold Builtin.«sorted»
  refine wpAny_bind (m := checkCount "sorted" 1 1 _) (wpAny_pure ?_)
  refine wpAny_bind (PySem.wpAny_collect_str (A := X.A.in1) (I.ok.hd hcalm) (S cs) t (hn := by rw [sz]; exact Nat.le_of_lt (small1000 (by omega))) fun s' acc hk hg hd ho hacc => ?_)
  obtain ⟨h', g', d', tk, os'⟩ := s'
  have hg' : g' = s.gens := hg
  have hd' : d' = s.drawn := hd
  have ho' : os' = s.os := ho
  subst hg' hd' ho'
  have hal : acc.toList.length = (cs.map fun c => S [c]).length := by rw [Array.length_toList, hacc.1, sz, List.length_map]
  have hS : StrsAre acc.toList (cs.map fun c => S [c]) := strs_at hal fun j v e => by
    obtain ⟨c, u, e1, e2⟩ := hacc.2 j v (by rw [← Array.getElem?_toList]; exact e)
    rw [show (S cs).cps = cs.toArray from rfl, List.getElem?_toArray] at e1
    exact ⟨S [c], u, by rw [List.getElem?_map, e1]; rfl, e2⟩
  have h64' : acc.toList.length < 64 := by rw [hal, List.length_map]; exact h64
  have I1 : Inv X pins σ H { s with heap := h', toks := tk } := I.kept hk
  refine wpAny_bind (wpAny_newList ?_ (by rw [sizeLine_eq]; omega))
  have hoL : (h'.push (seqObj "list" acc.toList.toArray 0)).get? h'.objs.size = some (seqObj "list" acc.toList.toArray 0) := Heap.get?_push_size _ rfl
  show wpAny _ _ _ _ _ { s with heap := h'.push (seqObj "list" acc.toList.toArray 0), toks := tk }
  refine wpAny_bind (wpAny_holding (wpAny_call_entry PyProof.Rows.slot_list_sort ⟨_, hoL, rfl⟩ PyProof.Rows.entry_list_sort
    (list_sort_treeK strKind_oneLt (s := { s with heap := h'.push (seqObj "list" acc.toList.toArray 0), toks := tk }) hoL hS.keysOf (fun v₁ v₂ rest e => keyKind_strs (by rw [← e]; exact hS)) h64' fun st' hp hs => ⟨_, rfl, ?_⟩)
    (PyProof.Rows.args_list_sort _)))
  obtain ⟨ys, g1, g2, g3⟩ := sorted_out_str hS hp hs
  obtain ⟨e', he'⟩ := PyProof.Rows.sortedHeap_at (vs := acc.toList) (out := (arrOf st').map (·.2)) hoL
  have hlen : (ys.map V.str).length ≤ sizeLine := by
    rw [List.length_map, g2.length_eq, List.length_map]
    exact Nat.le_trans (Nat.le_of_lt h64) (by decide)
  refine wpAny_pure ⟨_, rfl, .ref h'.objs.size, upd H h'.objs.size (.lst (ys.map V.str)), I1.laid (t' := tk) (fun b u e => ?_) (Nat.le_refl _)
    (show ObjOk X.prog X.w _ _ _ (.lst (ys.map V.str)) from ⟨hlen, ((arrOf st').map (·.2)).toList, e', vals_of_strs g1, by rw [Array.toArray_toList]; exact he'⟩), rfl, (q ys g2 g3).at _ (I1.hok.fresh (Nat.le_refl _))⟩
  have hb : b < h'.objs.size := Heap.lt_size e
  rw [PyProof.Rows.sortedHeap_old (Nat.ne_of_lt hb) (by rw [size_push']; exact Nat.lt_succ_of_lt hb)]
  exact Heap.get?_push_of_some _ e
end Tb

set_option Elab.async false
set_option linter.all false
set_option maxRecDepth 100000
namespace Tb
open PySem PySem.Spec PyProof.Rows L2
/-- the places of the program's own defs -/
abbrev sIsText : Stmt := topS 17
abbrev sIsName : Stmt := topS 19
abbrev sIsFilling : Stmt := topS 21
abbrev sAreDiff : Stmt := topS 24
abbrev sAreNames : Stmt := topS 20
abbrev sInOrder : Stmt := topS 25
abbrev sClass : Stmt := topS 37
abbrev sAreLetters : Stmt := topS 18
abbrev sAreBoxes : Stmt := topS 38
abbrev sArePlaces : Stmt := topS 39
abbrev sIsPair : Stmt := topS 22
abbrev sIsOneOf : Stmt := topS 23
abbrev sAreMoves : Stmt := topS 40
abbrev sAreFillings : Stmt := topS 41
abbrev sAreEnds : Stmt := topS 42
abbrev sKept : Stmt := topS 43
def subS (st : Stmt) (i : Nat) : Stmt := (match st with | .ClassDef (body := b) .. => b | _ => []).getD i (.Pass ⟨0, 0, 0, 0⟩)
abbrev sInit : Stmt := subS sClass 0
abbrev sLettersP : Stmt := subS sClass 1
abbrev sBoxesP : Stmt := subS sClass 2
abbrev sPlacesP : Stmt := subS sClass 3
abbrev sMove : Stmt := subS sClass 4
abbrev sEnd : Stmt := subS sClass 5
abbrev sEq : Stmt := subS sClass 6
abbrev sText : Stmt := subS sClass 7
abbrev sParse : Stmt := subS sClass 8
/-- the runs, and what the laws write themselves -/
abbrev sPartsOf : Stmt := topS 26
abbrev sLenOf : Stmt := topS 9
abbrev sPut : Stmt := topS 10
abbrev sWith : Stmt := topS 11
abbrev sRopeOf : Stmt := topS 12
abbrev sWritten : Stmt := topS 13
abbrev sCheck : Stmt := topS 28
abbrev sFilled : Stmt := topS 29
abbrev sSteps : Stmt := topS 30
abbrev sTold : Stmt := topS 9999
abbrev sBehind : Stmt := topS 9999
abbrev sLFilled : Stmt := topS 59
abbrev sLText : Stmt := topS 62
abbrev sLState : Stmt := topS 60
abbrev sLTold : Stmt := topS 61
abbrev sLaw : Stmt := topS 65
abbrev sMovesOf : Stmt := topS 9999
abbrev sEndsOf : Stmt := topS 9999
abbrev sSame : Stmt := topS 9999
abbrev sStInit : Stmt := subS sSteps 0
abbrev sStMove : Stmt := subS sSteps 1
abbrev sStMip : Stmt := subS sSteps 2
abbrev sStAlong : Stmt := subS sSteps 3
abbrev sStFirst : Stmt := subS sSteps 4
abbrev sStBehind : Stmt := subS sSteps 5
abbrev sStShown : Stmt := subS sSteps 6
abbrev sStEnded : Stmt := subS sSteps 7
abbrev sStTold : Stmt := subS sSteps 8
end Tb

set_option Elab.async false
set_option linter.all false
set_option maxRecDepth 100000
set_option maxHeartbeats 2000000
namespace Tb
open PySem PySem.Spec PyProof.Rows L2 TL
/-- what isinstance(x, c) tells -/
def Isi (K : PySem.W.Frag) (H : Hp) (x : V) (c : String) (b : Bool) : Prop := ∃ t, TyX K H x t ∧ PySem.W.kitOne K t (.type c) = some b
theorem isi_str {K : PySem.W.Frag} {H : Hp} (y : Str) : Isi K H (.str y) "str" true := ⟨_, .base (.str y), kit_ty (by decide +kernel)⟩
def tIsi (K : PySem.W.Frag) (c : String) (ta : TE) : TE := fun σ H Q => ta σ H fun x H1 => ∃ b, Isi K H1 x c b ∧ Q (.bl b) H1
theorem pe_isi {X : Cx} {c : String} {a : Expr} {ta : TE} {p p2 pos : Pos} (ha : PE X a ta) (mi : X.mg "isinstance" = none) (hg : Gl X "isinstance") (mc : X.mg (Str.ofString c) = none) (hgc : Gl X (Str.ofString c)) (hv : bootBuiltins (Str.ofString c) = some (.type c))
    (hn : (Str.ofString c) ≠ "__name__" := by decide) (hd : ((Str.ofString c) == ("__debug__" : Str)) = false := by decide) (na : starEach [a, .Name (Str.ofString c) p2] X.env = (false, eval a X.env) :: starEach [.Name (Str.ofString c) p2] X.env := by rfl)
    (na2 : starEach [.Name (Str.ofString c) p2] X.env = (false, eval (.Name (Str.ofString c) p2) X.env) :: starEach [] X.env := by rfl) (hpl : (backTo pos (starEach [.Name (Str.ofString c) p2] X.env)).any (·.1) = false := by rfl) :
    PE X (.Call (.Name "isinstance" p) [a, .Name (Str.ofString c) p2] [] pos) (tIsi X.K c ta) :=
  PE.weak (pe_callB call_isi hg mi (by decide +kernel) (pa_cons (PE.mono ha) (pa_cons (pe_bltn hgc mc hv (v := .ty c) rfl hn hd) pa_nil na2) na) (he := na) (hpl := hpl)) fun σ H Q z => ⟨_, z, fun x H1 ⟨b, ⟨t, ty, k⟩, q⟩ => ⟨x, .ty c, t, _, b, rfl, .ty c, ty, k, q⟩⟩
/-- .. with str, the two names as they stand -/
theorem pe_isStr {X : Cx} {a : Expr} {ta : TE} {p p2 pos : Pos} (ha : PE X a ta) (mi : X.mg "isinstance" = none) (hg : Gl X "isinstance") (mc : X.mg "str" = none) (hgc : Gl X "str")
    (na : starEach [a, .Name "str" p2] X.env = (false, eval a X.env) :: starEach [.Name "str" p2] X.env := by rfl) (hpl : (backTo pos (starEach [.Name "str" p2] X.env)).any (·.1) = false := by rfl) :
    PE X (.Call (.Name "isinstance" p) [a, .Name "str" p2] [] pos) (tIsi X.K "str" ta) := pe_isi ha mi hg mc hgc (by decide +kernel) (na := na) (hpl := hpl)
theorem pe_isDict {X : Cx} {a : Expr} {ta : TE} {p p2 pos : Pos} (ha : PE X a ta) (mi : X.mg "isinstance" = none) (hg : Gl X "isinstance") (mc : X.mg "dict" = none) (hgc : Gl X "dict")
    (na : starEach [a, .Name "dict" p2] X.env = (false, eval a X.env) :: starEach [.Name "dict" p2] X.env := by rfl) (hpl : (backTo pos (starEach [.Name "dict" p2] X.env)).any (·.1) = false := by rfl) :
    PE X (.Call (.Name "isinstance" p) [a, .Name "dict" p2] [] pos) (tIsi X.K "dict" ta) := pe_isi ha mi hg mc hgc (by decide +kernel) (na := na) (hpl := hpl)
/-! ### is_text -/
def isLow (c : Nat) : Bool := decide (97 ≤ c ∧ c ≤ 122)
theorem low_az (c : Nat) : decide (c ∈ az) = isLow c := by
  unfold isLow
  rw [decide_eq_decide]
  exact az_mem
section
variable {P : Program} {w : World} {K : PySem.W.Frag} {mg : Str → Option Value} {base : Heap}
abbrev nIsText : List Str := ["thing"]
theorem scIsText : FnScope nIsText ["thing"] (defScope sIsText) := ⟨rfl, rfl, rfl, by decide +kernel, rfl, by decide +kernel, by decide +kernel⟩
def spIsText (K : PySem.W.Frag) : Sp := fun vs H Q _ => (∃ cs : List Nat, vs = [.str (S cs)] ∧ cs.length ≤ 1000 ∧ ∀ H', Same H H' → Q (.bl (cs.all isLow)) H') ∨ (∃ x, vs = [x] ∧ Isi K H x "str" false ∧ Q (.bl false) H)
theorem asc_facts : ∀ c ∈ List.range 128, (Unicode.isAlpha c = true → (65 ≤ c ∧ c ≤ 90) ∨ (97 ≤ c ∧ c ≤ 122)) ∧ (97 ≤ c ∧ c ≤ 122 → Unicode.isAlpha c = true ∧ Unicode.isLower c = true ∧ Unicode.isUpper c = false ∧ Unicode.isTitle c = false) ∧ (65 ≤ c ∧ c ≤ 90 → Unicode.isUpper c = true) := by decide +kernel
theorem lower_is (cs : List Nat) (hne : cs ≠ []) : (Txt.isascii (S cs) && (Txt.isalpha (S cs) && Txt.islower (S cs))) = cs.all isLow := by
  have e1 : Txt.isascii (S cs) = cs.all fun c => decide (c < 128) := by
    show cs.toArray.all (fun c => decide (c < 128)) = _
    rw [List.all_toArray]
  have e2 : Txt.isalpha (S cs) = cs.all Unicode.isAlpha := by
    show (decide ((S cs).length > 0) && cs.toArray.all Unicode.isAlpha) = _
    rw [List.all_toArray, len_S, decide_eq_true (List.length_pos_iff.mpr hne), Bool.true_and]
  have e3 : Txt.islower (S cs) = (cs.any Unicode.isLower && !cs.any fun c => Unicode.isUpper c || Unicode.isTitle c) := by
    show (cs.toArray.any Unicode.isLower && !cs.toArray.any fun c => Unicode.isUpper c || Unicode.isTitle c) = _
    rw [List.any_toArray, List.any_toArray]
  rw [e1, e2, e3]
  by_cases h : cs.all isLow = true
  · rw [h]
    have hl : ∀ c ∈ cs, 97 ≤ c ∧ c ≤ 122 := fun c hc => of_decide_eq_true (List.all_eq_true.mp h c hc)
    have f : ∀ c ∈ cs, c < 128 ∧ Unicode.isAlpha c = true ∧ Unicode.isLower c = true ∧ Unicode.isUpper c = false ∧ Unicode.isTitle c = false := fun c hc => by
      have h1 := hl c hc
      have h2 := (asc_facts c (List.mem_range.mpr (by omega))).2.1 h1
      exact ⟨by omega, h2⟩
    obtain ⟨c0, r, rfl⟩ : ∃ c0 r, cs = c0 :: r := by
      cases cs with
      | nil => exact absurd rfl hne
      | cons a b => exact ⟨a, b, rfl⟩
    have h1 : ((c0 :: r).all fun c => decide (c < 128)) = true := List.all_eq_true.mpr fun c hc => decide_eq_true (f c hc).1
    have h2 : (c0 :: r).all Unicode.isAlpha = true := List.all_eq_true.mpr fun c hc => (f c hc).2.1
    have h3 : (c0 :: r).any Unicode.isLower = true := List.any_eq_true.mpr ⟨c0, List.mem_cons_self, (f c0 List.mem_cons_self).2.2.1⟩
    have h4 : ((c0 :: r).any fun c => Unicode.isUpper c || Unicode.isTitle c) = false := by
      rw [Bool.eq_false_iff]
      intro z
      obtain ⟨c, hc, e⟩ := List.any_eq_true.mp z
      obtain ⟨_, _, _, a, b⟩ := f c hc
      rw [a, b] at e
      cases e
    rw [h1, h2, h3, h4]
    rfl
  · rw [Bool.eq_false_iff.mpr h, Bool.eq_false_iff]
    intro z
    rw [Bool.and_eq_true, Bool.and_eq_true, Bool.and_eq_true, Bool.not_eq_true'] at z
    obtain ⟨z1, z2, _, z4⟩ := z
    refine h (List.all_eq_true.mpr fun c hc => ?_)
    have a1 : c < 128 := of_decide_eq_true (List.all_eq_true.mp z1 c hc)
    have a2 := List.all_eq_true.mp z2 c hc
    have fa := asc_facts c (List.mem_range.mpr a1)
    rcases fa.1 a2 with u | u
    · have hu := fa.2.2 u
      have : (cs.any fun c => Unicode.isUpper c || Unicode.isTitle c) = true := List.any_eq_true.mpr ⟨c, hc, by rw [hu]; rfl⟩
      rw [this] at z4
      cases z4
    · exact decide_eq_true u
theorem ok_isText {f : Addr} {fd : FuncData} {k : Nat} (F : Fun K "is_text" "is_text" sIsText f fd) (mi : mg "isinstance" = none) (ms : mg "str" = none) : FnOk P w K mg base CX0 (k + 1) f fd ["thing"] (spIsText K) := by
  refine F.ok scIsText (fun vs H Q E h => ?_) (fun cdv A outer s H vs Q E hr h => ?_)
  · rcases h with ⟨cs, rfl, _⟩ | ⟨x, rfl, _⟩ <;> rfl
  · refine ⟨_, pss_cons (ps_if (pt_not (pt_val (pe_isStr (pv 0) mi (by rfl) ms (by rfl)))) (pss_one (ps_ret pe_bl)) pss_nil)
      (pss_one (ps_ret (pe_or (pe_cmpR op_eq (pv 0) pe_str (nomark _)) (pe_one (pe_and (pe_m0 PySem.F.slot_str_isascii PySem.F.type_str_isascii mt_isascii (pv 0)) (pe_and (pe_m0 PySem.F.slot_str_isalpha PySem.F.type_str_isalpha mt_isalpha (pv 0)) (pe_one (pe_m0 PySem.F.slot_str_islower PySem.F.type_str_islower mt_islower (pv 0))))))))), ?_⟩
    rcases h with ⟨cs, rfl, hl, q⟩ | ⟨x, rfl, hx, q⟩
    · have q0 := q H (fun _ _ e => e)
      refine ⟨_, rfl, true, isi_str _, true, rfl, iteF ?_⟩
      by_cases hne : cs = []
      · refine ⟨_, rfl, rfl, true, ?_, iteT ?_⟩
        · rw [hne]
          decide +kernel
        · rw [hne] at q0
          exact q0
      · have hd : decide (V.str (S cs) = V.str (Str.ofString "")) = false := decide_eq_false fun z => hne (by
          have e : Str.ofString "" = S [] := by decide +kernel
          rw [e] at z
          injection z with z
          exact S_inj z)
        refine ⟨_, rfl, rfl, false, by rw [hd], iteF ?_⟩
        have e := lower_is cs hne
        refine ⟨_, rfl, ⟨_, rfl⟩, S cs, rfl, rfl, trivial, _, rfl, ?_⟩
        cases h1 : Txt.isascii (S cs) with
        | false =>
          rw [h1, Bool.false_and] at e
          rw [← e] at q0
          exact iteF q0
        | true =>
          rw [h1, Bool.true_and] at e
          refine iteT ⟨_, rfl, ⟨_, rfl⟩, S cs, rfl, rfl, trivial, _, rfl, ?_⟩
          cases h2 : Txt.isalpha (S cs) with
          | false =>
            rw [h2, Bool.false_and] at e
            rw [← e] at q0
            exact iteF q0
          | true =>
            rw [h2, Bool.true_and] at e
            rw [← e] at q0
            exact iteT ⟨_, rfl, ⟨_, rfl⟩, S cs, rfl, rfl, trivial, q0⟩
    · exact ⟨_, rfl, false, hx, false, rfl, iteT q⟩
end
end Tb

set_option Elab.async false
set_option linter.all false
set_option maxRecDepth 100000
set_option maxHeartbeats 2000000
namespace Tb
open PySem PySem.Spec PyProof.Rows L2 TL
/-! ### a text's signs, ascending -/
def sortN (cs : List Nat) : List Nat := cs.mergeSort (fun a b => decide (a ≤ b))
theorem sortN_perm (cs : List Nat) : (sortN cs).Perm cs := List.mergeSort_perm _ _
theorem sortN_le (cs : List Nat) : (sortN cs).Pairwise (· ≤ ·) := by
  have h := List.pairwise_mergeSort (le := fun a b : Nat => decide (a ≤ b)) (fun a b c h1 h2 => by simp at *; omega) (fun a b => by simp; omega) cs
  exact h.imp fun h => of_decide_eq_true h
theorem sortN_of {zs cs : List Nat} (hp : zs.Perm cs) (hs : zs.Pairwise (· ≤ ·)) : zs = sortN cs :=
  List.Perm.eq_of_pairwise (fun a b _ _ h1 h2 => Nat.le_antisymm h1 h2) hs (sortN_le cs) (hp.trans (sortN_perm cs).symm)
theorem ltC_one (a b : Nat) : ltCps (S [a]).cps.toList (S [b]).cps.toList = decide (a < b) := by
  show ltCps [a] [b] = _
  by_cases h : a < b
  · simp [ltCps, h]
  · simp [ltCps, h]
theorem rising_one : ∀ (zs : List Nat) (a : Nat), risingS (S [a]) (zs.map fun c => S [c]) = true → (a :: zs).Pairwise (· ≤ ·)
  | [], a, _ => List.pairwise_singleton _ _
  | z :: r, a, h => by
    have h' : (!ltCps (S [z]).cps.toList (S [a]).cps.toList && risingS (S [z]) (r.map fun c => S [c])) = true := h
    rw [ltC_one, Bool.and_eq_true] at h'
    have h1 : a ≤ z := by
      have := h'.1
      simp at this
      exact this
    have h2 := rising_one r z h'.2
    refine List.pairwise_cons.mpr ⟨fun x hx => ?_, h2⟩
    rcases List.mem_cons.mp hx with e | e
    · rw [e]; exact h1
    · exact Nat.le_trans h1 ((List.pairwise_cons.mp h2).1 x e)
theorem sorted_signs {ys : List Str} {cs : List Nat} (hp : ys.Perm (cs.map fun c => S [c])) (hs : sortedS ys = true) : ys = (sortN cs).map fun c => S [c] := by
  have e1 : ys = (ys.map fun s => (tl s).headD 0).map fun c => S [c] := by
    rw [List.map_map]
    conv => lhs; rw [← List.map_id ys]
    refine List.map_congr_left fun y hy => ?_
    obtain ⟨c, _, rfl⟩ := List.mem_map.mp (hp.mem_iff.mp hy)
    rfl
  have hp2 : (ys.map fun s => (tl s).headD 0).Perm cs := by
    have h := hp.map fun s => (tl s).headD 0
    rw [List.map_map] at h
    have e : cs.map ((fun s => (tl s).headD 0) ∘ fun c => S [c]) = cs := by
      conv => rhs; rw [← List.map_id cs]
      exact List.map_congr_left fun c _ => rfl
    rw [e] at h
    exact h
  generalize (ys.map fun s => (tl s).headD 0) = zs at e1 hp2
  have hz : zs.Pairwise (· ≤ ·) := by
    rw [e1] at hs
    cases zs with
    | nil => exact List.Pairwise.nil
    | cons z r => exact rising_one r z hs
  rw [e1, sortN_of hp2 hz]
/-! ### are_different, in_order, is_name -/
def isName (cs : List Nat) : Bool := cs.all isLow && (decide (1 ≤ cs.length) && decide (cs.length ≤ 8))
theorem isName_iff {cs : List Nat} : isName cs = true ↔ NameL cs := by
  unfold isName NameL
  rw [Bool.and_eq_true, Bool.and_eq_true, List.all_eq_true]
  constructor
  · rintro ⟨h1, h2, h3⟩
    exact ⟨of_decide_eq_true h2, of_decide_eq_true h3, fun c hc => of_decide_eq_true (h1 c hc)⟩
  · rintro ⟨h1, h2, h3⟩
    exact ⟨fun c hc => decide_eq_true (h3 c hc), decide_eq_true h1, decide_eq_true h2⟩
theorem nodup_S {l : List (List Nat)} : (l.map S).Nodup ↔ l.Nodup := by
  constructor
  · intro h
    rw [List.nodup_iff_pairwise_ne] at h ⊢
    exact (List.pairwise_map.mp h).imp fun h e => h (by rw [e])
  · intro h
    rw [List.nodup_iff_pairwise_ne] at h ⊢
    exact List.pairwise_map.mpr (h.imp fun h e => h (S_inj e))
theorem nodup_S1 {l : List Nat} : (l.map fun c => S [c]).Nodup ↔ l.Nodup := by
  constructor
  · intro h
    rw [List.nodup_iff_pairwise_ne] at h ⊢
    exact (List.pairwise_map.mp h).imp fun h e => h (by rw [e])
  · intro h
    rw [List.nodup_iff_pairwise_ne] at h ⊢
    exact List.pairwise_map.mpr (h.imp fun h e => h (by have := S_inj e; injection this))
theorem num_eq (a b : Nat) : decide (num a = num b) = decide (a = b) := by
  rw [decide_eq_decide]
  unfold num
  constructor
  · intro h
    injection h with h
    omega
  · intro h
    rw [h]
section
variable {P : Program} {w : World} {K : PySem.W.Frag} {mg : Str → Option Value} {base : Heap}
abbrev nIsName : List Str := ["thing"]
theorem scIsName : FnScope nIsName ["thing"] (defScope sIsName) := ⟨rfl, rfl, rfl, by decide +kernel, rfl, by decide +kernel, by decide +kernel⟩
def spIsName (K : PySem.W.Frag) : Sp := fun vs H Q _ => (∃ cs : List Nat, vs = [.str (S cs)] ∧ cs.length ≤ 1000 ∧ ∀ H', Same H H' → Q (.bl (isName cs)) H') ∨ (∃ x, vs = [x] ∧ Isi K H x "str" false ∧ Q (.bl false) H)
theorem ok_isName {f : Addr} {fd : FuncData} {k : Nat} (F : Fun K "is_name" "is_name" sIsName f fd) (DT : Df P w K mg base (k + 1) "is_text" ["thing"] (spIsText K)) (ml : mg "len" = none) (mN : ∃ t, mg "LONGEST_NAME" = some (.int 8 t)) : FnOk P w K mg base CX0 (k + 2) f fd ["thing"] (spIsName K) := by
  obtain ⟨tN, mN⟩ := mN
  refine F.ok scIsName (fun vs H Q E h => ?_) (fun cdv A outer s H vs Q E hr h => ?_)
  · rcases h with ⟨cs, rfl, _⟩ | ⟨x, rfl, _⟩ <;> rfl
  · refine ⟨_, pss_one (ps_ret (pe_and (pe_df DT hr (pa_cons (pv 0) pa_nil)) (pe_one (pe_chain op_le op_le pe_int (pe_callB call_len_str (by rfl) ml PySem.boot_len (pa_cons (pv 0) pa_nil)) (pe_glob (v := .int 8) (by rfl) mN ⟨_, rfl⟩))))), ?_⟩
    rcases h with ⟨cs, rfl, hl, q⟩ | ⟨x, rfl, hx, q⟩
    · refine ⟨_, rfl, .inl ⟨cs, rfl, hl, fun H' s' => ?_⟩⟩
      have hq := q H' s'
      refine ⟨_, rfl, ?_⟩
      unfold isName at hq
      by_cases h1 : cs.all isLow = true
      · rw [h1] at hq ⊢
        refine iteT ⟨_, rfl, S cs, rfl, by rw [len_S]; exact Nat.le_trans hl (by decide), _, _, rfl, rfl, _, rfl, ?_⟩
        rw [len_S]
        by_cases h2 : 1 ≤ cs.length
        · rw [decide_eq_true h2] at hq
          rw [decide_eq_true (show (1 : Int) ≤ (cs.length : Int) by omega)]
          refine iteT ⟨_, _, rfl, rfl, ?_⟩
          have e : decide ((cs.length : Int) ≤ 8) = decide (cs.length ≤ 8) := by
            rw [decide_eq_decide]
            omega
          show Q (.bl (decide ((cs.length : Int) ≤ 8))) H'
          rw [e]
          exact hq
        · rw [decide_eq_false h2] at hq
          rw [decide_eq_false (show ¬ (1 : Int) ≤ (cs.length : Int) by omega)]
          exact iteF hq
      · rw [Bool.eq_false_iff.mpr h1] at hq ⊢
        exact iteF hq
    · exact ⟨_, rfl, .inr ⟨x, rfl, hx, false, rfl, iteF q⟩⟩
abbrev nAreDiff : List Str := ["strings"]
theorem scAreDiff : FnScope nAreDiff ["strings"] (defScope sAreDiff) := ⟨rfl, rfl, rfl, by decide +kernel, rfl, by decide +kernel, by decide +kernel⟩
def spAreDiff (K : PySem.W.Frag) : Sp := fun vs H Q _ => (∃ cs : List Nat, vs = [.str (S cs)] ∧ cs.length ≤ 1000 ∧ Q (.bl (decide cs.Nodup)) H) ∨ (∃ l, ∃ xs : List (List Nat), vs = [.ref l] ∧ (SqL K H l (txs xs) ∨ SqT K H l (txs xs)) ∧ xs.length ≤ 1000 ∧ Q (.bl (decide xs.Nodup)) H)
theorem ok_areDiff {f : Addr} {fd : FuncData} {k : Nat} (F : Fun K "are_different" "are_different" sAreDiff f fd) (ml : mg "len" = none) (mt : mg "set" = none) : FnOk P w K mg base CX0 (k + 1) f fd ["strings"] (spAreDiff K) := by
  refine F.ok scAreDiff (fun vs H Q E h => ?_) (fun cdv A outer s H vs Q E hr h => ?_)
  · rcases h with ⟨cs, rfl, _⟩ | ⟨l, xs, rfl, _⟩ <;> rfl
  · rcases h with ⟨cs, rfl, hl, q⟩ | ⟨l, xs, rfl, hx, hl, q⟩
    · refine ⟨_, pss_one (ps_ret (pe_cmpR op_eq (pe_lenSetS rfl (by rfl) ml (by rfl) mt (pv 0)) (pe_callB call_len_str (by rfl) ml PySem.boot_len (pa_cons (pv 0) pa_nil)) (nomark _))), ?_⟩
      refine ⟨_, rfl, .inr ⟨cs, rfl, hl, _, rfl, S cs, rfl, by rw [len_S]; exact Nat.le_trans hl (by decide), rfl, ?_⟩⟩
      rw [len_S]
      have e : decide (num (dedS (cs.map fun c => S [c])).length = V.int (cs.length : Int)) = decide cs.Nodup := by
        rw [show V.int (cs.length : Int) = num cs.length from rfl, num_eq, decide_eq_decide]
        have h := dedS_iff (cs.map fun c => S [c])
        rw [List.length_map] at h
        exact h.trans nodup_S1
      rw [e]
      exact q
    · refine ⟨_, pss_one (ps_ret (pe_cmpR op_eq (pe_lenSetS rfl (by rfl) ml (by rfl) mt (pv 0)) (pe_callB call_lenS (by rfl) ml PySem.boot_len (pa_cons (pv 0) pa_nil)) (nomark _))), ?_⟩
      have ex : txs xs = (xs.map S).map V.str := by
        unfold txs
        rw [List.map_map]
        rfl
      refine ⟨_, rfl, .inl ⟨l, xs.map S, rfl, by rw [← ex]; exact hx, by rw [List.length_map]; exact hl, _, rfl, l, txs xs, rfl, hx, rfl, ?_⟩⟩
      have e : decide (num (dedS (xs.map S)).length = V.int ((txs xs).length : Int)) = decide xs.Nodup := by
        rw [show V.int ((txs xs).length : Int) = num (txs xs).length from rfl, num_eq, decide_eq_decide]
        have h := dedS_iff (xs.map S)
        rw [List.length_map] at h
        unfold txs
        rw [List.length_map]
        exact h.trans nodup_S
      rw [e]
      exact q
abbrev nInOrder : List Str := ["signs"]
theorem scInOrder : FnScope nInOrder ["signs"] (defScope sInOrder) := ⟨rfl, rfl, rfl, by decide +kernel, rfl, by decide +kernel, by decide +kernel⟩
def spInOrder : Sp := fun vs H Q _ => ∃ cs : List Nat, vs = [.str (S cs)] ∧ cs.length < 64 ∧ ∀ H', Same H H' → Q (.str (S (sortN cs))) H'
theorem ok_inOrder {f : Addr} {fd : FuncData} {k : Nat} (F : Fun K "in_order" "in_order" sInOrder f fd) (ms : mg "sorted" = none) : FnOk P w K mg base CX0 (k + 1) f fd ["signs"] spInOrder := by
  refine F.ok scInOrder (fun vs H Q E h => ?_) (fun cdv A outer s H vs Q E hr h => ?_)
  · obtain ⟨cs, rfl, _⟩ := h
    rfl
  · obtain ⟨cs, rfl, hl, q⟩ := h
    refine ⟨_, pss_one (ps_ret (pe_join pe_str (pe_callB (call_sortStr rfl) (by rfl) ms (by decide +kernel) (pa_cons (pv 0) pa_nil)))), ?_⟩
    refine ⟨⟨_, rfl⟩, _, rfl, cs, rfl, hl, fun ys hp hs p H' s' n' e' => ?_⟩
    have ey := sorted_signs hp hs
    subst ey
    have e1 : (sortN cs).map (fun c => S [c]) = (sortN cs).map fun c => S [c] := rfl
    refine ⟨_, p, (sortN cs).map fun c => S [c], rfl, rfl, .inl (SqL.of e'), ?_, ?_⟩
    · have h1 : (sortN cs).length < 64 := by rw [(sortN_perm cs).length_eq]; exact hl
      rw [sum_ones, str_empty, len_S]
      show _ + _ * 0 ≤ _
      omega
    rw [str_empty, join_signs]
    exact q H' s'
end
end Tb

set_option Elab.async false
set_option linter.all false
set_option maxRecDepth 100000
set_option maxHeartbeats 2000000
/-! judgements for a state in which a token is out: 1 <= toks -/
namespace Tb
open PySem PySem.Spec PyProof.Rows L2
section
variable {X : Cx}
/-- behind anything a token is still out -/
theorem thnT {α : Type} {t : Sem α} {Q Q' : α → Shared → Prop} {M : Model} {A : Around} {E : Value → Shared → Prop} {s : Shared} (h0 : 1 ≤ s.toks) (h : wpAny M A t Q E s) (hQ : ∀ a s', 1 ≤ s'.toks → Q a s' → Q' a s') : wpAny M A t Q' E s :=
  wpAny_mono (PySem.wpAny_toks h) (fun a s' q => hQ a s' (Nat.le_trans h0 q.1) q.2) fun _ _ z => z.2
def PTT (X : Cx) (e : Expr) (t : TT) : Prop :=
  ∀ (pins : List (Addr × Obj)) (s : Shared) (σ : L2.St) (H : Hp) (Q : Bool → Hp → Prop), 1 ≤ s.toks → Inv X pins σ H s → t σ H Q → wpAny (model X.prog X.w) X.A (isTrue e X.env (eval e X.env)) (TP X pins σ Q) X.xe s
def PWT (X : Cx) (e : Expr) (t : TT) : Prop :=
  ∀ (whole : Sem Value) (pins : List (Addr × Obj)) (s : Shared) (σ : L2.St) (H : Hp) (Q : Bool → Hp → Prop), 1 ≤ s.toks → Inv X pins σ H s → t σ H Q → wpAny (model X.prog X.w) X.A (isTrue e X.env whole) (TP X pins σ Q) X.xe s
variable {e a b c : Expr} {te ta tb : TE} {t tA tB' : TT} {rest : List Expr} {pos : Pos}
theorem PET.of (h : PE X e te) : PET X e te := fun pins s σ H Q _ I q => h.run pins s σ H Q I q
theorem PTT.of (h : PT X e t) : PTT X e t := fun pins s σ H Q _ I q => h.run pins s σ H Q I q
theorem PWT.of (h : PW X e t) : PWT X e t := fun wh pins s σ H Q _ I q => h.run wh pins s σ H Q I q
theorem PWT.pt (h : PWT X e t) : PTT X e t := h _
theorem PAT.of {es : List Expr} {ta : TA} (h : PA X es ta) : PAT X es ta := fun pos pins s σ H Q _ I q => h.run pos pins s σ H Q I q
theorem ptt_val (h : PET X e te) (he : ∀ whole, isTrue e X.env whole = (do let v ← whole; standAt e.pos; holding [v] (truthy v)) := by intro _; rfl) : PTT X e (tB te) := by
  intro pins s σ H Q h0 I hw
  refine isTrue_plain (thn (h pins s σ H _ h0 I hw) fun v s1 ⟨x, H1, I1, r1, q1⟩ => ?_) (he _)
  obtain ⟨d, rfl, q⟩ := q1
  cases r1
  exact wpAny_truthy_bool ⟨H1, I1, q⟩
theorem ptt_not (ha : PTT X a tA) : PTT X (.UnaryOp .Not a pos) (tNot tA) := by
  intro pins s σ H Q h0 I h
  exact isTrue_not (ha pins s σ H (fun c H1 => Q (!c) H1) h0 I h)
theorem pwt_and1 (ha : PTT X a tA) : PWT X (.BoolOp .And [a] pos) tA := by
  intro wh pins s σ H Q h0 I h
  refine isTrue_and (thn (ha pins s σ H Q h0 I h) fun c s1 e => ?_)
  cases c with
  | true => exact isTrue_and_nil e
  | false => exact e
theorem pwt_or1 (ha : PTT X a tA) : PWT X (.BoolOp .Or [a] pos) tA := by
  intro wh pins s σ H Q h0 I h
  refine isTrue_or (thn (ha pins s σ H Q h0 I h) fun c s1 e => ?_)
  cases c with
  | false => exact isTrue_or_nil e
  | true => exact e
theorem pwt_and (ha : PTT X a tA) (hb : PWT X (.BoolOp .And (b :: rest) pos) tB') : PWT X (.BoolOp .And (a :: b :: rest) pos) (tAnd tA tB') := by
  intro wh pins s σ H Q h0 I h
  refine isTrue_and (thnT h0 (ha pins s σ H _ h0 I h) fun c s1 h1 ⟨H1, I1, q1⟩ => ?_)
  cases c with
  | true => exact hb wh pins s1 σ H1 Q h1 I1 q1
  | false => exact ⟨H1, I1, q1⟩
theorem pwt_or (ha : PTT X a tA) (hb : PWT X (.BoolOp .Or (b :: rest) pos) tB') : PWT X (.BoolOp .Or (a :: b :: rest) pos) (tOr tA tB') := by
  intro wh pins s σ H Q h0 I h
  refine isTrue_or (thnT h0 (ha pins s σ H _ h0 I h) fun c s1 h1 ⟨H1, I1, q1⟩ => ?_)
  cases c with
  | true => exact ⟨H1, I1, q1⟩
  | false => exact hb wh pins s1 σ H1 Q h1 I1 q1
theorem pet_one {op} (h : PET X a ta) : PET X (.BoolOp op [a] pos) ta := fun pins s σ H Q h0 I hw => BoolOp_one (h pins s σ H Q h0 I hw)
theorem pet_and (ha : PET X a ta) (hb : PET X (.BoolOp .And (b :: rest) pos) tb) : PET X (.BoolOp .And (a :: b :: rest) pos) (tAndV ta tb) := by
  intro pins s σ H Q h0 I h
  refine BoolOp_and (thnT h0 (ha pins s σ H _ h0 I h) fun v s1 h1 ⟨x, H1, I1, r1, q1⟩ => ?_)
  obtain ⟨c, rfl, q1⟩ := q1
  cases r1
  refine wpAny_truthy_bool ?_
  cases c with
  | true => exact hb pins s1 σ H1 Q h1 I1 q1
  | false => exact ⟨.bl false, H1, I1, rfl, q1⟩
theorem pet_or (ha : PET X a ta) (hb : PET X (.BoolOp .Or (b :: rest) pos) tb) : PET X (.BoolOp .Or (a :: b :: rest) pos) (tOrV ta tb) := by
  intro pins s σ H Q h0 I h
  refine BoolOp_or (thnT h0 (ha pins s σ H _ h0 I h) fun v s1 h1 ⟨x, H1, I1, r1, q1⟩ => ?_)
  obtain ⟨c, rfl, q1⟩ := q1
  cases r1
  refine wpAny_truthy_bool ?_
  cases c with
  | false => exact hb pins s1 σ H1 Q h1 I1 q1
  | true => exact ⟨.bl true, H1, I1, rfl, q1⟩
theorem pet_ifExp (hc : PTT X c tA) (ha : PET X a ta) (hb : PET X b tb) : PET X (.IfExp c a b pos) (tIf tA ta tb) := by
  intro pins s σ H Q h0 I h
  refine wpAny_IfExp (thnT h0 (hc pins s σ H _ h0 I h) fun d s1 h1 ⟨H1, I1, q1⟩ => ?_)
  cases d with
  | true => exact ha pins s1 σ H1 Q h1 I1 q1
  | false => exact hb pins s1 σ H1 Q h1 I1 q1
theorem pet_lock (h : PET X e te) : PET X e (tLockE te) := by
  intro pins s σ H Q h0 I hw
  obtain ⟨d, u, hd, mu, hw⟩ := hw
  obtain ⟨od, I1⟩ := I.lock hd mu
  refine thn (h pins s σ _ _ h0 I1 (hw od)) fun v s1 ⟨x, H1, I2, r, e2, q⟩ => ?_
  exact ⟨x, _, I2.unlock e2 (I.nofrz hd mu), r, q⟩
/-! ### statements -/
variable {st : Stmt} {sts : List Stmt} {u w' : TS}
theorem psst_one' (h1 : PST X st u) : PSsT X [st] u := by
  intro pins s σ H D h0 I h
  refine wpAny_execs_cons (thn (h1 pins s σ H D h0 I h) fun f s1 q => ?_)
  cases f with
  | next => exact wpAny_execs_nil q
  | ret v => exact q
  | brk => exact q
  | cont => exact q
theorem pst_if' {c : Expr} {x y : List Stmt} {tc : TT} (hc : PTT X c tc) (ha : PSsT X x u) (hb : PSsT X y w') : PST X (.If c x y pos) (tIfS tc u w') := by
  intro pins s σ H D h0 I h
  refine wpAny_If (thnT h0 (hc pins s σ H _ h0 I h) fun d s1 h1 ⟨H1, I1, q1⟩ => ?_)
  cases d with
  | true => exact ha pins s1 σ H1 D h1 I1 q1
  | false => exact hb pins s1 σ H1 D h1 I1 q1
theorem pst_ret' (he : PET X e te) : PST X (.Return (some e) pos) (tRet te) := by
  intro pins s σ H D h0 I h
  exact wpAny_Return_some (thn (he pins s σ H _ h0 I h) fun v s1 ⟨x, H1, I1, r1, q1⟩ => ⟨x, σ, H1, I1, r1, q1⟩)
theorem pst_expr (he : PET X e te) (hs : swapsWith e none pos.line X.env = pure false := by rfl) : PST X (.Expr e pos) (tDrop te) := by
  intro pins s σ H D h0 I h
  exact wpAny_Expr_any (thn (he pins s σ H _ h0 I h) fun v s1 ⟨x, H1, I1, r1, q1⟩ => ⟨σ, H1, I1, q1⟩) I.quiet hs
theorem pst_asg {tg : Expr} {g : TG} (he : PET X e te) (hg : PG X tg g) (hs : swapsWithSole [tg] e pos.line X.env = pure false := by rfl) (hw : swappedStores [tg] e X.env = pure none := by rfl)
    (h1 : (assignEach [tg] X.env).map (·.2) = [assign tg X.env] := by rfl) : PST X (.Assign [tg] e pos) (tAsg te g) := by
  intro pins s σ H D h0 I h
  refine wpAny_Assign_stores (thn (he pins s σ H _ h0 I h) fun v s1 ⟨x, H1, I1, r1, q1⟩ => ?_) hs hw
  rw [h1]
  exact thn (hg.run pins s1 σ H1 x v _ I1 r1 q1) fun _ s2 q => q
theorem pst_set {i : Nat} {x : Str} {pos' : Pos} (hN : X.N.Nodup) (hi : X.N[i]? = some x) (hx : Loc X.env.scope x) (he : PET X e te) (hs : swapsWith e (some (.Name x pos')) pos.line X.env = pure false := by rfl) (hf : X.fn x = true ∨ X.env.scope.names.lookup x = some .local := by first | exact .inl rfl | exact .inr rfl | assumption) :
    PST X (.Assign [.Name x pos'] e pos) (tAsg te (gName i)) := by
  intro pins s σ H D h0 I h
  refine wpAny_Assign_Name (thn (he pins s σ H _ h0 I h) fun v s1 ⟨y, H1, I1, r1, q1⟩ => ?_) hs
  exact store_ok I1 hN hi hx r1 (fun s2 I2 => ⟨_, H1, I2, q1⟩) hf
theorem pst_lock (h : PST X st u) : PST X st (tLock u) := by
  intro pins s σ H D h0 I hw
  obtain ⟨d, o, hd, mu, hw⟩ := hw
  obtain ⟨od, I1⟩ := I.lock hd mu
  refine thn (h pins s σ _ _ h0 I1 (hw od)) fun f s1 q => ?_
  cases f with
  | next => obtain ⟨σ', H', I2, e, q⟩ := q; exact ⟨σ', _, I2.unlock e (I.nofrz hd mu), q⟩
  | brk => obtain ⟨σ', H', I2, e, q⟩ := q; exact ⟨σ', _, I2.unlock e (I.nofrz hd mu), q⟩
  | cont => obtain ⟨σ', H', I2, e, q⟩ := q; exact ⟨σ', _, I2.unlock e (I.nofrz hd mu), q⟩
  | ret v => obtain ⟨x, σ', H', I2, r, e, q⟩ := q; exact ⟨x, σ', _, I2.unlock e (I.nofrz hd mu), r, q⟩
end
end Tb

set_option Elab.async false
set_option linter.all false
set_option maxRecDepth 100000
set_option maxHeartbeats 2000000
/-! defs, classes, loops, where a token is out -/
namespace Tb
open PySem PySem.Spec PyProof.Rows L2
/-- a def that keeps its promise where a token is out -/
structure FnT (P : Program) (w : World) (K : PySem.W.Frag) (mg : Str → Option Value) (base : Heap) (k : Nat) (f : Addr) (fd : FuncData) (ps : List Str) (sp : Sp) : Prop where
  len : ∀ vs H Q E, sp vs H Q E → vs.length = ps.length
  run : ∀ (A : Around) (outer : List Env) (s : Shared) (H : Hp) (args : Args) (us : List Value) (vs : List V) (Q : VK) (E : XK), 1 ≤ s.toks → Room k A → Env0 P w K mg base A outer s H → BindsTo s fd args (ps.zip us) → Vals vs us → sp vs H Q E →
    codeAny (model P w) A (.call (.ref f) args) (CR CX0 outer P w H s Q E) s
section
variable {P : Program} {w : World} {K : PySem.W.Frag} {mg : Str → Option Value} {base : Heap}
theorem FnT.of {k : Nat} {f : Addr} {fd : FuncData} {ps : List Str} {sp : Sp} (F : FnOk P w K mg base CX0 k f fd ps sp) : FnT P w K mg base k f fd ps sp :=
  ⟨F.len, fun A outer s H args us vs Q E _ hr e0 b r h => F.run A outer s H args us vs Q E hr e0 b r h⟩
theorem FnT.imp {k : Nat} {f : Addr} {fd : FuncData} {ps : List Str} {sp sp' : Sp} (F : FnT P w K mg base k f fd ps sp) (h : ∀ vs H Q E, sp' vs H Q E → sp vs H Q E) : FnT P w K mg base k f fd ps sp' :=
  ⟨fun vs H Q E q => F.len vs H Q E (h _ _ _ _ q), fun A outer s H args us vs Q E h0 hr he hb hv hs => F.run A outer s H args us vs Q E h0 hr he hb hv (h _ _ _ _ hs)⟩
/-- THE RULE for a def -/
theorem fun_okT {x qual : Str} {st : Stmt} {f : Addr} {fd : FuncData} {N ps : List Str} {k : Nat} {sp : Sp} (F : Fun K x qual st f fd) (S : FnScope N ps (defScope st)) (len : ∀ vs H Q E, sp vs H Q E → vs.length = ps.length)
    (hbody : ∀ (cdv : Value) (A : Around) (outer : List Env) (s : Shared) (H : Hp) (vs : List V) (Q : VK) (E : XK), Room k (A.deeper (envOfC qual (defScope st) s.heap.objs.size f cdv)) → sp vs H Q E →
      ∃ t, PSsT (cxOf CX0 P w K mg base N qual (defScope st) f cdv A outer s H E) (defBody st) t ∧ t { nx := fun _ H' => Q .non H', rt := Q } (L2.start N vs) H) : FnT P w K mg base (k + 1) f fd ps sp := by
  obtain ⟨oc, od, kV, doc, pm, an, cdv, ct, osl, rfl, lk, hcd⟩ := F.ex
  refine ⟨len, fun A outer s H args us vs Q E h0 hr e0 hb r hsp => ?_⟩
  have hl := len _ _ _ _ hsp
  have KX : K.In s.heap := e0.mod.kin.keeps fun b o e => (e0.bs b o e).1
  have lim : s.heap.NoLimit := e0.mod.nolimit.keeps fun b o e => (e0.bs b o e).1
  have hkind : ∀ y ∈ ps.zip us, (defScope st).names.lookup y.1 = some .local ∨ ((defScope st).names.lookup y.1 = some .cell ∧ ((cellsFrom (s.heap.objs.size + 1) (defScope st).names []).lookup y.1).isSome = true) := fun ⟨n, v⟩ hy => by
    rcases S.par n (List.of_mem_zip hy).1 with q | q
    · exact .inl q
    · exact .inr ⟨q, PySem.W.cellsFrom_some _ _ _ (.inl q)⟩
  refine codeAny_call_function hr.depth (KX _ _ lk) rfl S.co S.gen rfl (PySem.W.codeRec_of KX hcd) (hb _ _ _ _ ?_)
  refine PySem.wpAny_with_toks h0 (wpAny_newFunctionEnv_cells S.kind hkind fun env he s1 x h1 => ?_)
  subst he
  refine ⟨lim.keeps x.toInCall.keep, codeAny_func ?_⟩
  obtain ⟨t, ht, hq⟩ := hbody cdv A outer s H vs Q E (hr.deeper _) hsp
  have I : Inv (cxOf CX0 P w K mg base N qual (defScope st) f cdv A outer s H E) [] (L2.start N vs) H s1 := inv_start S hr.hd e0 hl r x
  refine wpAny_mono (ht [] s1 (L2.start N vs) H _ h1 I hq) (fun fl s' hs => ?_) fun e s' hs => hs
  have fin : ∀ {σ' : L2.St} {H' : Hp} {v : V} {u : Value}, Inv (cxOf CX0 P w K mg base N qual (defScope st) f cdv A outer s H E) [] σ' H' s' → RelV v u → Q v H' → CE outer P w H s Q u s' :=
    fun {σ' H' v u} J rv q => ⟨v, H', J.os, J.bare, J.base, J.hok, rv, q⟩
  cases fl with
  | ret u =>
    obtain ⟨v, σ', H', J, rv, q⟩ := hs
    exact fin J rv q
  | next =>
    obtain ⟨σ', H', J, q⟩ := hs
    exact fin (v := V.non) (u := Value.none) J rfl q
  | brk =>
    obtain ⟨_, _, _, q⟩ := hs
    exact False.elim q
  | cont =>
    obtain ⟨_, _, _, q⟩ := hs
    exact False.elim q
end
section
variable {X : Cx} {k j : Nat} {f : Addr} {fd : FuncData} {ps : List Str} {sp : Sp} {ds : List Value} {dvs : List V} {E : XK}
theorem run_fnT {pins : List (Addr × Obj)} {σ : L2.St} {H : Hp} {s : Shared} {Q : VK} {us : List Value} {vs : List V} (F : FnT X.prog X.w X.K X.mg X.base k f fd ps sp) (h0 : 1 ≤ s.toks) (hr : Room k X.A) (hb : Binds X.K fd ps ds) (hd : Vals dvs ds)
    (I : Inv X pins σ H s) (r : Vals vs us) (h : sp (vs ++ dvs) H Q E0) : wpAny (model X.prog X.w) X.A (call (.ref f) us) (EP X pins σ Q) X.xe s := by
  have r2 : Vals (vs ++ dvs) (us ++ ds) := r.append hd
  have hl : (us ++ ds).length = ps.length := by rw [← r2.length]; exact F.len _ _ _ _ h
  refine wpAny_call (codeAny_mono (F.run X.A X.stack s H ⟨us, []⟩ (us ++ ds) (vs ++ dvs) Q E0 h0 hr I.env0 (hb s us I.kIn hl) r2 h) fun r s' hq => ?_)
  cases r with
  | error e => exact (pass0 (X := X)) pins σ H s e s' I hq
  | ok fl =>
    cases fl with
    | ret u => exact I.after hq
    | next => exact False.elim hq
    | brk => exact False.elim hq
    | cont => exact False.elim hq
theorem FnT.mono {P : Program} {w : World} {K : PySem.W.Frag} {mg : Str → Option Value} {base : Heap} (F : FnT P w K mg base j f fd ps sp) (h : j ≤ k) : FnT P w K mg base k f fd ps sp :=
  ⟨F.len, fun A outer s H args us vs Q E h0 hr => F.run A outer s H args us vs Q E h0 (hr.mono h)⟩
end
structure DfT (P : Program) (w : World) (K : PySem.W.Frag) (mg : Str → Option Value) (base : Heap) (k : Nat) (nm : Str) (ps : List Str) (sp : Sp) : Prop where
  ex : ∃ f fd, FnT P w K mg base k f fd ps sp ∧ Binds K fd ps [] ∧ PySem.W.keepIn K (.ref f) = true ∧ mg nm = some (.ref f)
theorem Df.t {P : Program} {w : World} {K : PySem.W.Frag} {mg : Str → Option Value} {base : Heap} {k : Nat} {nm : Str} {ps : List Str} {sp : Sp} (D : Df P w K mg base k nm ps sp) : DfT P w K mg base k nm ps sp := by
  obtain ⟨f, fd, G, b, kp, m⟩ := D.ex
  exact ⟨f, fd, .of G, b, kp, m⟩
theorem pet_df {X : Cx} {k j : Nat} {nm : Str} {ps : List Str} {sp : Sp} {e : Expr} {es : List Expr} {t : TA} {p pos : Pos} (D : DfT X.prog X.w X.K X.mg X.base k nm ps sp) (hr : Room j X.A) (ha : PAT X (e :: es) t) (hg : Gl X nm := by rfl) (hk : k ≤ j := by omega)
    (hdb : (nm == ("__debug__" : Str)) = false := by decide) (he : starEach (e :: es) X.env = (false, eval e X.env) :: starEach es X.env := by rfl) (hpl : (backTo pos (starEach es X.env)).any (·.1) = false := by rfl) :
    PET X (.Call (.Name nm p) (e :: es) [] pos) (tCall sp [] E0 t) := by
  obtain ⟨f, fd, G, b, kp, m⟩ := D.ex
  intro pins s σ H Q h0 I h
  refine wpAny_Call_Name_kw (PySem.wpAny_with_toks h0 (ld_glob I hg m ?_ hdb))
  intro h1
  refine PySem.W.callWith_K (h₀ := X.base) I.ok.mod.kin kp (thnT h1 (ha pos pins s σ H _ h1 I h) fun us s1 h2 ⟨vs, H1, I1, r, q⟩ => ⟨I1.kIn, ?_⟩) he hpl
  exact run_fnT G h2 (hr.mono hk) b .nil I1 r q
/-- a loop whose body wants the token -/
theorem pst_for' {X : Cx} {tg iter : Expr} {body : List Stmt} {wi : TI} {g : TG} {tb : TS} {pos : Pos} (hp : PassesOwn (model X.prog X.w) X.A X.env X.xe) (hc : X.calm = true) (hi : PI X tg iter wi) (hg : PG X tg g) (hb : PSsT X body tb)
    (hs : ∀ x, foldedSetIterable iter X.env x = pure x := by intro _; rfl) : PST X (.For tg iter body [] pos) (tFor wi g tb) := by
  intro pins s σ H D h0 I h
  refine wpAny_For (thnT h0 (hi.run pins s σ H _ I h) fun v s1 h1 hv => thnT h1 hv fun itv s2 h2 hh => ?_) hs
  obtain ⟨it, fp, tn, J, H2, e, I2, T, st2, f2, W, ⟨m0, w0⟩, turn⟩ := hh
  subst e
  have stat : ∀ {H' : Hp}, (∀ b ∈ fp, H' b = none) → ∀ b ∈ fp, FpOk X pins H' b := fun hn b hb => ⟨hn b hb, (f2 b hb).2⟩
  refine codeAny_forLoop_any (fun n s' => 1 ≤ s'.toks ∧ ∃ i σ' H', Inv X pins σ' H' s' ∧ tn i s'.heap ∧ (∀ b ∈ fp, H' b = none) ∧ W i n σ' H') ?_ m0 ⟨h2, 0, σ, H2, I2, st2, fun b hb => (f2 b hb).1, w0⟩
  rintro n s3 ⟨h3, i, σ3, H3, I3, st3, fr3, w3⟩
  rcases turn i n σ3 H3 w3 with ⟨stop, qn⟩ | ⟨go, N, hN, step⟩
  · refine wpAny_passesOwn hp (thn (T.done X rfl rfl rfl hc i pins s3 σ3 H3 X.xe I3 (stat fr3) st3 stop) fun r s4 ⟨hr, I4⟩ => ?_)
    subst hr
    exact wpAny_execs_nil ⟨σ3, H3, I4, qn⟩
  · refine wpAny_passesOwn hp (thnT h3 (T.item X rfl rfl rfl hc i pins s3 σ3 H3 X.xe I3 (stat fr3) st3 go) fun r s4 h4 ⟨u, hr, hh4⟩ => ?_)
    subst hr
    refine wpAny_passesOwn hp (thnT h4 hh4 fun _ s5 h5 ⟨x, H5, I5, r5, y5, st5, fr5⟩ => ?_)
    have I5' := I5.pinned (stat fr5) (T.obj _ _ st5)
    refine wpAny_passesOwn hp (thnT h5 (hg.run _ s5 σ3 H5 x u _ I5' r5 (step x H5 y5)) fun _ s6 h6 ⟨σ6, H6, I6, q6⟩ => ?_)
    refine wpAny_passesOwn hp (thnT h6 (hb _ s6 σ6 H6 _ h6 I6 q6) fun f s7 h7 q7 => ?_)
    have again : ∀ {σ7 : L2.St} {H7 : Hp}, Inv X (pins ++ pinsAt fp s5.heap) σ7 H7 s7 → N σ7 H7 → ∃ m, m < n ∧ 1 ≤ s7.toks ∧ ∃ i σ' H', Inv X pins σ' H' s7 ∧ tn i s7.heap ∧ (∀ b ∈ fp, H' b = none) ∧ W i m σ' H' := fun {σ7 H7} I7 n7 => by
      obtain ⟨m', hm, w7⟩ := hN σ7 H7 n7
      refine ⟨m', hm, h7, i + 1, σ7, H7, I7.unpinned, T.keep _ _ _ st5 fun b hb o e => (I7.pin (b, o) (List.mem_append_right _ (List.mem_append_right _ (mem_pinsAt hb e)))).1, fun b hb => ?_, w7⟩
      obtain ⟨o, e, d⟩ := T.obj _ _ st5 b hb
      exact (I7.pin (b, o) (List.mem_append_right _ (List.mem_append_right _ (mem_pinsAt hb e)))).2.1
    cases f with
    | next => obtain ⟨σ7, H7, I7, n7⟩ := q7; exact again I7 n7
    | cont => obtain ⟨σ7, H7, I7, n7⟩ := q7; exact again I7 n7
    | brk => obtain ⟨σ7, H7, I7, q7⟩ := q7; exact ⟨σ7, H7, I7.unpinned, q7⟩
    | ret v => obtain ⟨x7, σ7, H7, I7, r7, q7⟩ := q7; exact ⟨x7, σ7, H7, I7.unpinned, r7, q7⟩
end Tb

set_option Elab.async false
set_option linter.all false
set_option maxRecDepth 100000
set_option maxHeartbeats 4000000
/-! for x in text: if rest.count(x) > 1: return False; rest = rest.replace(x, "") -/
namespace Tb
open PySem PySem.Spec PyProof.Rows L2
section
variable {X : Cx} {pins : List (Addr × Obj)} {σ : L2.St} {H : Hp} {s : Shared}
/-- a name's store: the value is the very same, and a token is given out -/
theorem store_okN {M : Model} {A : Around} {E : Value → Shared → Prop} {i : Nat} {x : Str} {v : V} {u : Value} {Q : Unit → Shared → Prop} (I : Inv X pins σ H s) (hN : X.N.Nodup) (hi : X.N[i]? = some x) (hk : X.env.scope.names.lookup x = some .local) (r : RelV v u)
    (h : ∀ s' m, Inv X pins (σ.set i (some v)) H s' → s'.heap.Ns X.env.locals m → m x = some u → s'.toks = s.toks + 1 → Heap.SameBut X.env.locals s.heap s'.heap → Q () s') : wpAny M A (storeName X.env x u) Q E s := by
  obtain ⟨m, hn, hl⟩ := id I.loc
  have hcls : (X.env.scope.kind == .class || (X.env.scope.kind == .module && X.env.locals != X.env.globals)) = false := by rw [I.ok.kind]; rfl
  have hiσ : i < σ.length := by rw [I.len]; exact (List.getElem?_eq_some_iff.mp hi).1
  have cne := I.cne
  refine wpAny_storeName_local hk hn (fun h' hn' hs => ?_) hcls
  obtain ⟨oL, _, _, hoL, _⟩ := id hn
  have tracked : HOk X.prog X.w H h' := fun b ob e => by
    refine (I.hok b ob e).stay (fun c w' hc q => (hs.2 c ?_).trans q) (fun _ q => q) fun _ _ q => q
    rintro rfl
    rcases hc with rfl | hc
    · rw [I.free] at e; cases e
    · rw [I.free] at hc; cases hc
  refine h _ _ ⟨I.ok, I.os, I.bare, ⟨fun b o e n hb hx => ?_, fun b o e n hb hx => ?_, I.base.free, fun b o e hx => ?_, I.base.tups, I.base.frzs, I.base.tbls⟩, ⟨_, hn', fun j y v' e1 e2 e3 => ?_⟩, fun y c e => ?_, I.free, I.freeC, fun p hp => ?_, tracked, by simpa using I.len⟩ hn' (by simp) rfl hs
  · exact (hs.2 b (Nat.ne_of_lt (Nat.lt_of_lt_of_le (Heap.lt_size e) I.ok.above))).trans (I.base.keep b o e n hb hx)
  · obtain ⟨sl, e1⟩ := I.base.slot b o e n hb hx
    exact ⟨sl, (hs.2 b (Nat.ne_of_lt (Nat.lt_of_lt_of_le (Heap.lt_size e) I.ok.above))).trans e1⟩
  · obtain ⟨o', e1⟩ := I.base.there b o e hx
    exact ⟨o', (hs.2 b (Nat.ne_of_lt (Nat.lt_of_lt_of_le (Heap.lt_size e) I.ok.above))).trans e1⟩
  · by_cases hj : j = i
    · subst hj
      rw [hi] at e1; cases e1
      rw [List.getElem?_set_self hiσ] at e2
      cases e2
      exact ⟨u, r, .inl ⟨hk, by simp⟩⟩
    · rw [List.getElem?_set_ne (Ne.symm hj)] at e2
      obtain ⟨u', r', q⟩ := hl j y v' e1 e2 e3
      refine ⟨u', r', ?_⟩
      rcases q with ⟨k, e⟩ | ⟨k, c, e, z⟩
      · refine .inl ⟨k, ?_⟩
        have : y ≠ x := fun e => hj (nodup_ix hN e1 (e ▸ hi))
        simp [this, e]
      · exact .inr ⟨k, c, e, z.sameBut hs (cne y c e)⟩
  · obtain ⟨w', z⟩ := I.cell y c e
    exact ⟨w', z.sameBut hs (cne y c e)⟩
  · obtain ⟨e, n, ne, nf, d⟩ := I.pin p hp
    exact ⟨(hs.2 p.1 ne).trans e, n, ne, nf, d⟩
end
section
variable {X : Cx}
/-- behind a store a token is out -/
theorem pss_tok {i : Nat} {x : Str} {e : Expr} {te : TE} {rest : List Stmt} {u : TS} {pos' pos : Pos} (hN : X.N.Nodup) (hi : X.N[i]? = some x) (hk : X.env.scope.names.lookup x = some .local) (he : PE X e te) (h2 : PSsT X rest u)
    (hs : swapsWith e (some (.Name x pos')) pos.line X.env = pure false := by rfl) : PSs X (.Assign [.Name x pos'] e pos :: rest) (tSeq (tAsg te (gName i)) u) := by
  refine ⟨fun pins s σ H D I h => ?_⟩
  refine wpAny_execs_cons (wpAny_Assign_Name (thn (he.run pins s σ H _ I h) fun v s1 ⟨y, H1, I1, r1, q1⟩ => ?_) hs)
  exact store_okN I1 hN hi hk r1 fun s2 m I2 _ _ ht _ => h2 pins s2 _ H1 D (by omega) I2 q1
/-- a body that may use the token of the text in the name x -/
def PSb (X : Cx) (x : Str) (body : List Stmt) (i : Nat) (tb : TS) : Prop :=
  ∀ (pins : List (Addr × Obj)) (s : Shared) (σ : L2.St) (H : Hp) (D : Ends) (c : Nat) (u : Tok) (m : Str → Option Value), 1 ≤ u → u < s.toks → Inv X pins σ H s → s.heap.Ns X.env.locals m → m x = some (.str ⟨#[c]⟩ u) → σ[i]? = some (some (.str ⟨#[c]⟩)) → tb D σ H →
    wpAny (model X.prog X.w) X.A (execs body X.env) (SP X pins D) X.xe s
/-- for x in text, x's token known in the body -/
theorem pst_forS {x : Str} {i : Nat} {e : Expr} {te : TE} {body : List Stmt} {tb : TS} {px pos : Pos} (hp : PassesOwn (model X.prog X.w) X.A X.env X.xe) (hc : X.calm = true) (hN : X.N.Nodup) (hi : X.N[i]? = some x) (hk : X.env.scope.names.lookup x = some .local)
    (he : PE X e te) (hb : PSb X x body i tb) (hs : ∀ x, foldedSetIterable e X.env x = pure x := by intro _; rfl) : PST X (.For (.Name x px) e body [] pos) (tFor (iStr te) (gName i) tb) := by
  intro pins s σ H D h0 I h
  refine wpAny_For (thnT h0 (he.run pins s σ H _ I h) fun v s1 h1 ⟨y, H2, I1, r1, z, ez, W, ⟨m0, w0⟩, turn⟩ => ?_) hs
  subst ez
  obtain ⟨t, rfl⟩ := r1
  obtain ⟨ty, hty, key⟩ : ∃ ty, (ty = "str_ascii_iterator" ∨ ty = "str_iterator") ∧ ∀ Q : Value → Shared → Prop, Q (.ref s1.heap.objs.size) { s1 with heap := s1.heap.push { cls := .type ty, data := .fields #[.str z t, .int 0 0] } } → wpAny (model X.prog X.w) X.A (pyIter (.str z t)) Q X.xe s1 := by
    cases ha : z.cps.all (· < 128)
    · exact ⟨_, .inr rfl, fun Q h => wpAny_pyIter_wide ha h⟩
    · exact ⟨_, .inl rfl, fun Q h => wpAny_pyIter_ascii ha h⟩
  have T := turn_str (P := X.prog) (w := X.w) (K := X.K) (tg := .Name x px) s1.heap.objs.size z t ty hty
  have item : ∀ {s3 : Shared} {j c : Nat} {Q : Option Value → Shared → Prop}, s3.heap.IsStrIter s1.heap.objs.size ty z t j → z.cps[j]? = some c →
      (∀ h', h'.IsStrIter s1.heap.objs.size ty z t (j + 1) → Heap.SameBut s1.heap.objs.size s3.heap h' → Q (some (.str ⟨#[c]⟩ s3.toks)) { s3 with heap := h', toks := s3.toks + 1 }) → wpAny (model X.prog X.w) X.A (pyNext (.ref s1.heap.objs.size)) Q X.xe s3 := fun {s3 j c Q} st hx hQ => by
    rcases hty with e | e
    · subst e
      exact wpAny_pyNext_ascii_item st hx hQ
    · subst e
      exact wpAny_pyNext_wide_item st hx hQ
  have hno : ["enumerate", "zip", "dict_itemiterator", "dict_reverseitemiterator", "odict_iterator", "itertools.zip_longest", "itertools.pairwise"].contains ty = false := by
    rcases hty with e | e
    · rw [e]; decide
    · rw [e]; decide
  refine key _ ?_
  have I2 : Inv X pins σ H2 { s1 with heap := s1.heap.push { cls := .type ty, data := .fields #[.str z t, .int 0 0] } } := I1.kept (t' := s1.toks) fun b ob q => Heap.get?_push_of_some _ q
  have f2 : ∀ b ∈ [s1.heap.objs.size], FpOk X pins H2 b := fun b hb => by
    rw [List.mem_singleton.mp hb]
    exact I1.fpOk (Nat.le_refl _) (I1.hok.fresh (Nat.le_refl _))
  have st2 : (s1.heap.push { cls := .type ty, data := .fields #[.str z t, .int 0 0] }).IsStrIter s1.heap.objs.size ty z t 0 := ⟨_, Heap.get?_push_size _ rfl, rfl, rfl⟩
  have stat : ∀ {H' : Hp}, (∀ b ∈ [s1.heap.objs.size], H' b = none) → ∀ b ∈ [s1.heap.objs.size], FpOk X pins H' b := fun hn b hb => ⟨hn b hb, (f2 b hb).2⟩
  obtain ⟨it, hit⟩ : ∃ it, it = s1.heap.objs.size := ⟨_, rfl⟩
  rw [← hit] at T item f2 st2 stat ⊢
  refine codeAny_forLoop_any (fun n s' => 1 ≤ s'.toks ∧ ∃ i' σ' H', Inv X pins σ' H' s' ∧ s'.heap.IsStrIter it ty z t i' ∧ (∀ b ∈ [it], H' b = none) ∧ W i' n σ' H') ?_ m0 ⟨h1, 0, σ, H2, I2, st2, fun b hb => (f2 b hb).1, w0⟩
  rintro n s3 ⟨h3, i', σ3, H3, I3, st3, fr3, w3⟩
  rcases turn i' n σ3 H3 w3 with ⟨stop, qn⟩ | ⟨go, N, hNN, step⟩
  · refine wpAny_passesOwn hp (thn (T.done X rfl rfl rfl hc i' pins s3 σ3 H3 X.xe I3 (stat fr3) st3 stop) fun r s4 ⟨hr, I4⟩ => ?_)
    subst hr
    exact wpAny_execs_nil ⟨σ3, H3, I4, qn⟩
  · have go : i' < z.cps.size := go
    have hx : z.cps[i']? = some z.cps[i'] := Array.getElem?_eq_getElem go
    obtain ⟨c, hcx⟩ : ∃ c, z.cps[i']? = some c := ⟨_, hx⟩
    obtain ⟨f0, f1, f3, f4, f5, f6⟩ := stat fr3 it (List.mem_singleton.mpr rfl)
    refine wpAny_passesOwn hp (thn (item (Q := fun r s4 => r = some (.str ⟨#[c]⟩ s3.toks) ∧ ∃ h', s4 = { s3 with heap := h', toks := s3.toks + 1 } ∧ h'.IsStrIter it ty z t (i' + 1) ∧ Heap.SameBut it s3.heap h') st3 hcx fun h' a b => ⟨rfl, h', rfl, a, b⟩) fun r s4 ⟨hr, h', e4, st4, sb⟩ => ?_)
    subst hr e4
    have I4 : Inv X pins σ3 H3 { s3 with heap := h', toks := s3.toks + 1 } := I3.turned (fun b o hb e => (sb.2 b hb).trans e) f0 f1 f4 f5 f6
    obtain ⟨oi, eo, co, dd⟩ := id st4
    refine wpAny_passesOwn hp (go_of (s := { s3 with heap := h', toks := s3.toks + 1 }) eo co dd hno ?_)
    have I5' := I4.pinned (fp := [it]) (fun b hb => stat fr3 b hb) (T.obj (i' + 1) h' st4)
    refine wpAny_passesOwn hp (wpAny_assign_Name (store_okN I5' hN hi hk (v := V.str ⟨#[c]⟩) ⟨_, rfl⟩ fun s6 m I6 n6 e6 t6 _ => ?_))
    have q6 := step (.str ⟨#[c]⟩) H3 ⟨rfl, c, hcx, rfl⟩
    have hiσ : i < σ3.length := by rw [I3.len]; exact (List.getElem?_eq_some_iff.mp hi).1
    have t6' : s6.toks = s3.toks + 1 + 1 := t6
    refine wpAny_passesOwn hp (thnT (by rw [t6']; exact Nat.succ_le_succ (Nat.zero_le _)) (hb _ s6 _ _ _ c s3.toks m h3 (show s3.toks < s6.toks by rw [t6']; exact Nat.lt_succ_of_lt (Nat.lt_succ_self _)) I6 n6 e6 (by rw [List.getElem?_set_self hiσ]) q6) fun f s7 h7 q7 => ?_)
    have again : ∀ {σ7 : L2.St} {H7 : Hp}, Inv X (pins ++ pinsAt [it] h') σ7 H7 s7 → N σ7 H7 → ∃ m, m < n ∧ 1 ≤ s7.toks ∧ ∃ i' σ' H', Inv X pins σ' H' s7 ∧ s7.heap.IsStrIter it ty z t i' ∧ (∀ b ∈ [it], H' b = none) ∧ W i' m σ' H' := fun {σ7 H7} I7 n7 => by
      obtain ⟨m', hm, w7⟩ := hNN σ7 H7 n7
      refine ⟨m', hm, h7, i' + 1, σ7, H7, I7.unpinned, T.keep _ _ _ st4 fun b hb o e => (I7.pin (b, o) (List.mem_append_right _ (List.mem_append_right _ (mem_pinsAt hb e)))).1, fun b hb => ?_, w7⟩
      obtain ⟨o, e, d⟩ := T.obj _ _ st4 b hb
      exact (I7.pin (b, o) (List.mem_append_right _ (List.mem_append_right _ (mem_pinsAt hb e)))).2.1
    cases f with
    | next => obtain ⟨σ7, H7, I7, n7⟩ := q7; exact again I7 n7
    | cont => obtain ⟨σ7, H7, I7, n7⟩ := q7; exact again I7 n7
    | brk => obtain ⟨σ7, H7, I7, q7⟩ := q7; exact ⟨σ7, H7, I7.unpinned, q7⟩
    | ret v => obtain ⟨x7, σ7, H7, I7, r7, q7⟩ := q7; exact ⟨x7, σ7, H7, I7.unpinned, r7, q7⟩
end
end Tb

set_option Elab.async false
set_option linter.all false
set_option maxRecDepth 100000
set_option maxHeartbeats 4000000
namespace Tb
open PySem PySem.Spec PyProof.Rows L2
section
variable {X : Cx} {pins : List (Addr × Obj)} {σ : L2.St} {H : Hp} {s : Shared}
/-- what the body does: the text at ir, the sign at ib -/
def tRm (ir ib : Nat) : TS := fun D σ H => ∃ (z : Str) (c : Nat), σ[ir]? = some (some (.str z)) ∧ σ[ib]? = some (some (.str ⟨#[c]⟩)) ∧
  if Txt.count z ⟨#[c]⟩ > 1 then D.rt (.bl false) H else z.length ≤ 16777216 ∧ D.nx (σ.set ir (some (.str (Txt.replace z ⟨#[c]⟩ Str.empty)))) H
theorem ld_known {x : Str} {pos : Pos} {m : Str → Option Value} {v : Value} {Q E : Value → Shared → Prop} (I : Inv X pins σ H s) (hk : X.env.scope.names.lookup x = some .local) (hn : s.heap.Ns X.env.locals m) (hm : m x = some v) (fin : Q v s) (hd : (x == ("__debug__" : Str)) = false := by decide) :
    wpAny (model X.prog X.w) X.A (eval (.Name x pos) X.env) Q E s := wpAny_Name (wpAny_loadName_local I.ok.kind hk hn hm fin) hd
theorem psb_rm {ir ib : Nat} {xr xb : Str} {p1 p2 p3 p4 p5 p6 p7 p8 p9 p10 p11 p12 p13 p14 : Pos} {j1 j2 : Nat} (hN : X.N.Nodup) (hir : X.N[ir]? = some xr) (hkr : X.env.scope.names.lookup xr = some .local) (hib : X.N[ib]? = some xb) (hkb : X.env.scope.names.lookup xb = some .local)
    (hs1 : starEach [.Name xb p3] X.env = [(false, eval (.Name xb p3) X.env)] := by rfl)
    (hbase1 : attributeBase (.Name xr p1) "count" X.env (eval (.Name xr p1) X.env) = eval (.Name xr p1) X.env := by rfl) (hline1 : (p2.endLine == p4.line) = true := by rfl)
    (hs2 : starEach [.Name xb p11, .Constant (.str Str.empty) j2 p12] X.env = [(false, eval (.Name xb p11) X.env), (false, eval (.Constant (.str Str.empty) j2 p12) X.env)] := by rfl)
    (hbase2 : attributeBase (.Name xr p9) "replace" X.env (eval (.Name xr p9) X.env) = eval (.Name xr p9) X.env := by rfl) (hline2 : (p10.endLine == p13.line) = true := by rfl)
    (hsw : swapsWith (.Call (.Attribute (.Name xr p9) "replace" p10) [.Name xb p11, .Constant (.str Str.empty) j2 p12] [] p13) (some (.Name xr p8)) p14.line X.env = pure false := by rfl)
    (d1 : (xr == ("__debug__" : Str)) = false := by decide) (d2 : (xb == ("__debug__" : Str)) = false := by decide) (d3 : (xr == ("__classdict__" : Str)) = false := by decide) {st : List Stmt} (hret : PSs X st (tRet (tC (.bl false)))) :
    PSb X xb [.If (.Compare (.Call (.Attribute (.Name xr p1) "count" p2) [.Name xb p3] [] p4) [.Gt] [.Constant (.int 1) j1 p5] p6) st [] p7,
      .Assign [.Name xr p8] (.Call (.Attribute (.Name xr p9) "replace" p10) [.Name xb p11, .Constant (.str Str.empty) j2 p12] [] p13) p14] ib (tRm ir ib) := by
  intro pins s σ H D c u m hu0 hu I hn hm hσ h
  obtain ⟨z, c', hz, hc', h⟩ := h
  rw [hσ] at hc'
  have ec : c = c' := by
    have h1 := Option.some.inj (Option.some.inj hc')
    injection h1 with h1
    have h2 := congrArg (fun y : Str => y.cps) h1
    have h2 : #[c] = #[c'] := h2
    injection h2 with h3
    injection h3
  subst ec
  refine wpAny_execs_cons (wpAny_If (wpAny_isTrue_Compare1 (PySem.Call_method1 hbase1 hs1 hline1 (raw_name hir (.inl hkr) I hz (fun v r => ?_) d1 d3))))
  obtain ⟨tz, rfl⟩ := r
  refine ⟨"str", _, F.plainAttrs_str, F.slot_str_count, F.type_str_count, typeIs_str _ _ _, (fun _ e => nomatch e), Calls.callWith_builtin rfl (Calls.evalArgs_plain (Calls.spliced_cons (ld_known I hkb hn hm (Calls.spliced_nil ?_) d2)))⟩
  refine PySem.SC.count ?_
  refine wpAny_Constant_int ?_
  refine gt_int ?_
  refine wpAny_truthy_bool ?_
  have I2 : Inv X pins σ H { s with toks := s.toks + 1 + 1 } := I.tok _
  by_cases hc : Txt.count z ⟨#[c]⟩ > 1
  · rw [if_pos hc] at h
    rw [decide_eq_true (show (1 : Int) < Txt.count z ⟨#[c]⟩ from hc)]
    refine wpAny_mono (hret.run pins _ σ H { D with nx := fun _ _ => False } I2 h) (fun f s1 q => ?_) fun _ _ x => x
    cases f with
    | next =>
      obtain ⟨_, _, _, q⟩ := q
      exact q.elim
    | ret v => exact q
    | brk => exact q
    | cont => exact q
  · rw [if_neg hc] at h
    obtain ⟨hl, h⟩ := h
    rw [decide_eq_false (show ¬ (1 : Int) < Txt.count z ⟨#[c]⟩ from hc)]
    refine wpAny_execs_nil ?_
    refine wpAny_execs_cons (wpAny_Assign_Name (PySem.Call_method2 hbase2 hs2 hline2 (raw_name hir (.inl hkr) I2 hz (fun v r => ?_) d1 d3)) hsw)
    obtain ⟨tz2, rfl⟩ := r
    refine ⟨"str", _, F.plainAttrs_str, F.slot_str_replace, F.type_str_replace, typeIs_str _ _ _, (fun _ e => nomatch e), Calls.callWith_builtin rfl (Calls.evalArgs_plain (Calls.spliced_cons (ld_known I2 hkb hn hm (Calls.spliced_cons (Calls.Constant_str (Calls.spliced_nil ?_))) d2)))⟩
    have hu2 : u < s.toks + 1 + 1 := Nat.lt_succ_of_lt (Nat.lt_succ_of_lt hu)
    refine PySem.SC.replace (Nat.ne_of_gt hu0) (Nat.ne_of_gt (Nat.succ_pos _)) (Nat.ne_of_lt hu2) rfl (by rw [show Str.empty.length = 0 from rfl]; omega) fun t' k => ?_
    exact store_okN (I2.tok k) hN hir hkr (v := V.str (Txt.replace z ⟨#[c]⟩ Str.empty)) ⟨_, rfl⟩ fun s' m' I3 _ _ _ _ => wpAny_execs_nil ⟨_, H, I3, h⟩
end
end Tb

set_option Elab.async false
set_option linter.all false
set_option maxRecDepth 100000
set_option maxHeartbeats 2000000
namespace Tb
open PySem PySem.Spec PyProof.Rows L2 TL
theorem op_notIn_sign {X : Cx} : OpR X (compareOp .NotIn) (fun x y H Q => ∃ (c : Nat) (z : Str), x = .str ⟨#[c]⟩ ∧ y = .str z ∧ Q (.bl (!decide (c ∈ z.cps.toList))) H) := OpR.weak op_notIn_str fun x y H Q ⟨c, z, e1, e2, q⟩ => ⟨_, z, e1, e2, by rw [PySem.StrLaws.found_one]; exact q⟩
/-! ### is_filling -/
def caps (cs : List Nat) : List Nat := cs.filter fun c => !isLow c
def isFill (cs bs : List Nat) : Bool := decide (caps cs).Nodup && (caps cs).all fun c => decide (c ∈ bs)
theorem isFill_iff {cs bs : List Nat} : isFill cs bs = true ↔ (caps cs).Nodup ∧ ∀ c ∈ caps cs, c ∈ bs := by
  unfold isFill
  rw [Bool.and_eq_true, List.all_eq_true]
  exact ⟨fun ⟨a, b⟩ => ⟨of_decide_eq_true a, fun c hc => of_decide_eq_true (b c hc)⟩, fun ⟨a, b⟩ => ⟨decide_eq_true a, fun c hc => decide_eq_true (b c hc)⟩⟩
theorem caps_split {cs : List Nat} {j c : Nat} (h : cs[j]? = some c) (hl : isLow c = false) : caps cs = caps (cs.take j) ++ c :: caps (cs.drop (j + 1)) := by
  have e : cs = cs.take j ++ c :: cs.drop (j + 1) := by
    obtain ⟨h1, h2⟩ := List.getElem?_eq_some_iff.mp h
    rw [← h2, ← List.drop_eq_getElem_cons h1, List.take_append_drop]
  unfold caps
  conv => lhs; rw [e]
  rw [List.filter_append, List.filter_cons, if_pos (by rw [hl]; rfl)]
theorem caps_take {cs : List Nat} {j c : Nat} (h : cs[j]? = some c) : caps (cs.take (j + 1)) = caps (cs.take j) ++ (if isLow c = true then [] else [c]) := by
  have et : cs.take (j + 1) = cs.take j ++ [c] := by
    rw [List.take_add_one, h]
    rfl
  unfold caps
  rw [et, List.filter_append]
  congr 1
  by_cases hl : isLow c = true
  · simp [List.filter_cons, hl]
  · simp [List.filter_cons, hl]
theorem count_S (cs : List Nat) (c : Nat) : Txt.count (S cs) ⟨#[c]⟩ = (cs.count c : Int) := by
  rw [count_is]
  show PyProof.Rows.cnt c cs = _
  induction cs with
  | nil => rfl
  | cons a r ih =>
    rw [cnt_cons, ih, List.count_cons]
    by_cases h : a = c
    · rw [if_pos h, h, beq_self_eq_true, if_pos rfl]
      omega
    · rw [if_neg h, beq_false_of_ne h, if_neg Bool.false_ne_true]
      omega
theorem replL_filter (c : Nat) : ∀ l : List Nat, StrLaws.replL [c] [] l = l.filter fun x => decide (x ≠ c)
  | [] => StrLaws.replL_nil
  | a :: r => by
    by_cases h : a = c
    · rw [StrLaws.replL_hit (by simp) (by rw [h]; rfl), List.filter_cons_of_neg (by simp [h])]
      show [] ++ StrLaws.replL [c] [] r = _
      rw [List.nil_append, replL_filter c r]
    · rw [StrLaws.replL_miss (by intro z; have z : [a] = [c] := z; injection z with z; exact h z), List.filter_cons_of_pos (by simp [h]), replL_filter c r]
theorem replace_S (cs : List Nat) (c : Nat) : Txt.replace (S cs) ⟨#[c]⟩ Str.empty = S (cs.filter fun x => decide (x ≠ c)) := by
  refine ext_tl ?_
  have h := StrLaws.replace_list (x := S cs) (y := ⟨#[c]⟩) (z := Str.empty) (Nat.le_refl 1)
  show (Txt.replace (S cs) ⟨#[c]⟩ Str.empty).cps.toList = _
  rw [h]
  exact replL_filter c cs
/-- the signs that are none of these -/
def outOf (bs cs : List Nat) : List Nat := cs.filter fun x => decide (x ∉ bs)
theorem outOf_nil (cs : List Nat) : outOf [] cs = cs := by
  unfold outOf
  rw [List.filter_eq_self]
  exact fun _ _ => by simp
theorem outOf_snoc (bs cs : List Nat) (c : Nat) : outOf (bs ++ [c]) cs = (outOf bs cs).filter fun x => decide (x ≠ c) := by
  unfold outOf
  rw [List.filter_filter]
  refine List.filter_congr fun x _ => ?_
  simp
  exact Bool.and_comm _ _
theorem outOf_count (bs cs : List Nat) (c : Nat) (h : c ∉ bs) : (outOf bs cs).count c = cs.count c := by
  unfold outOf
  rw [List.count_filter (by simpa using h)]
theorem caps_count {cs : List Nat} {b : Nat} (h : isLow b = false) : (caps cs).count b = cs.count b := by
  unfold caps
  rw [List.count_filter (by rw [h]; rfl)]
theorem isFill_end {cs bs : List Nat} (hb : ∀ b ∈ bs, isLow b = false) (h : ∀ b ∈ bs, cs.count b ≤ 1) : isFill cs bs = (outOf bs cs).all isLow := by
  rw [Bool.eq_iff_iff, isFill_iff, List.all_eq_true]
  constructor
  · rintro ⟨_, h2⟩ c hc
    unfold outOf at hc
    obtain ⟨h3, h4⟩ := List.mem_filter.mp hc
    cases hl : isLow c with
    | true => rfl
    | false =>
      refine absurd (h2 c ?_) (of_decide_eq_true h4)
      unfold caps
      exact List.mem_filter.mpr ⟨h3, by rw [hl]; rfl⟩
  · intro h2
    have sub : ∀ c ∈ caps cs, c ∈ bs := fun c hc => by
      unfold caps at hc
      obtain ⟨h3, h4⟩ := List.mem_filter.mp hc
      by_cases z : c ∈ bs
      · exact z
      · have := h2 c (by unfold outOf; exact List.mem_filter.mpr ⟨h3, decide_eq_true z⟩)
        rw [this] at h4
        cases h4
    refine ⟨List.nodup_iff_count.mpr fun c => ?_, sub⟩
    by_cases z : c ∈ caps cs
    · rw [caps_count (hb c (sub c z))]
      exact h c (sub c z)
    · rw [List.count_eq_zero.mpr z]
      exact Nat.zero_le _
theorem isFill_two {cs bs : List Nat} {b : Nat} (hl : isLow b = false) (h : cs.count b > 1) : isFill cs bs = false := by
  rw [Bool.eq_false_iff]
  intro z
  have := List.nodup_iff_count.mp (isFill_iff.mp z).1 b
  rw [caps_count hl] at this
  omega
section
variable {P : Program} {w : World} {K : PySem.W.Frag} {mg : Str → Option Value} {base : Heap}
abbrev nIsFilling : List Str := ["thing", "boxes", "rest", "box"]
theorem scIsFilling : FnScope nIsFilling ["thing", "boxes"] (defScope sIsFilling) := ⟨rfl, rfl, rfl, by decide +kernel, rfl, by decide +kernel, by decide +kernel⟩
def spIsFilling (K : PySem.W.Frag) : Sp := fun vs H Q _ => (∃ cs bs : List Nat, vs = [.str (S cs), .str (S bs)] ∧ cs.length ≤ 1000 ∧ (∀ b ∈ bs, isLow b = false) ∧ ∀ H', Same H H' → Q (.bl (isFill cs bs)) H') ∨ (∃ x b, vs = [x, b] ∧ Isi K H x "str" false ∧ Q (.bl false) H)
theorem ok_isFilling {f : Addr} {fd : FuncData} {k : Nat} (F : Fun K "is_filling" "is_filling" sIsFilling f fd) (DT : Df P w K mg base (k + 1) "is_text" ["thing"] (spIsText K)) (mi : mg "isinstance" = none) (ms : mg "str" = none) : FnOk P w K mg base CX0 (k + 2) f fd ["thing", "boxes"] (spIsFilling K) := by
  refine F.ok scIsFilling (fun vs H Q E h => ?_) (fun cdv A outer s H vs Q E hr h => ?_)
  · rcases h with ⟨cs, bs, rfl, _⟩ | ⟨x, b, rfl, _⟩ <;> rfl
  · refine ⟨_, pss_cons (ps_if (pt_not (pt_val (pe_isStr (pv 0) mi (by rfl) ms (by rfl)))) (pss_one (ps_ret pe_bl)) pss_nil)
      (pss_tok (i := 2) scIsFilling.nd rfl rfl (pv 0)
      (psst_cons (pst_forS PassesOwn.never rfl scIsFilling.nd (i := 3) rfl rfl (pv 1) (psb_rm (ir := 2) (ib := 3) scIsFilling.nd rfl rfl rfl rfl (hret := pss_one (ps_ret pe_bl))))
      (PSsT.of (pss_one (ps_ret (pe_df DT hr (pa_cons (pv 2) pa_nil))))))), ?_⟩
    rcases h with ⟨cs, bs, rfl, hl, hb, q⟩ | ⟨x, b, rfl, hx, q⟩
    · refine ⟨_, rfl, true, isi_str _, true, rfl, iteF ?_⟩
      refine ⟨_, rfl, ?_⟩
      refine ⟨_, rfl, S bs, rfl, for_it (walk_str (z := S bs)) (fun j σ H' => ∃ v3, σ = [some (.str (S cs)), some (.str (S bs)), some (.str (S (outOf (bs.take j) cs))), v3] ∧ Same H H' ∧ ∀ b ∈ bs.take j, cs.count b ≤ 1)
        ⟨none, by rw [List.take_zero, outOf_nil]; rfl, fun _ _ e => e, fun b hb => (nomatch hb)⟩ (fun _ _ _ _ _ => trivial) ?_ ?_⟩
      · rintro j x σ H2 H2' hj ⟨v3, rfl, s2, hc⟩ ⟨rfl, c, hx, rfl⟩
        have hx' : bs[j]? = some c := by
          rw [show (S bs).cps = bs.toArray from rfl, List.getElem?_toArray] at hx
          exact hx
        have hm := List.mem_of_getElem? hx'
        have et : bs.take (j + 1) = bs.take j ++ [c] := by
          rw [List.take_add_one, hx']
          rfl
        refine ⟨S (outOf (bs.take j) cs), c, rfl, rfl, ?_⟩
        rw [count_S, replace_S, ← outOf_snoc, ← et]
        by_cases h1 : ((outOf (bs.take j) cs).count c : Int) > 1
        · rw [if_pos h1]
          have h2 : cs.count c > 1 := by
            have : (outOf (bs.take j) cs).count c ≤ cs.count c := List.Sublist.count_le _ List.filter_sublist
            omega
          have h3 := q _ s2
          rw [isFill_two (hb c hm) h2] at h3
          exact h3
        · rw [if_neg h1]
          refine ⟨?_, _, rfl, s2, fun b hb' => ?_⟩
          · rw [len_S]
            have : (outOf (bs.take j) cs).length ≤ cs.length := List.length_filter_le _ _
            omega
          · rw [et] at hb'
            rcases List.mem_append.mp hb' with z | z
            · exact hc b z
            · rw [List.mem_singleton.mp z]
              by_cases hin : c ∈ bs.take j
              · exact hc c hin
              · rw [outOf_count _ _ _ hin] at h1
                omega
      · rintro σ H2 ⟨v3, rfl, s2, hc⟩
        have lsz : (S bs).cps.size = bs.length := rfl
        rw [lsz, List.take_length] at hc
        rw [lsz, List.take_length]
        have ho : (outOf bs cs).length ≤ cs.length := List.length_filter_le _ _
        refine ⟨_, rfl, .inl ⟨outOf bs cs, rfl, by omega, fun H3 s3 => ?_⟩⟩
        rw [← isFill_end hb hc]
        exact q _ (s2.trans s3)
    · exact ⟨_, rfl, false, hx, false, rfl, iteT q⟩
end
end Tb

set_option Elab.async false
set_option linter.all false
set_option maxRecDepth 100000
set_option maxHeartbeats 2000000
namespace Tb
open PySem PySem.Spec PyProof.Rows L2 TL
/-! ### d.items() walked, d a dict whose keys are tuples -/
def Itit (d : Addr) (o : Obj) (kvs : List (List Key × V)) : It :=
  ⟨fun i H => H d = some (.frz o (.dT kvs)) ∧ i < kvs.length, fun i H x H' => ∃ T k v q, kvs[i]? = some (k, v) ∧ H q = some (.tup (k.map kV)) ∧ x = .ref T ∧ H T = none ∧ H' = upd H T (.tup [.ref q, v]), fun i H => H d = some (.frz o (.dT kvs)) ∧ kvs.length ≤ i⟩
theorem walk_itemsT {d : Addr} {o : Obj} {kvs : List (List Key × V)} : Walk (Itit d o kvs) kvs.length (fun H => H d = some (.frz o (.dT kvs))) (fun i H x H' => ∃ T k v q, kvs[i]? = some (k, v) ∧ H q = some (.tup (k.map kV)) ∧ x = .ref T ∧ H T = none ∧ H' = upd H T (.tup [.ref q, v])) :=
  ⟨fun _ _ hi q => ⟨q, hi⟩, fun _ q => ⟨q, Nat.le_refl _⟩, fun _ _ _ _ _ _ y => y⟩
theorem frzT2 {X : Cx} {pins : List (Addr × Obj)} {σ : L2.St} {H : Hp} {s : Shared} {d : Addr} {o : Obj} {kvs : List (List Key × V)} (I : Inv X pins σ H s) (h : H d = some (.frz o (.dT kvs))) :
    (d == sysModules) = false ∧ s.heap.get? d = some o ∧ o.ExactDict ∧ ∃ (es : Array DictEntry) (ep : Nat), o.data = .dict es ep ∧ es.size = kvs.length ∧
      ∀ (i : Nat) (k : List Key) (v : V), kvs[i]? = some (k, v) → ∃ (en : DictEntry) (q : Addr), es[i]? = some en ∧ en.key = .ref q ∧ H q = some (.tup (k.map kV)) ∧ RelV v en.val := by
  obtain ⟨hd, z, hs, xs, pr, o', es, ep, ho, hx, hdt, he, _⟩ := I.hok d _ h
  rw [hd] at ho
  cases ho
  refine ⟨hs, hd, hx, es, ep, hdt, ?_, fun i k v e => ?_⟩
  · have l1 : es.size = xs.length := size_of_entries he
    have l2 : kvs.length = xs.length := Paired.length pr
    omega
  · obtain ⟨b, hb, e1, e2, e3⟩ := paired_get pr e
    have q := entry_at he i
    rw [hb] at q
    exact ⟨_, b.2.1, q, rfl, e2, e3⟩
theorem turn_itemsT {P : Program} {w : World} {K : PySem.W.Frag} {d : Addr} {o : Obj} {es : Array DictEntry} {ep : Nat} {kvs : List (List Key × V)} {elts : List Expr} {kk : Nat} {tpos : Pos} (it : Addr) (hod : o.data = .dict es ep) :
    Turn P w K (.Tuple elts kk tpos) (Itit d o kvs) [it] it (fun i h => ∃ ok ov, IsItemIter h it d i kvs.length ep ok ov) where
  mem := by simp
  obj := fun i h st b hb => by
    have e : b = it := by simpa using hb
    subst e
    obtain ⟨ok, ov, e⟩ := st
    exact ⟨_, e, fun v z => nomatch z⟩
  keep := fun i h h' st k => let ⟨ok, ov, e⟩ := st; ⟨ok, ov, k it (by simp) _ e⟩
  item := by
    intro X hP hw hK hc i pins s σ H E I hf st hg
    subst hP hw hK
    obtain ⟨hd, hi⟩ := hg
    obtain ⟨hs, hgd, hx, es', ep', hdt, hsz, ent⟩ := frzT2 I hd
    obtain ⟨rfl, rfl⟩ := dict_ep hod hdt
    obtain ⟨⟨k, v⟩, hkv⟩ : ∃ p, kvs[i]? = some p := ⟨kvs[i], List.getElem?_eq_getElem hi⟩
    obtain ⟨en, q, hen, hkey, hq, hval⟩ := ent i k v hkv
    obtain ⟨hlt', hen'⟩ := Array.getElem?_eq_some_iff.mp hen
    obtain ⟨ok, ov, he⟩ := st
    rw [← hsz] at he
    have hlt : it < s.heap.objs.size := Heap.lt_size he
    refine DT.nextI he ⟨o, hgd, hx, hdt⟩ hlt' fun h' ho hT hz hk => ?_
    rw [hen'] at ho hT
    refine ⟨_, rfl, wpAny_letOwnedTupleGo_items (s := { s with heap := h' }) ho fun h'' he' sb => ?_⟩
    have hT2 : h''.get? s.heap.objs.size = some { cls := .type "tuple", data := .seq #[en.key, en.val] } := (sb.2 _ (Nat.ne_of_gt hlt)).trans hT
    have new : ObjOk X.prog X.w (upd H s.heap.objs.size (.tup [.ref q, v])) h'' s.heap.objs.size (.tup [.ref q, v]) :=
      ⟨by show 2 ≤ sizeLine; decide, [en.key, en.val], .cons hkey (.cons hval .nil), ⟨_, hT2, rfl, _, rfl⟩⟩
    have I1 : Inv X pins σ (upd H s.heap.objs.size (.tup [.ref q, v])) { s with heap := h'' } :=
      I.turnedNew (t' := s.toks) (ch := [it]) (fun b ob hb e => (sb.2 b (by simpa using hb)).trans (hk b ob (by simpa using hb) e)) hf (Nat.le_refl _) new
    refine ⟨.ref s.heap.objs.size, _, I1, rfl, ⟨_, k, v, q, hkv, hq, rfl, I.hok.fresh (Nat.le_refl _), rfl⟩, ⟨en.key, en.val, ?_⟩, fun b hb => ?_⟩
    · rw [← hsz]; exact he'
    · have e : b = it := by simpa using hb
      rw [e, upd_ne (Nat.ne_of_lt hlt)]
      exact (hf it (by simp)).1
  done := by
    intro X hP hw hK hc i pins s σ H E I hf st hg
    subst hP hw hK
    obtain ⟨hd, hi⟩ := hg
    obtain ⟨f0, f1, f2, f3, f4, f5⟩ := hf it (by simp)
    obtain ⟨hs, hgd, hx, es', ep', hdt, hsz, ent⟩ := frzT2 I hd
    obtain ⟨rfl, rfl⟩ := dict_ep hod hdt
    obtain ⟨ok, ov, he⟩ := st
    rw [← hsz] at he
    exact DT.endI (I.ok.hd hc) he ⟨o, hgd, hx, hdt⟩ (by omega) fun h' eb => ⟨rfl, I.turned (t' := s.toks) (fun b ob hb e => eb b ob hb e) f0 f1 f3 f4 f5⟩
  self := fun A i s Q E st h => let ⟨_, _, e⟩ := st; PySem.W.kcp_self e h
def iItemsT (td : TE) : TI := fun σ H R => td σ H fun x H1 => ∃ d o kvs, x = .ref d ∧ H1 d = some (.frz o (.dT kvs)) ∧ R (Itit d o kvs) H1
section
variable {X : Cx} {tg e : Expr} {td : TE} {apos cpos : Pos}
theorem pi_itemsT {elts : List Expr} {kk : Nat} {tpos : Pos} (he : PE X e td) (hbase : attributeBase e "items" X.env (eval e X.env) = eval e X.env := by rfl) (hline : (apos.endLine == cpos.line) = true := by rfl) :
    PI X (.Tuple elts kk tpos) (.Call (.Attribute e "items" apos) [] [] cpos) (iItemsT td) := by
  refine ⟨fun pins s σ H R I h => ?_⟩
  refine wpAny_Call_method (T := "dict") (id := "dict.items") hbase rfl hline PySem.F.plainAttrs_dict PySem.F.slot_dict_items PySem.F.type_dict_items (thn (he.run pins s σ H _ I h) fun u s1 ⟨x, H1, I1, rx, d, o, kvs, ex, hd, q⟩ => ?_)
  subst ex
  obtain rfl : u = Value.ref d := rx
  obtain ⟨hs, hgd, hx, es, ep, hdt, hsz, ent⟩ := frzT2 I1 hd
  have hraw : DT.Raw s1.heap d es ep := ⟨o, hgd, hx, hdt⟩
  refine ⟨hraw.typeIs, ?_, ?_⟩
  · intro a ea
    cases ea
    exact ⟨o, hgd, hx.2.1⟩
  have I2 : Inv X pins σ H1 { s1 with heap := s1.heap.push { cls := .type "dict_items", data := .fields #[.ref d] } } := I1.kept (t' := s1.toks) fun b ob q => Heap.get?_push_of_some _ q
  have fin : wpAny (model X.prog X.w) X.A (pyIter (.ref s1.heap.objs.size)) (PIE X pins σ (.Tuple elts kk tpos) R) X.xe { s1 with heap := s1.heap.push { cls := .type "dict_items", data := .fields #[.ref d] } } := by
    refine DT.iterI (d := d) ⟨_, Heap.get?_push_size _ rfl, rfl, rfl⟩ (hraw.push _) (pi_one (tk := s1.toks) I2 _ (turn_itemsT _ hdt) ⟨.none, .none, ?_⟩ q)
    rw [← hsz]
    exact Heap.get?_push_size _ rfl
  show wpAny _ _ (callWith cpos (.builtin "dict.items") [.ref d] [] []) _ X.xe s1
  exact method_meetsIn PySem.F.slot_dict_items PySem.F.entry_dict_items rfl (PySem.evalArgs_none ⟨rfl, hraw.typeIs, PySem.F.args_dict_items_1 _, _, DT.meetsItems (es := es) (ep := ep) hs, hraw, fin⟩)
end
end Tb

set_option Elab.async false
set_option linter.all false
set_option maxRecDepth 100000
set_option maxHeartbeats 4000000
/-! sep.join(d.values()), d a dict of texts -/
namespace PySem
open Builtin Builtin.Str Builtin.Int
theorem nolenDV : typeLookup (.type "dict_valueiterator") "__len__" = pure none := by rw [typeLookup_type, builtinLookup_eq_fast]; kernel_rfl
theorem hintDV : typeLookup (.type "dict_valueiterator") "__length_hint__" = pure (some (.builtin "dict_valueiterator.__length_hint__")) := by rw [typeLookup_type, builtinLookup_eq_fast]; kernel_rfl
section
variable {prog : Program} {w : World} {A : Around} {E : Value → Shared → Prop} {s : Shared} {I : Addr} {fp wr : List Addr} {G : Array GenState → Array GenState → Prop} {n : Nat} {P : Nat → Value → Prop} {St : Nat → Shared → Prop}
theorem collectDV {Q : List Value → Shared → Prop}
    (W : WalksS prog w A.in1 I fp wr G n P St) (hT : ∀ i s, St i s → s.TypeIs (.ref I) "dict_valueiterator") (hst : St 0 s) (hfp : ∀ b ∈ fp, b < s.heap.objs.size) (hI : I ∈ fp)
    (hQ : ∀ s' acc, Moved wr G s s' → ItemsOf P acc n → Q acc.toList s') (hn : n ≤ sizeLine) : wpAny (model prog w) A (collect (.ref I)) Q E s := by
  have hSf : s.heap.objs.size ∉ fp := fun hm => Nat.lt_irrefl _ (hfp _ hm)
  have hSI : s.heap.objs.size ≠ I := fun e => hSf (e ▸ hI)
  unfold collect
  refine wpAny_bind (wpAny_runValue (codeAny_builtin F.entry_proto_collect ?_))
  rw [Around.under_plainId F.plain_proto_collect _]
  show wpAny _ A.in1 (newList [] >>= fun l => again (.builtin "list.__iadd__" ⟨[l, .ref I], []⟩)) _ _ s
  refine wpAny_bind (wpAny_newObj_type ?_)
  refine wpAny_pure ⟨plainId_quiet F.plain_list_iadd _, codeAny_builtin F.entry_list_iadd ?_⟩
  rw [Around.under_plainId F.plain_list_iadd _]
  have hst₁ := W.frame 0 s (s.heap.push { cls := .type "list", data := .seq ([] : List Value).toArray }) s.toks hst (Nat.le_refl _) fun b _ o e => Heap.get?_push_of_some _ e
  have hS₁ : (s.heap.push { cls := .type "list", data := .seq ([] : List Value).toArray }).get? s.heap.objs.size = some { cls := .type "list", data := .seq ([] : List Value).toArray } := Heap.get?_push_size _ rfl
  have h1 : Builtin.List.listSameRef (.ref s.heap.objs.size) (.ref I) = false := by simp [Builtin.List.listSameRef, hSI]
  show wpAny _ A.in1 (Builtin.List.listExtendWith (.ref s.heap.objs.size) (.ref I) (.ref s.heap.objs.size)) _ _ _
  unfold Builtin.List.listExtendWith
  refine wpAny_bind (wpAny_typeOf (hT 0 _ hst₁) ?_)
  rw [if_neg (by rw [h1]; decide)]
  refine wpAny_bind (W.self 0 _ _ _ hst₁ ?_)
  refine wpAny_bind (wpAny_holding ?_)
  unfold Builtin.List.listLengthHint
  refine wpAny_bind (wpAny_specialOf (hT 0 _ hst₁) nolenDV ?_)
  show wpAny _ A.in1 (specialOf (Value.ref I) (Str.ofString "__length_hint__") >>= _) _ _ _
  refine wpAny_bind (wpAny_specialOf (hT 0 _ hst₁) hintDV ?_)
  generalize hid : ("dict_valueiterator.__length_hint__" : String) = id0
  wp_delta
  rw [show splitId id0 = some ("dict_valueiterator", "__length_hint__") from by subst hid; decide +kernel]
  subst hid
  refine wpAny_bind (wpAny_isInstance (b := true) (hT 0 _ hst₁) (by rw [isSubtype_type]; kernel_rfl) ?_)
  refine wpAny_pure ?_
  rw [if_neg (by decide)]
  refine wpAny_pure ⟨plainId_quiet F.plain_extend_loop _, codeAny_extend_loopS W hn _ hSf _ n 0 _ _ _ rfl (Nat.zero_le _) hst₁ hS₁ (ItemsOf.nil P) fun s' acc' c' hm hS' hacc => ?_⟩
  show wpAny _ A (load s.heap.objs.size >>= _) _ _ s'
  refine wpAny_bind (wpAny_load hS' ?_)
  exact wpAny_pure (hQ s' acc' (Moved.drop_new (o := { cls := .type "list", data := .seq ([] : List Value).toArray }) (tk := s.toks) hm (Nat.le_refl _)) hacc)
end
end PySem
namespace PySem
open Builtin Builtin.Str Builtin.Int PyProof.Rows
section
variable {prog : Program} {w : World} {A : Around} {E : Value → Shared → Prop} {s : Shared}
theorem joinDV {κ : Type} [DecidableEq κ] {knd : KeyKind prog w κ} {v d : Addr} {kvs : List (κ × Value)} {ep : Nat} {x : Str} {t : Tok} {ys : List Str} {Q : Value → Shared → Prop} (hh : A.handled = none) (hv : s.heap.IsValuesView v d) (hm : s.heap.DictAt knd d kvs ep)
    (hP : StrsAre (kvs.map Prod.snd) ys) (hn : kvs.length ≤ sizeLine) (hok : (ys.map (·.length)).sum + ys.length * x.length ≤ 16777216)
    (hq : ∀ h' t' k, (∀ b o, s.heap.get? b = some o → h'.get? b = some o) → Q (.str (Txt.join x ys) t') { s with heap := h', toks := k }) :
    wpAny (model prog w) A (call (.builtin "str.join") [.str x t, .ref v]) Q E s := by
  refine wpAny_call (codeAny_call_builtin F.slot_str_join.plain F.entry_str_join (F.slot_str_join.check _ _ _ _ _ _ _ _ (typeIs_str _ _ _) (F.args_str_join_2 _ _) ?_))
  rw [join_tree_other]
  refine wpAny_bind (wpAny_typeOf hv.typeIs ?_)
  show wpAny _ A.in1 ((pyIter (.ref v)).tryCatch _ >>= fun it => collect it >>= fun items => joinTail x items) _ _ s
  refine wpAny_bind (wpAny_tryCatch (wpAny_pyIter_values hv hm ?_))
  have hlt : d < s.heap.objs.size := by
    obtain ⟨o, _, ho, _⟩ := hm
    exact Heap.lt_size ho
  have hM := hm.push (o := { cls := .type "dict_valueiterator", data := .fields #[.ref d, .int 0 0, .int kvs.length 0, .int ep 0] })
  refine wpAny_bind (collectDV (Walks.dictValues (knd := knd) (A := A.in1.in1) hh s.heap.objs.size d (Nat.ne_of_lt hlt) kvs ep).toS (fun i s' st => ?_) ⟨⟨_, Heap.get?_push_size _ rfl, rfl, rfl⟩, hM⟩ (fun b hb => ?_) (by simp) (fun s' acc hmv hacc => ?_) hn)
  · obtain ⟨oi, e, c, _⟩ := st.1
    exact ⟨oi, e, c⟩
  · show b < (s.heap.push _).objs.size
    rw [Heap.size_push]
    rcases List.mem_cons.mp hb with e | hb
    · rw [e]
      exact Nat.lt_succ_self _
    · rw [List.mem_singleton.mp hb]
      exact Nat.lt_succ_of_lt hlt
  have hS : StrsAre acc.toList ys := by
    have e : acc.toList = kvs.map Prod.snd := by
      apply List.ext_getElem?
      intro i
      by_cases hi : i < kvs.length
      · have hi' : i < acc.size := by rw [hacc.1]; exact hi
        obtain ⟨k, hk⟩ := hacc.2 i acc[i] (Array.getElem?_eq_getElem hi')
        rw [List.getElem?_map, hk, Array.getElem?_toList, Array.getElem?_eq_getElem hi']
        rfl
      · rw [List.getElem?_eq_none (by rw [Array.length_toList, hacc.1]; omega), List.getElem?_eq_none (by rw [List.length_map]; omega)]
    rw [e]
    exact hP
  obtain ⟨l, hl, ht⟩ := strsAre_values hS
  subst ht
  rw [hl]
  have hok' := joinOk_of hok
  unfold JoinOk at hok'
  rw [Bool.not_eq_true'] at hok'
  have g : Gives (joinTail x (strValues l)) (joinMade x l) := by
    have g0 := gives_joinTail x l hok'
    cases l with
    | nil => exact g0
    | cons p r => cases r with
      | nil => exact g0
      | cons q r' => exact g0
  refine g prog w A (wants Q E) s' (post_join l ⟨joinFit_length hok', fun t' k => ?_⟩)
  rw [Moved.eq_with hmv]
  refine hq s'.heap t' k fun b o e => hmv.heap b o (fun hI => absurd (Heap.lt_size e) (by rw [List.mem_singleton.mp hI]; exact Nat.lt_irrefl _)) (Heap.get?_push_of_some _ e)
end
end PySem

namespace Tb
open PySem PySem.Spec PyProof.Rows L2 TL
def valsO (p d : Addr) : HO := .ext fun h => h.IsValuesView p d
theorem valsO_ok {P : Program} {w : World} {H : Hp} {h : Heap} {p d : Addr} (e : h.get? p = some { cls := .type "dict_values", data := .fields #[.ref d] }) : ObjOk P w H h p (valsO p d) :=
  ⟨⟨_, e, rfl, rfl⟩, ⟨_, e⟩, fun h1 h2 x k => let ⟨o, ho, r⟩ := x; ⟨o, k o ho, r⟩⟩
section
variable {X : Cx}
def rVals : V → List V → Hp → VK → Prop := fun x xs H Q => ∃ (a : Addr) (kvs : List (Key × V)), x = .ref a ∧ xs = [] ∧ H a = some (.dK kvs) ∧ ∀ p, H p = none → Q (.ref p) (upd H p (valsO p a))
theorem mt_vals : MtR X "dict.values" rVals := by
  intro pins s σ H x xs v us Q I rx rxs h
  obtain ⟨a, kvs, rfl, rfl, ha, q⟩ := h
  cases rx
  cases rxs
  obtain ⟨_, hsys, vs, rel, dof⟩ := dk_of I.hok ha
  obtain ⟨ep, dat⟩ := dof.dictAt
  obtain ⟨ob, es, ho, ex, hdat, hko, hpr, hnd⟩ := id dat
  refine call_meetsIn PySem.F.slot_dict_values ⟨ob, ho, ex.1⟩ PySem.F.entry_dict_values (PySem.F.args_dict_values_1 _) (meets_dict_values (mixKind X.prog X.w) a hsys) ⟨⟨vs, dof⟩, ?_⟩
  exact ⟨.ref s.heap.objs.size, upd H s.heap.objs.size (valsO s.heap.objs.size a), I.laid (t' := s.toks) (fun b u e => Heap.get?_push_of_some _ e) (Nat.le_refl _) (valsO_ok (Heap.get?_push_size _ rfl)), rfl, q _ (I.hok.fresh (Nat.le_refl _))⟩
def rJoinV : V → List V → Hp → VK → Prop := fun x xs H Q => ∃ (a : Str) (p d : Addr) (kvs : List (Key × V)) (ys : List Str), x = .str a ∧ xs = [.ref p] ∧ H p = some (valsO p d) ∧ H d = some (.dK kvs) ∧ kvs.map Prod.snd = ys.map V.str ∧ (ys.map (·.length)).sum + ys.length * a.length ≤ 16777216 ∧ Q (.str (Txt.join a ys)) H
theorem mt_joinV (hc : X.calm = true) : MtR X "str.join" rJoinV := by
  intro pins s σ H x xs v us Q I rx rxs h
  obtain ⟨a, p, d, kvs, ys, rfl, rfl, hp, hd, hy, hz, q⟩ := h
  obtain ⟨t, rfl⟩ := rx
  obtain ⟨u, rfl, r⟩ := vals1 rxs
  cases (show u = Value.ref p from r)
  have hv : s.heap.IsValuesView p d := (show ObjOk X.prog X.w H s.heap p (valsO p d) from I.hok p _ hp).1
  obtain ⟨hl, hsys, vs, rel, dof⟩ := dk_of I.hok hd
  obtain ⟨ep, dat⟩ := dof.dictAt
  have hlen : kvs.length = vs.length := KV.length rel
  have hS : StrsAre (vs.map Prod.snd) ys := strs_at (by
      have e1 := congrArg List.length hy
      rw [List.length_map, List.length_map] at e1
      rw [List.length_map, ← hlen, e1]) fun j v e => by
    rw [List.getElem?_map] at e
    obtain ⟨⟨k, v'⟩, hk, e'⟩ := Option.map_eq_some_iff.mp e
    have e'' : v' = v := e'
    subst e''
    obtain ⟨x, h1, h2⟩ := KV.at' rel hk
    have e1 : (kvs.map Prod.snd)[j]? = some x := by rw [List.getElem?_map, h1] <;> rfl
    rw [hy, List.getElem?_map] at e1
    obtain ⟨y, hj, e2⟩ := Option.map_eq_some_iff.mp e1
    subst e2
    obtain ⟨t, e3⟩ := h2
    exact ⟨y, t, hj, e3⟩
  refine joinDV (I.ok.hd hc) hv dat hS (by omega) hz fun h' t' k hk => ?_
  exact ⟨.str _, H, I.kept (t' := k) hk, ⟨t', rfl⟩, q⟩
/-- sep.join(d.values()) -/
def tJoinV (ts td : TE) : TE := fun σ H Q => ts σ H fun x H1 => ∃ a : Str, x = .str a ∧ td σ H1 fun y H2 => ∃ (d : Addr) (kvs : List (Key × V)) (ys : List Str), y = .ref d ∧ H2 d = some (.dK kvs) ∧ kvs.map Prod.snd = ys.map V.str ∧ (ys.map (·.length)).sum + ys.length * a.length ≤ 16777216 ∧ ∀ H', Same H2 H' → Q (.str (Txt.join a ys)) H'
theorem pe_joinV {o e : Expr} {to te : TE} {apos pos ap2 p2 : Pos} (hc : X.calm = true) (ho : PE X o to) (he : PE X e te) (hs : starEach [Expr.Call (.Attribute e "values" ap2) [] [] p2] X.env = [(false, eval (Expr.Call (.Attribute e "values" ap2) [] [] p2) X.env)] := by rfl) (hbase : attributeBase o "join" X.env (eval o X.env) = eval o X.env := by rfl) (hline : (apos.endLine == pos.line) = true := by rfl)
    (hbase2 : attributeBase e "values" X.env (eval e X.env) = eval e X.env := by rfl) (hline2 : (ap2.endLine == p2.line) = true := by rfl) :
    PE X (.Call (.Attribute o "join" apos) [.Call (.Attribute e "values" ap2) [] [] p2] [] pos) (tJoinV to te) :=
  PE.weak (pe_m1 PySem.F.slot_str_join PySem.F.type_str_join (mt_joinV hc) (PE.mono ho) (pe_bm0 PySem.F.plainAttrs_dict PySem.F.slot_dict_values PySem.F.type_dict_values mt_vals (PE.mono he) hbase2 hline2) hs hbase hline) fun σ H Q z => by
    refine ⟨_, z, fun x H1 ⟨a, ex, z1⟩ => ⟨⟨a, ex⟩, _, z1, fun y H2 ⟨d, kvs, ys, ey, hd, hv, hz, q⟩ => ?_⟩⟩
    subst ex ey
    have ht : tyV X.K "dict" (.ref d) H2 := .inr (.inr (.inl ⟨rfl, .inl ⟨kvs, hd⟩⟩))
    refine ⟨ht, d, kvs, rfl, rfl, hd, fun p np => ?_⟩
    have npd : d ≠ p := ne_of_none hd np
    exact ⟨a, p, d, kvs, ys, rfl, rfl, upd_same, by rw [upd_ne npd]; exact hd, hv, hz, q _ (same_upd np)⟩
end
end Tb

set_option Elab.async false
set_option linter.all false
set_option maxRecDepth 100000
set_option maxHeartbeats 2000000
namespace Tb
open PySem PySem.Spec PyProof.Rows L2 TL
/-- a list or a tuple -/
def SeqH (H : Hp) (p : Addr) (xs : List V) : Prop := H p = some (.lst xs) ∨ H p = some (.tup xs)
theorem SeqH.same {H H' : Hp} {p : Addr} {xs : List V} (h : SeqH H p xs) (s : Same H H') : SeqH H' p xs := h.imp (s _ _) (s _ _)
theorem SeqH.sq {K : PySem.W.Frag} {H : Hp} {p : Addr} {xs : List V} (h : SeqH H p xs) : SqL K H p xs ∨ SqT K H p xs := h.imp SqL.of SqT.of
def isLT (K : PySem.W.Frag) (H : Hp) (x : V) (b : Bool) : Prop := ∃ t, TyX K H x t ∧ PySem.W.kitAny K t [.type "list", .type "tuple"] = some b
theorem SeqH.isLT {K : PySem.W.Frag} {H : Hp} {p : Addr} {xs : List V} (h : SeqH H p xs) : isLT K H (.ref p) true := by
  rcases h with h | h
  · exact ⟨_, .base (.lst h), kitAny_cons (b := true) (kit_ty (by decide +kernel)) (fun z => nomatch z) (fun _ => rfl)⟩
  · exact ⟨_, .base (.tup h), kitAny_cons (b := false) (kit_ty (by decide +kernel)) (fun _ => kitAny_cons (b := true) (kit_ty (by decide +kernel)) (fun z => nomatch z) (fun _ => rfl)) (fun z => nomatch z)⟩
def tIsLT (K : PySem.W.Frag) (ta : TE) : TE := fun σ H Q => ta σ H fun x H1 => ∃ b, (∀ H', Same H1 H' → isLT K H' x b) ∧ ∀ H', Same H1 H' → Q (.bl b) H'
theorem pe_isLT {X : Cx} {a : Expr} {ta : TE} {k : Nat} {p p1 p2 p3 pos : Pos} (ha : PE X a ta) (mi : X.mg "isinstance" = none) (hg : Gl X "isinstance") (ml : X.mg "list" = none) (hgl : Gl X "list") (mt : X.mg "tuple" = none) (hgt : Gl X "tuple")
    (na : starEach [a, .Tuple [.Name "list" p1, .Name "tuple" p2] k p3] X.env = (false, eval a X.env) :: starEach [.Tuple [.Name "list" p1, .Name "tuple" p2] k p3] X.env := by rfl)
    (na2 : starEach [.Tuple [.Name "list" p1, .Name "tuple" p2] k p3] X.env = (false, eval (.Tuple [.Name "list" p1, .Name "tuple" p2] k p3) X.env) :: starEach [] X.env := by rfl)
    (na3 : starEach [.Name "list" p1, .Name "tuple" p2] X.env = (false, eval (.Name "list" p1) X.env) :: starEach [.Name "tuple" p2] X.env := by rfl)
    (na4 : starEach [.Name "tuple" p2] X.env = (false, eval (.Name "tuple" p2) X.env) :: starEach [] X.env := by rfl)
    (hpl : (backTo pos (starEach [.Tuple [.Name "list" p1, .Name "tuple" p2] k p3] X.env)).any (·.1) = false := by rfl) :
    PE X (.Call (.Name "isinstance" p) [a, .Tuple [.Name "list" p1, .Name "tuple" p2] k p3] [] pos) (tIsLT X.K ta) :=
  PE.weak (pe_callB call_isiT hg mi (by decide +kernel) (pa_cons (PE.mono ha) (pa_cons (pe_tupS (pa_cons (pe_bltn hgl ml (by decide +kernel) (v := .ty "list") rfl) (pa_cons (pe_bltn hgt mt (by decide +kernel) (v := .ty "tuple") rfl) pa_nil na4) na3)) pa_nil na2) na) (he := na) (hpl := hpl)) fun σ H Q z => ⟨_, z, fun x H1 ⟨b, h, q⟩ =>
    ⟨by show 2 ≤ sizeLine; decide, fun T H2 s2 n2 e2 => by
      obtain ⟨t, ty, k⟩ := h H2 s2
      exact ⟨x, T, _, t, _, b, rfl, e2, .cons (.ty _) (.cons (.ty _) .nil), ty, k, q H2 s2⟩⟩⟩
section
variable {P : Program} {w : World} {K : PySem.W.Frag} {mg : Str → Option Value} {base : Heap}
/-! ### _are_letters -/
abbrev nAreLetters : List Str := ["thing", "most"]
theorem scAreLetters : FnScope nAreLetters ["thing", "most"] (defScope sAreLetters) := ⟨rfl, rfl, rfl, by decide +kernel, rfl, by decide +kernel, by decide +kernel⟩
def okLetters (cs : List Nat) : Bool := cs.all isLow && (decide (1 ≤ cs.length) && (decide (cs.length ≤ 5) && decide cs.Nodup))
def spAreLetters (K : PySem.W.Frag) : Sp := fun vs H Q _ => (∃ cs : List Nat, vs = [.str (S cs), .int 5] ∧ cs.length ≤ 1000 ∧ ∀ H', Same H H' → Q (.bl (okLetters cs)) H') ∨ (∃ x, vs = [x, .int 5] ∧ Isi K H x "str" false ∧ Q (.bl false) H)
theorem ok_areLetters {f : Addr} {fd : FuncData} {k : Nat} (F : Fun K "are_letters" "are_letters" sAreLetters f fd) (DT : Df P w K mg base (k + 1) "is_text" ["thing"] (spIsText K)) (DD : Df P w K mg base (k + 1) "are_different" ["strings"] (spAreDiff K)) (ml : mg "len" = none) : FnOk P w K mg base CX0 (k + 2) f fd ["thing", "most"] (spAreLetters K) := by
  refine F.ok scAreLetters (fun vs H Q E h => ?_) (fun cdv A outer s H vs Q E hr h => ?_)
  · rcases h with ⟨cs, rfl, _⟩ | ⟨x, rfl, _⟩ <;> rfl
  · refine ⟨_, pss_one (ps_ret (pe_and (pe_df DT hr (pa_cons (pv 0) pa_nil)) (pe_and (pe_chain op_le op_le pe_int (pe_callB call_len_str (by rfl) ml PySem.boot_len (pa_cons (pv 0) pa_nil)) (pv 1)) (pe_one (pe_df DD hr (pa_cons (pv 0) pa_nil)))))), ?_⟩
    rcases h with ⟨cs, rfl, hl, q⟩ | ⟨x, rfl, hx, q⟩
    · refine ⟨_, rfl, .inl ⟨cs, rfl, hl, fun H' s' => ?_⟩⟩
      have hq := q H' s'
      refine ⟨_, rfl, ?_⟩
      unfold okLetters at hq
      by_cases h1 : cs.all isLow = true
      · rw [h1] at hq ⊢
        refine iteT ⟨_, rfl, S cs, rfl, by rw [len_S]; exact Nat.le_trans hl (by decide), _, _, rfl, rfl, _, rfl, ?_⟩
        rw [len_S]
        by_cases h2 : 1 ≤ cs.length
        · rw [decide_eq_true h2] at hq
          rw [decide_eq_true (show (1 : Int) ≤ (cs.length : Int) by omega)]
          refine iteT ⟨_, rfl, _, _, rfl, rfl, _, rfl, ?_⟩
          have e : decide ((cs.length : Int) ≤ 5) = decide (cs.length ≤ 5) := by
            rw [decide_eq_decide]
            omega
          rw [e]
          by_cases h3 : cs.length ≤ 5
          · rw [decide_eq_true h3] at hq ⊢
            exact iteT ⟨_, rfl, .inl ⟨cs, rfl, hl, hq⟩⟩
          · rw [decide_eq_false h3] at hq ⊢
            exact iteF hq
        · rw [decide_eq_false h2] at hq
          rw [decide_eq_false (show ¬ (1 : Int) ≤ (cs.length : Int) by omega)]
          refine iteF ⟨_, rfl, iteF hq⟩
      · rw [Bool.eq_false_iff.mpr h1] at hq ⊢
        exact iteF hq
    · exact ⟨_, rfl, .inr ⟨x, rfl, hx, false, rfl, iteF q⟩⟩
/-! ### _are_boxes -/
def isCap (c : Nat) : Bool := decide (65 ≤ c ∧ c ≤ 90)
def AZ : List Nat := (List.range 26).map (65 + ·)
theorem AZ_str : Str.ofString "ABCDEFGHIJKLMNOPQRSTUVWXYZ" = S AZ := by decide +kernel
theorem cap_AZ (c : Nat) : decide (c ∈ AZ) = isCap c := by
  unfold isCap AZ
  rw [decide_eq_decide, List.mem_map]
  constructor
  · rintro ⟨i, hi, rfl⟩
    have := List.mem_range.mp hi
    omega
  · intro h
    exact ⟨c - 65, List.mem_range.mpr (by omega), by omega⟩
def okBoxes (cs : List Nat) : Bool := decide (cs.length ≤ 6) && (cs.all isCap && decide cs.Nodup)
abbrev nAreBoxes : List Str := ["thing", "sign"]
theorem scAreBoxes : FnScope nAreBoxes ["thing"] (defScope sAreBoxes) := ⟨rfl, rfl, rfl, by decide +kernel, rfl, by decide +kernel, by decide +kernel⟩
def spAreBoxes (K : PySem.W.Frag) : Sp := fun vs H Q _ => (∃ cs : List Nat, vs = [.str (S cs)] ∧ cs.length ≤ 1000 ∧ ∀ H', Same H H' → Q (.bl (okBoxes cs)) H') ∨ (∃ x, vs = [x] ∧ Isi K H x "str" false ∧ Q (.bl false) H)
theorem ok_areBoxes {f : Addr} {fd : FuncData} {k : Nat} (F : Fun K "_are_boxes" "_are_boxes" sAreBoxes f fd) (DD : Df P w K mg base (k + 1) "are_different" ["strings"] (spAreDiff K)) (mi : mg "isinstance" = none) (ms : mg "str" = none) (ma : mg "all" = none) (ml : mg "len" = none) (mN : ∃ t, mg "MOST_BOXES" = some (.int 6 t)) (mB : ∃ t, mg "BOXES" = some (.str (Str.ofString "ABCDEFGHIJKLMNOPQRSTUVWXYZ") t)) : FnOk P w K mg base CX0 (k + 2) f fd ["thing"] (spAreBoxes K) := by
  obtain ⟨tN, mN⟩ := mN
  obtain ⟨tB, mB⟩ := mB
  refine F.ok scAreBoxes (fun vs H Q E h => ?_) (fun cdv A outer s H vs Q E hr h => ?_)
  · rcases h with ⟨cs, rfl, _⟩ | ⟨x, rfl, _⟩ <;> rfl
  · refine ⟨_, pss_cons (ps_if (PW.pt (pw_or (pt_not (pt_val (pe_isStr (pv 0) mi (by rfl) ms (by rfl)))) (pw_or1 (pt_cmpR op_gt (pe_callB call_len_str (by rfl) ml PySem.boot_len (pa_cons (pv 0) pa_nil)) (pe_glob (v := .int 6) (by rfl) mN ⟨_, rfl⟩) (nomark _))))) (pss_one (ps_ret pe_bl)) pss_nil)
      (pss_one (ps_ret (pe_and (pe_callB (cr_all rfl) (by rfl) ma (by decide +kernel) (pa_cons (pe_lc (own := [("sign", 1)]) (g := gName 1) (tt := tYes) (te := tOp (fun x y H Q => ∃ (c : Nat) (z : Str), x = .str ⟨#[c]⟩ ∧ y = .str z ∧ Q (.bl (decide (c ∈ z.cps.toList))) H) (tVar 1) (tC (.str (Str.ofString "ABCDEFGHIJKLMNOPQRSTUVWXYZ")))) rfl scAreBoxes.nd
          (pi_str (pv 0)) (blkOk_by (own := [("sign", 1)]) (N := nAreBoxes) (sc := defScope sAreBoxes) (by decide +kernel)) (fun _ _ _ _ _ => pg_name (i := 1) scAreBoxes.nd rfl (.inl rfl)) (fun _ _ _ _ _ => pts_nil) (fun _ _ _ _ _ => pe_cmpR op_in_sign (pv 1) (pe_glob (by rfl) mB ⟨_, rfl⟩) (by rfl))) pa_nil)) (pe_one (pe_df DD hr (pa_cons (pv 0) pa_nil)))))), ?_⟩
    rcases h with ⟨cs, rfl, hl, q⟩ | ⟨x, rfl, hx, q⟩
    · refine ⟨_, rfl, true, isi_str _, true, rfl, iteF ⟨_, rfl, S cs, rfl, by rw [len_S]; exact Nat.le_trans hl (by decide), _, _, rfl, rfl, _, rfl, ?_⟩⟩
      rw [len_S]
      unfold okBoxes at q
      by_cases h1 : cs.length ≤ 6
      · rw [decide_eq_true h1] at q
        rw [decide_eq_false (show ¬ (6 : Int) < (cs.length : Int) by omega)]
        refine iteF ⟨_, rfl, S cs, rfl, fun D nD => lc_mapS (cs := cs) (fun c => .bl (isCap c)) nD (Nat.lt_of_le_of_lt hl (by decide)) ?_ ?_⟩
        · intro c hc H' R s' r
          refine ⟨_, rfl, c, _, rfl, rfl, ?_⟩
          rw [AZ_str]
          show R (.bl (decide (c ∈ AZ))) H'
          rw [cap_AZ]
          exact r
        · intro H' s' e'
          have hq := q H' s'
          refine ⟨D, cs.map isCap, rfl, SqL.of (by rw [e', List.map_map]; rfl), _, rfl, ?_⟩
          rw [List.all_map, show (id ∘ isCap) = isCap from rfl]
          by_cases h2 : cs.all isCap = true
          · rw [h2] at hq ⊢
            exact iteT ⟨_, rfl, .inl ⟨cs, rfl, hl, hq⟩⟩
          · rw [Bool.eq_false_iff.mpr h2] at hq ⊢
            exact iteF hq
      · rw [decide_eq_false h1] at q
        rw [decide_eq_true (show (6 : Int) < (cs.length : Int) by omega)]
        exact iteT (q H (fun _ _ e => e))
    · exact ⟨_, rfl, false, hx, false, rfl, iteT (iteT q)⟩
/-! ### _is_pair, _is_one_of -/
abbrev nIsPair : List Str := ["thing"]
theorem scIsPair : FnScope nIsPair ["thing"] (defScope sIsPair) := ⟨rfl, rfl, rfl, by decide +kernel, rfl, by decide +kernel, by decide +kernel⟩
def spIsPair (K : PySem.W.Frag) : Sp := fun vs H Q _ => (∃ p xs, vs = [.ref p] ∧ SeqH H p xs ∧ ∀ H', Same H H' → Q (.bl (decide (xs.length = 2))) H') ∨ (∃ x, vs = [x] ∧ (∀ H', Same H H' → isLT K H' x false) ∧ ∀ H', Same H H' → Q (.bl false) H')
theorem ok_isPair {f : Addr} {fd : FuncData} {k : Nat} (F : Fun K "is_pair" "is_pair" sIsPair f fd) (mi : mg "isinstance" = none) (mL : mg "list" = none) (mT : mg "tuple" = none) (ml : mg "len" = none) : FnOk P w K mg base CX0 (k + 1) f fd ["thing"] (spIsPair K) := by
  refine F.ok scIsPair (fun vs H Q E h => ?_) (fun cdv A outer s H vs Q E hr h => ?_)
  · rcases h with ⟨p, xs, rfl, _⟩ | ⟨x, rfl, _⟩ <;> rfl
  · refine ⟨_, pss_one (ps_ret (pe_and (pe_isLT (pv 0) mi (by rfl) mL (by rfl) mT (by rfl)) (pe_one (pe_cmpR op_eq (pe_callB call_lenS (by rfl) ml PySem.boot_len (pa_cons (pv 0) pa_nil)) pe_int (nomark _))))), ?_⟩
    rcases h with ⟨p, xs, rfl, hp, q⟩ | ⟨x, rfl, hx, q⟩
    · refine ⟨_, rfl, true, fun H' s' => (hp.same s').isLT, fun H' s' => ⟨true, rfl, iteT ⟨_, rfl, p, xs, rfl, (hp.same s').sq, rfl, ?_⟩⟩⟩
      have e : decide (V.int (xs.length : Int) = V.int 2) = decide (xs.length = 2) := num_eq xs.length 2
      rw [e]
      exact q H' s'
    · exact ⟨_, rfl, false, hx, fun H' s' => ⟨false, rfl, iteF (q H' s')⟩⟩
abbrev nIsOneOf : List Str := ["thing", "strings"]
theorem scIsOneOf : FnScope nIsOneOf ["thing", "strings"] (defScope sIsOneOf) := ⟨rfl, rfl, rfl, by decide +kernel, rfl, by decide +kernel, by decide +kernel⟩
def spIsOneOf (K : PySem.W.Frag) : Sp := fun vs H Q _ => (∃ (c : List Nat) (p : Addr) (l : List (List Nat)), vs = [.str (S c), .ref p] ∧ SeqH H p (txs l) ∧ Q (.bl (decide (c ∈ l))) H) ∨ (∃ x y, vs = [x, y] ∧ Isi K H x "str" false ∧ Q (.bl false) H)
theorem ok_isOneOf {f : Addr} {fd : FuncData} {k : Nat} (F : Fun K "is_one_of" "is_one_of" sIsOneOf f fd) (mi : mg "isinstance" = none) (ms : mg "str" = none) : FnOk P w K mg base CX0 (k + 1) f fd ["thing", "strings"] (spIsOneOf K) := by
  refine F.ok scIsOneOf (fun vs H Q E h => ?_) (fun cdv A outer s H vs Q E hr h => ?_)
  · rcases h with ⟨c, p, l, rfl, _⟩ | ⟨x, y, rfl, _⟩ <;> rfl
  · refine ⟨_, pss_one (ps_ret (pe_and (pe_isStr (pv 0) mi (by rfl) ms (by rfl)) (pe_one (pe_cmpR op_in_seq (pv 0) (pv 1) (by rfl))))), ?_⟩
    rcases h with ⟨c, p, l, rfl, hp, q⟩ | ⟨x, y, rfl, hx, q⟩
    · refine ⟨_, rfl, true, isi_str _, true, rfl, iteT ⟨_, rfl, _, rfl, p, txs l, rfl, hp.sq, rfl, ?_, ?_⟩⟩
      · unfold txs
        rw [List.all_map, List.all_eq_true]
        exact fun _ _ => rfl
      · show Q (.bl (inV (.str (S c)) (txs l))) H
        unfold txs
        rw [inV_S]
        exact q
    · exact ⟨_, rfl, false, hx, false, rfl, iteF q⟩
/-! ### _are_places -/
def okPlaces (l : List (List Nat)) : Bool := (decide (1 ≤ l.length) && decide (l.length ≤ 50)) && (l.all isName && decide l.Nodup)
def okNames (l : List (List Nat)) : Bool := decide (1 ≤ l.length) && (l.all isName && decide l.Nodup)
abbrev nAreNames : List Str := ["thing", "name"]
theorem scAreNames : FnScope nAreNames ["thing"] (defScope sAreNames) := ⟨rfl, rfl, rfl, by decide +kernel, rfl, by decide +kernel, by decide +kernel⟩
theorem scArePlaces : FnScope ["thing"] ["thing"] (defScope sArePlaces) := ⟨rfl, rfl, rfl, by decide +kernel, rfl, by decide +kernel, by decide +kernel⟩
/-- good ones only -/
def spAreNames : Sp := fun vs H Q _ => ∃ (p : Addr) (l : List (List Nat)), vs = [.ref p] ∧ SeqH H p (txs l) ∧ (∀ x ∈ l, x.length ≤ 1000) ∧ l.length ≤ 1000 ∧ okNames l = true ∧ ∀ H', Same H H' → Q (.bl true) H'
def spArePlaces : Sp := fun vs H Q _ => ∃ (p : Addr) (l : List (List Nat)), vs = [.ref p] ∧ SeqH H p (txs l) ∧ (∀ x ∈ l, x.length ≤ 1000) ∧ l.length ≤ 1000 ∧ okPlaces l = true ∧ ∀ H', Same H H' → Q (.bl true) H'
end
end Tb

set_option Elab.async false
set_option linter.all false
set_option maxRecDepth 100000
set_option maxHeartbeats 2000000
namespace Tb
open PySem PySem.Spec PyProof.Rows L2 TL
/-! ### a comprehension over anything that gives the items of xs; its element may lay new objects -/
section
variable {te : TE} {tt : TT} {vs : List Nat} {σ : L2.St} {H1 : Hp} {D : Addr} {Qd : Hp → Prop} {sl : Nat} {J : It} {n : Nat} {G : Hp → Prop} {Y : Nat → Hp → V → Hp → Prop}
theorem lc_mapW {xs : List V} (g : V → V) (w : Walk J n G Y) (hn : n = xs.length) (hY : ∀ i H x H', Y i H x H' → H' = H ∧ xs[i]? = some x) (hG : ∀ H', Same H1 H' → G H') (nD : H1 D = none) (hl : xs.length < sizeLine)
    (he : ∀ x ∈ xs, ∀ H' (R : VK), Same H1 H' → (∀ H'', Same H' H'' → R (g x) H'') → te ((wipe σ vs).set sl (some x)) H' R)
    (hd : ∀ H', Same H1 H' → H' D = some (.lst (xs.map g)) → Qd H') (hw : ∀ x, wipe ((wipe σ vs).set sl (some x)) vs = wipe σ vs := by intro _; rfl) :
    ∃ W : Nat → Nat → Hp → Prop, (∃ m, W 0 m (upd H1 D (.lst []))) ∧ ∀ i m H, W i m H →
      (J.stop i H ∧ Qd H) ∨ (J.go i H ∧ ∃ Nx : Hp → Prop, (∀ H', Nx H' → ∃ m', m' < m ∧ W (i + 1) m' H') ∧ ∀ x H', J.yld i H x H' → gName sl x (wipe σ vs) H' fun σ2 H2 => wipe σ2 vs = wipe σ vs ∧ tYes σ2 H2 fun b H3 =>
        if b = true then te σ2 H3 fun y H4 => ∃ acc, H4 D = some (.lst acc) ∧ acc.length < sizeLine ∧ Nx (upd H4 D (.lst (acc ++ [y]))) else Nx H3) := by
  refine lc_it w (fun i H => Same H1 H ∧ H D = some (.lst ((xs.take i).map g))) ⟨same_upd nD, upd_same⟩ (fun i H _ h => hG H h.1) ?_ ?_
  · rintro i x H H' hi ⟨s, e⟩ y
    obtain ⟨rfl, hx⟩ := hY _ _ _ _ y
    refine ⟨hw _, tYes_if (he x (List.mem_of_getElem? hx) _ _ s fun H2 s2 => ⟨_, s2 _ _ e, ?_, fun b o eb => ?_, ?_⟩)⟩
    · rw [List.length_map, List.length_take]
      exact Nat.lt_of_le_of_lt (Nat.min_le_right _ _) hl
    · rw [upd_ne (ne_of_none eb nD)]
      exact s2 _ _ (s _ _ eb)
    · rw [upd_same, List.take_add_one, hx, List.map_append]
      rfl
  · rintro H ⟨s, e⟩
    subst hn
    rw [List.take_length] at e
    exact hd H s e
end
theorem same_unlock {H H' : Hp} {d : Addr} {od : Obj} {u : HO} (hd : H d = some u) (s : Same (upd H d (.frz od u)) H') : Same H (upd H' d u) := fun b o e => by
  by_cases hb : b = d
  · rw [hb, hd] at e
    cases e
    rw [hb, upd_same]
  · rw [upd_ne hb]
    refine s b o ?_
    rw [upd_ne hb]
    exact e
section
variable {P : Program} {w : World} {K : PySem.W.Frag} {mg : Str → Option Value} {base : Heap}
def nameV : V → V := fun v => match v with | .str x => .bl (isName (tl x)) | _ => .non
theorem nameV_S (c : List Nat) : nameV (.str (S c)) = .bl (isName c) := rfl
theorem okNames_iff {l : List (List Nat)} (h : okNames l = true) : 1 ≤ l.length ∧ l.all isName = true ∧ l.Nodup := by
  unfold okNames at h
  rw [Bool.and_eq_true, Bool.and_eq_true] at h
  exact ⟨of_decide_eq_true h.1, h.2.1, of_decide_eq_true h.2.2⟩
theorem ok_areNames {f : Addr} {fd : FuncData} {k : Nat} (F : Fun K "are_names" "are_names" sAreNames f fd) (DN : Df P w K mg base (k + 2) "is_name" ["thing"] (spIsName K)) (DD : Df P w K mg base (k + 1) "are_different" ["strings"] (spAreDiff K)) (mi : mg "isinstance" = none) (mL : mg "list" = none) (mT : mg "tuple" = none) (ma : mg "all" = none) (ml : mg "len" = none) : FnOk P w K mg base CX0 (k + 3) f fd ["thing"] spAreNames := by
  refine F.ok scAreNames (fun vs H Q E h => ?_) (fun cdv A outer s H vs Q E hr h => ?_)
  · obtain ⟨p, l, rfl, _⟩ := h
    rfl
  · obtain ⟨p, l, rfl, hp, hle, hl, ok, q⟩ := h
    obtain ⟨h1, h2, h3⟩ := okNames_iff ok
    have lt' : (txs l).length = l.length := List.length_map _
    rcases hp with hp | hp
    · refine ⟨_, pss_cons (ps_if (PW.pt (pw_or (pt_not (pt_val (pe_isLT (pv 0) mi (by rfl) mL (by rfl) mT (by rfl)))) (pw_or1 (pt_cmpR op_eq (pe_callB call_lenS (by rfl) ml PySem.boot_len (pa_cons (pv 0) pa_nil)) pe_int (nomark _))))) (pss_one (ps_ret pe_bl)) pss_nil)
        (pss_one (ps_ret (pe_and (pe_callB (cr_all rfl) (by rfl) ma (by decide +kernel) (pa_cons (pe_lc (own := [("name", 1)]) (g := gName 1) (tt := tYes) (te := tCall (spIsName K) [] E0 (tCons (tVar 1) tNil)) rfl scAreNames.nd
          (pi_list (pv 0)) (blkOk_by (own := [("name", 1)]) (N := nAreNames) (sc := defScope sAreNames) (by decide +kernel)) (fun _ _ _ _ _ => pg_name (i := 1) scAreNames.nd rfl (.inl rfl)) (fun _ _ _ _ _ => pts_nil) (fun _ _ _ _ _ => pe_df DN hr (pa_cons (pv 1) pa_nil))) pa_nil)) (pe_one (pe_df DD hr (pa_cons (pv 0) pa_nil)))))), ?_⟩
      refine ⟨_, rfl, true, fun H' s' => SeqH.isLT (.inl (s' _ _ hp)), fun H' s' => ⟨true, rfl, iteF ⟨_, rfl, p, txs l, rfl, .inl (SqL.of (s' _ _ hp)), rfl, false, ?_, iteF ?_⟩⟩⟩
      · rw [lt', decide_eq_false]
        intro z
        injection z with z
        omega
      refine ⟨_, rfl, p, rfl, ⟨_, SqL.of (s' _ _ hp)⟩, fun D nD => lc_mapW (xs := txs l) nameV walk_list rfl (fun i H x H' y => ⟨y.1, y.2⟩) (fun H2 s2 => SqL.of (s2 _ _ (s' _ _ hp))) nD (by rw [lt']; exact Nat.lt_of_le_of_lt hl (by decide)) ?_ ?_⟩
      · intro x hx H2 R s2 r
        obtain ⟨c, hc, rfl⟩ := List.mem_map.mp hx
        exact ⟨_, rfl, .inl ⟨c, rfl, hle c hc, fun H3 s3 => r H3 s3⟩⟩
      · intro H2 s2 e2
        have eb : H2 D = some (.lst ((l.map isName).map V.bl)) := by
          rw [e2]
          unfold txs
          rw [List.map_map, List.map_map]
          rfl
        refine ⟨D, l.map isName, rfl, SqL.of eb, true, ?_, iteT ⟨_, rfl, .inr ⟨p, l, rfl, .inl (SqL.of (s2 _ _ (s' _ _ hp))), hl, ?_⟩⟩⟩
        · rw [List.all_map, show l.all (id ∘ isName) = l.all isName from rfl, h2]
        · rw [decide_eq_true h3]
          exact q _ (s'.trans s2)
    · refine ⟨_, pss_cons (ps_if (PW.pt (pw_or (pt_not (pt_val (pe_isLT (pv 0) mi (by rfl) mL (by rfl) mT (by rfl)))) (pw_or1 (pt_cmpR op_eq (pe_callB call_lenS (by rfl) ml PySem.boot_len (pa_cons (pv 0) pa_nil)) pe_int (nomark _))))) (pss_one (ps_ret pe_bl)) pss_nil)
        (pss_one (ps_ret (pe_and (pe_callB (cr_all rfl) (by rfl) ma (by decide +kernel) (pa_cons (pe_lc (own := [("name", 1)]) (g := gName 1) (tt := tYes) (te := tCall (spIsName K) [] E0 (tCons (tVar 1) tNil)) rfl scAreNames.nd
          (pi_tup (pv 0)) (blkOk_by (own := [("name", 1)]) (N := nAreNames) (sc := defScope sAreNames) (by decide +kernel)) (fun _ _ _ _ _ => pg_name (i := 1) scAreNames.nd rfl (.inl rfl)) (fun _ _ _ _ _ => pts_nil) (fun _ _ _ _ _ => pe_df DN hr (pa_cons (pv 1) pa_nil))) pa_nil)) (pe_one (pe_df DD hr (pa_cons (pv 0) pa_nil)))))), ?_⟩
      refine ⟨_, rfl, true, fun H' s' => SeqH.isLT (.inr (s' _ _ hp)), fun H' s' => ⟨true, rfl, iteF ⟨_, rfl, p, txs l, rfl, .inr (SqT.of (s' _ _ hp)), rfl, false, ?_, iteF ?_⟩⟩⟩
      · rw [lt', decide_eq_false]
        intro z
        injection z with z
        omega
      refine ⟨_, rfl, p, rfl, ⟨_, SqT.of (s' _ _ hp)⟩, fun D nD => lc_mapW (xs := txs l) nameV walk_tup rfl (fun i H x H' y => ⟨y.1, y.2⟩) (fun H2 s2 => SqT.of (s2 _ _ (s' _ _ hp))) nD (by rw [lt']; exact Nat.lt_of_le_of_lt hl (by decide)) ?_ ?_⟩
      · intro x hx H2 R s2 r
        obtain ⟨c, hc, rfl⟩ := List.mem_map.mp hx
        exact ⟨_, rfl, .inl ⟨c, rfl, hle c hc, fun H3 s3 => r H3 s3⟩⟩
      · intro H2 s2 e2
        have eb : H2 D = some (.lst ((l.map isName).map V.bl)) := by
          rw [e2]
          unfold txs
          rw [List.map_map, List.map_map]
          rfl
        refine ⟨D, l.map isName, rfl, SqL.of eb, true, ?_, iteT ⟨_, rfl, .inr ⟨p, l, rfl, .inr (SqT.of (s2 _ _ (s' _ _ hp))), hl, ?_⟩⟩⟩
        · rw [List.all_map, show l.all (id ∘ isName) = l.all isName from rfl, h2]
        · rw [decide_eq_true h3]
          exact q _ (s'.trans s2)
theorem ok_arePlaces {f : Addr} {fd : FuncData} {k : Nat} (F : Fun K "_are_places" "_are_places" sArePlaces f fd) (DN : Df P w K mg base (k + 1) "are_names" ["thing"] spAreNames) (ml : mg "len" = none) (mN : ∃ t, mg "MOST_PLACES" = some (.int 50 t)) : FnOk P w K mg base CX0 (k + 2) f fd ["thing"] spArePlaces := by
  obtain ⟨tN, mN⟩ := mN
  refine F.ok scArePlaces (fun vs H Q E h => ?_) (fun cdv A outer s H vs Q E hr h => ?_)
  · obtain ⟨p, l, rfl, _⟩ := h
    rfl
  · obtain ⟨p, l, rfl, hp, hle, hl, ok, q⟩ := h
    have lt' : (txs l).length = l.length := List.length_map _
    unfold okPlaces at ok
    rw [Bool.and_eq_true, Bool.and_eq_true] at ok
    obtain ⟨⟨h1, h50⟩, h2⟩ := ok
    have h50 := of_decide_eq_true h50
    refine ⟨_, pss_one (ps_ret (pe_and (pe_df DN hr (pa_cons (pv 0) pa_nil)) (pe_one (pe_cmpR op_le (pe_callB call_lenS (by rfl) ml PySem.boot_len (pa_cons (pv 0) pa_nil)) (pe_glob (v := .int 50) (by rfl) mN ⟨_, rfl⟩) (nomark _))))), ?_⟩
    refine ⟨_, rfl, p, l, rfl, hp, hle, hl, by unfold okNames; rw [h1, h2]; rfl, fun H' s' => ⟨true, rfl, iteT ⟨_, rfl, p, txs l, rfl, (hp.same s').sq, _, _, rfl, rfl, ?_⟩⟩⟩
    have e : V.bl (decide (((txs l).length : Int) ≤ 50)) = V.bl true := by rw [lt', decide_eq_true (show (l.length : Int) ≤ 50 by omega)]
    show Q (V.bl (decide (((txs l).length : Int) ≤ 50))) H'
    rw [e]
    exact q _ s'
end
end Tb

set_option Elab.async false
set_option linter.all false
set_option maxRecDepth 100000
set_option maxHeartbeats 2000000
namespace Tb
open PySem PySem.Spec PyProof.Rows L2 TL
/-! ### _are_fillings -/
theorem isi_dK {K : PySem.W.Frag} {H : Hp} {d : Addr} {kvs : List (Key × V)} (h : H d = some (.dK kvs)) : Isi K H (.ref d) "dict" true := ⟨_, .base (.dK h), kit_ty (by decide +kernel)⟩
theorem isi_dT {K : PySem.W.Frag} {H : Hp} {d : Addr} {kvs : List (List Key × V)} (h : H d = some (.dT kvs)) : Isi K H (.ref d) "dict" true := ⟨_, .base (.dT h), kit_ty (by decide +kernel)⟩
theorem sgs_txs (bs : List Nat) : sgs bs = txs (bs.map fun b => [b]) := by
  unfold sgs txs
  rw [List.map_map]
  rfl
theorem kV_S (c : List Nat) : kV (Sum.inr (S c) : Key) = .str (S c) := rfl
theorem keys_fkv (hf : Fil) : (fkv hf).map (fun kv => kV kv.1) = txs (hf.map (·.1)) := by
  unfold fkv txs
  rw [List.map_map, List.map_map]
  rfl
theorem vals_fkv (hf : Fil) : (fkv hf).map Prod.snd = txs (hf.map (·.2)) := by
  unfold fkv txs
  rw [List.map_map, List.map_map]
  rfl
def okKeys (hf : Fil) (bs : List Nat) : Bool := (hf.map (·.1)).all fun c => decide (c ∈ bs.map fun b => [b])
def okFils (hf : Fil) (bs : List Nat) : Bool := okKeys hf bs && isFill (hf.map (·.2)).flatten bs
def oneV (bs : List Nat) : V → V := fun v => match v with | .str x => .bl (decide (tl x ∈ bs.map fun b => [b])) | _ => .non
theorem join_fil (l : List (List Nat)) : Txt.join (S []) (l.map S) = S l.flatten := by
  rw [join_S, joinL_nil]
theorem len_fil (l : List (List Nat)) : ((l.map S).map (·.length)).sum = l.flatten.length := by
  induction l with
  | nil => rfl
  | cons a r ih =>
    rw [List.map_cons, List.map_cons, List.sum_cons, List.flatten_cons, List.length_append, ih]
    rfl
section
variable {P : Program} {w : World} {K : PySem.W.Frag} {mg : Str → Option Value} {base : Heap}
abbrev nAreFillings : List Str := ["thing", "boxes", "boxes_apart", "box", "filling"]
theorem scAreFillings : FnScope nAreFillings ["thing", "boxes"] (defScope sAreFillings) := ⟨rfl, rfl, rfl, by decide +kernel, rfl, by decide +kernel, by decide +kernel⟩
def spAreFillings : Sp := fun vs H Q _ => ∃ (d : Addr) (hf : Fil) (bs : List Nat), vs = [.ref d, .str (S bs)] ∧ H d = some (.dK (fkv hf)) ∧ hf.length ≤ 1000 ∧ (hf.map (·.2)).flatten.length ≤ 1000 ∧ bs.length ≤ 1000 ∧ (∀ b ∈ bs, isLow b = false) ∧ ∀ H', Same H H' → Q (.bl (okFils hf bs)) H'
theorem ok_areFillings {f : Addr} {fd : FuncData} {k : Nat} (F : Fun K "_are_fillings" "_are_fillings" sAreFillings f fd) (DO : Df P w K mg base (k + 1) "is_one_of" ["thing", "strings"] (spIsOneOf K)) (DF : Df P w K mg base (k + 2) "is_filling" ["thing", "boxes"] (spIsFilling K)) (mi : mg "isinstance" = none) (md : mg "dict" = none) (mL : mg "list" = none) (ms : mg "str" = none) (ma : mg "all" = none) :
    FnOk P w K mg base CX0 (k + 3) f fd ["thing", "boxes"] spAreFillings := by
  refine F.ok scAreFillings (fun vs H Q E h => ?_) (fun cdv A outer s H vs Q E hr h => ?_)
  · obtain ⟨d, hf, bs, rfl, _⟩ := h
    rfl
  · obtain ⟨d, hf, bs, rfl, hd, hl, hl2, hb, hlow, q⟩ := h
    refine ⟨_, pss_cons (ps_if (pt_not (pt_val (pe_isDict (pv 0) mi (by rfl) md (by rfl)))) (pss_one (ps_ret pe_bl)) pss_nil)
      (pss_cons (ps_set (i := 2) scAreFillings.nd rfl (.inr rfl) (pe_callTy (call_listStr rfl) (by rfl) mL (by decide +kernel) (pa_cons (pv 1) pa_nil)))
      (pss_cons (ps_if (pt_not (pt_val (pe_callB (cr_all rfl) (by rfl) ma (by decide +kernel) (pa_cons (pe_lock (pe_lc (own := [("box", 3)]) (g := gName 3) (tt := tYes) (te := tCall (spIsOneOf K) [] E0 (tCons (tVar 3) (tCons (tVar 2) tNil))) rfl scAreFillings.nd
            (pi_keys (pv 0)) (blkOk_by (own := [("box", 3)]) (N := nAreFillings) (sc := defScope sAreFillings) (by decide +kernel)) (fun _ _ _ _ _ => pg_name (i := 3) scAreFillings.nd rfl (.inl rfl)) (fun _ _ _ _ _ => pts_nil) (fun _ _ _ _ _ => pe_df DO hr (pa_cons (pv 3) (pa_cons (pv 2) pa_nil))))) pa_nil)))) (pss_one (ps_ret pe_bl)) pss_nil)
      (pss_cons (ps_if (pt_not (pt_val (pe_callB (cr_all rfl) (by rfl) ma (by decide +kernel) (pa_cons (pe_lock (pe_lc (own := [("filling", 4)]) (g := gName 4) (tt := tYes) (te := tIsi K "str" (tVar 4)) rfl scAreFillings.nd
            (pi_values (pv 0)) (blkOk_by (own := [("filling", 4)]) (N := nAreFillings) (sc := defScope sAreFillings) (by decide +kernel)) (fun _ _ _ _ _ => pg_name (i := 4) scAreFillings.nd rfl (.inl rfl)) (fun _ _ _ _ _ => pts_nil) (fun _ _ _ _ _ => pe_isStr (pv 4) mi (by rfl) ms (by rfl)))) pa_nil)))) (pss_one (ps_ret pe_bl)) pss_nil)
      (pss_one (ps_ret (pe_df DF hr (pa_cons (pe_joinV rfl pe_str (pv 0)) (pa_cons (pv 1) pa_nil)))))))), ?_⟩
    have lk : (txs (hf.map (·.1))).length = hf.length := by unfold txs; rw [List.length_map, List.length_map]
    have lv : (txs (hf.map (·.2))).length = hf.length := by unfold txs; rw [List.length_map, List.length_map]
    have lf : (fkv hf).length = hf.length := List.length_map _
    refine ⟨_, rfl, true, isi_dK hd, true, rfl, iteF ⟨_, rfl, bs, rfl, hb, fun L H1 s1 n1 e1 => ?_⟩⟩
    have hd1 := s1 _ _ hd
    have nLd : L ≠ d := fun z => by rw [z, hd1] at e1; cases e1
    -- the keys
    refine ⟨d, _, hd1, trivial, fun od => ⟨_, rfl, d, od, rfl, .inl ⟨fkv hf, upd_same, fun D nD => ?_⟩⟩⟩
    have nDd : D ≠ d := fun z => by rw [z, upd_same] at nD; cases nD
    refine lc_mapW (xs := txs (hf.map (·.1))) (oneV bs) walk_keys (by rw [lf, lk]) (fun i H x H' y => ?_) (fun H2 s2 => s2 _ _ upd_same) nD (by rw [lk]; exact Nat.lt_of_le_of_lt hl (by decide)) ?_ ?_
    · obtain ⟨e, k', v', hk, ex⟩ := y
      refine ⟨e, ?_⟩
      rw [← keys_fkv, List.getElem?_map, hk, ex]
      rfl
    · intro x hx H2 R s2 r
      obtain ⟨c, hc, rfl⟩ := List.mem_map.mp hx
      refine ⟨_, rfl, _, rfl, .inl ⟨c, L, bs.map fun b => [b], rfl, .inl ?_, r H2 fun _ _ e => e⟩⟩
      rw [← sgs_txs]
      exact s2 _ _ (by rw [upd_ne nLd]; exact e1)
    intro H2 s2 e2
    refine ⟨s2 _ _ upd_same, D, (hf.map (·.1)).map fun c => decide (c ∈ bs.map fun b => [b]), rfl, SqL.of ?_, _, rfl, ?_⟩
    · rw [upd_ne nDd, e2]
      unfold txs
      simp only [List.map_map]
      rfl
    rw [List.all_map]
    have s12 : Same H (upd H2 d (.dK (fkv hf))) := s1.trans (same_unlock hd1 s2)
    show (if (!okKeys hf bs) = true then _ else _)
    by_cases h1 : okKeys hf bs = true
    · rw [h1]
      refine iteF ?_
      -- the values
      refine ⟨d, _, upd_same, trivial, fun od2 => ⟨_, rfl, d, od2, fkv hf, rfl, upd_same, fun D2 nD2 => ?_⟩⟩
      have nD2d : D2 ≠ d := fun z => by rw [z, upd_same] at nD2; cases nD2
      refine lc_mapW (xs := txs (hf.map (·.2))) (fun _ => .bl true) walk_values (by rw [lf, lv]) (fun i H x H' y => ?_) (fun H3 s3 => s3 _ _ upd_same) nD2 (by rw [lv]; exact Nat.lt_of_le_of_lt hl (by decide)) ?_ ?_
      · obtain ⟨e, k', hk⟩ := y
        refine ⟨e, ?_⟩
        rw [← vals_fkv, List.getElem?_map, hk]
        rfl
      · intro x hx H3 R s3 r
        obtain ⟨c, hc, rfl⟩ := List.mem_map.mp hx
        exact ⟨_, rfl, true, isi_str _, r H3 fun _ _ e => e⟩
      intro H3 s3 e3
      refine ⟨s3 _ _ upd_same, D2, (hf.map (·.2)).map fun _ => true, rfl, SqL.of ?_, _, rfl, ?_⟩
      · rw [upd_ne nD2d, e3]
        unfold txs
        simp only [List.map_map]
        rfl
      have ht : (((hf.map (·.2)).map fun _ => true).all id) = true := by
        rw [List.all_eq_true]
        intro b hb
        obtain ⟨_, _, rfl⟩ := List.mem_map.mp hb
        rfl
      rw [ht]
      refine iteF ?_
      have s13 : Same H (upd H3 d (.dK (fkv hf))) := s12.trans (same_unlock upd_same s3)
      -- the fillings in one row
      have ev : (fkv hf).map Prod.snd = ((hf.map (·.2)).map S).map V.str := by
        rw [vals_fkv]
        unfold txs
        rw [List.map_map, List.map_map, List.map_map]
        rfl
      refine ⟨_, rfl, _, rfl, d, fkv hf, (hf.map (·.2)).map S, rfl, upd_same, ev, ?_, fun H4 s4 => ⟨_, rfl, ?_⟩⟩
      · rw [len_fil, str_empty, len_S]
        show _ + _ * 0 ≤ _
        omega
      rw [str_empty, join_fil]
      refine .inl ⟨(hf.map (·.2)).flatten, bs, rfl, hl2, hlow, fun H5 s5 => ?_⟩
      have h := q H5 (s13.trans (s4.trans s5))
      unfold okFils at h
      rw [h1] at h
      exact h
    · rw [Bool.eq_false_iff.mpr h1]
      refine iteT ?_
      have h := q _ s12
      unfold okFils at h
      rw [Bool.eq_false_iff.mpr h1] at h
      exact h
end
end Tb

set_option Elab.async false
set_option linter.all false
set_option maxRecDepth 100000
set_option maxHeartbeats 4000000
namespace Tb
open PySem PySem.Spec PyProof.Rows L2 TL
/-- what stands under a key of the moves that are handed in: a list or a tuple -/
def MvIn (H : Hp) (kv : List Key × V) (m : Mv) : Prop := kv.1 = m.key ∧ ∃ t d, kv.2 = .ref t ∧ SeqH H t [.str (S m.to), .ref d] ∧ H d = some (.dK (fkv m.fl))
theorem MvIn.same {H H' : Hp} (s : Same H H') {kv : List Key × V} {m : Mv} (h : MvIn H kv m) : MvIn H' kv m := by
  obtain ⟨e, t, d, a, b, c⟩ := h
  exact ⟨e, t, d, a, b.same s, s _ _ c⟩
theorem MvAt.to_in {H : Hp} {kv : List Key × V} {m : Mv} (h : MvAt H kv m) : MvIn H kv m := by
  obtain ⟨e, t, d, a, b, c⟩ := h
  exact ⟨e, t, d, a, .inr b, c⟩
theorem MvIn.lock {H : Hp} {p : Addr} {od : Obj} {kvs : List (List Key × V)} (hp : H p = some (.dT kvs)) {kv : List Key × V} {m : Mv} (h : MvIn H kv m) : MvIn (upd H p (.frz od (.dT kvs))) kv m := by
  obtain ⟨e, t, d, a, b, c⟩ := h
  refine ⟨e, t, d, a, ?_, by rw [upd_ne (ne_of c hp (by intro z; cases z))]; exact c⟩
  rcases b with b | b
  · exact .inl (by rw [upd_ne (ne_of b hp (by intro z; cases z))]; exact b)
  · exact .inr (by rw [upd_ne (ne_of b hp (by intro z; cases z))]; exact b)
/-- parts that make a program -/
structure FilQ (bs : List Nat) (fl : Fil) : Prop where
  nd : (fl.map (·.1)).Nodup
  ok : okFils fl bs = true
  len : (fl.map (·.2)).flatten.length ≤ 1000
structure PartsQ (pt : Pt) : Prop where
  le : okLetters pt.letters = true
  bo : okBoxes pt.boxes = true
  pl : okPlaces pt.places = true
  ky : (pt.moves.map fun m => (m.pl, m.lt)).Nodup
  mv : ∀ m ∈ pt.moves, m.pl ∈ pt.places ∧ m.lt ∈ pt.letters ∧ m.to ∈ pt.places ∧ FilQ pt.boxes m.fl
  ek : (pt.ends.map (·.1)).Nodup
  en : ∀ q ∈ pt.ends, q.1 ∈ pt.places ∧ isFill q.2 pt.boxes = true ∧ q.2.length ≤ 1000
theorem paired_get2 {α β : Type} {F : α → β → Prop} : ∀ {l : List α} {m : List β} {i : Nat} {x : α}, Paired F l m → l[i]? = some x → ∃ y, m[i]? = some y ∧ F x y
  | _, _, _, _, .nil, h => by simp at h
  | _, _, 0, x, .cons h t, e => by
    simp at e
    subst e
    exact ⟨_, rfl, h⟩
  | _, _, i + 1, x, .cons h t, e => by
    simp at e
    obtain ⟨y, h1, h2⟩ := paired_get2 t e
    exact ⟨y, by simpa using h1, h2⟩
theorem FilQ.few {bs : List Nat} {fl : Fil} (h : FilQ bs fl) (hb : bs.length ≤ 1000) : fl.length ≤ 1000 := by
  have hk : okKeys fl bs = true := by
    have := h.ok
    unfold okFils at this
    exact (Bool.and_eq_true _ _ ▸ this).1
  have sub : (fl.map (·.1)) ⊆ bs.map fun b => [b] := fun x hx => of_decide_eq_true (List.all_eq_true.mp hk x hx)
  have h1 := List.Nodup.length_le_of_subset h.nd sub
  rw [List.length_map, List.length_map] at h1
  omega
section
variable {P : Program} {w : World} {K : PySem.W.Frag} {mg : Str → Option Value} {base : Heap}
abbrev nAreMoves : List Str := ["thing", "letters", "boxes", "places", "letters_apart", "key", "found"]
theorem scAreMoves : FnScope nAreMoves ["thing", "letters", "boxes", "places"] (defScope sAreMoves) := ⟨rfl, rfl, rfl, by decide +kernel, rfl, by decide +kernel, by decide +kernel⟩
def spAreMoves : Sp := fun vs H Q _ => ∃ (d pl : Addr) (kvs : List (List Key × V)) (ms : List Mv) (letters bs : List Nat) (places : List (List Nat)), vs = [.ref d, .str (S letters), .str (S bs), .ref pl] ∧ H d = some (.dT kvs) ∧ Paired (MvIn H) kvs ms ∧ SeqH H pl (txs places) ∧
  letters.length ≤ 1000 ∧ bs.length ≤ 1000 ∧ (∀ b ∈ bs, isLow b = false) ∧ (∀ m ∈ ms, m.pl ∈ places ∧ m.lt ∈ letters ∧ m.to ∈ places ∧ FilQ bs m.fl) ∧ ∀ H', Same H H' → Q (.bl true) H'
theorem ok_areMoves {f : Addr} {fd : FuncData} {k : Nat} (F : Fun K "_are_moves" "_are_moves" sAreMoves f fd) (DP : Df P w K mg base (k + 1) "is_pair" ["thing"] (spIsPair K)) (DO : Df P w K mg base (k + 1) "is_one_of" ["thing", "strings"] (spIsOneOf K)) (DF : Df P w K mg base (k + 3) "_are_fillings" ["thing", "boxes"] spAreFillings) (mi : mg "isinstance" = none) (md : mg "dict" = none) (mL : mg "list" = none) :
    FnOk P w K mg base CX0 (k + 4) f fd ["thing", "letters", "boxes", "places"] spAreMoves := by
  refine F.ok scAreMoves (fun vs H Q E h => ?_) (fun cdv A outer s H vs Q E hr h => ?_)
  · obtain ⟨d, pl, kvs, ms, letters, bs, places, rfl, _⟩ := h
    rfl
  · obtain ⟨d, pl, kvs, ms, letters, bs, places, rfl, hd, hms, hpl, hl, hb, hlow, hok, q⟩ := h
    refine ⟨_, pss_cons (ps_if (pt_not (pt_val (pe_isDict (pv 0) mi (by rfl) md (by rfl)))) (pss_one (ps_ret pe_bl)) pss_nil)
      (pss_cons (ps_set (i := 4) scAreMoves.nd rfl (.inl rfl) (pe_callTy (call_listStr rfl) (by rfl) mL (by decide +kernel) (pa_cons (pv 1) pa_nil)))
      (pss_cons (ps_lock (ps_for PassesOwn.never rfl (pi_itemsT (pv 0)) (pg_tup rfl (pgs_cons (pg_name (i := 5) scAreMoves.nd rfl (.inl rfl)) (pgs_cons (pg_name (i := 6) scAreMoves.nd rfl (.inl rfl)) pgs_nil)))
        (pss_cons (ps_if (PW.pt (pw_or (pt_not (pt_val (pe_df DP hr (pa_cons (pv 5) pa_nil)))) (pw_or1 (pt_not (pt_val (pe_df DP hr (pa_cons (pv 6) pa_nil))))))) (pss_one (ps_ret pe_bl)) pss_nil)
        (pss_cons (ps_if (PW.pt (pw_or (pt_not (pt_val (pe_df DO hr (pa_cons (pe_ix ix_tup (pv 5) pe_int (fun _ _ => rfl)) (pa_cons (pv 3) pa_nil))))) (pw_or1 (pt_not (pt_val (pe_df DO hr (pa_cons (pe_ix ix_tup (pv 5) pe_int (fun _ _ => rfl)) (pa_cons (pv 4) pa_nil)))))))) (pss_one (ps_ret pe_bl)) pss_nil)
        (pss_one (ps_if (PW.pt (pw_or (pt_not (pt_val (pe_df DO hr (pa_cons (pe_ix ix_seq (pv 6) pe_int (fun _ _ => rfl)) (pa_cons (pv 3) pa_nil))))) (pw_or1 (pt_not (pt_val (pe_df DF hr (pa_cons (pe_ix ix_seq (pv 6) pe_int (fun _ _ => rfl)) (pa_cons (pv 2) pa_nil)))))))) (pss_one (ps_ret pe_bl)) pss_nil))))))
      (pss_one (ps_ret pe_bl)))), ?_⟩
    refine ⟨_, rfl, true, isi_dT hd, true, rfl, iteF ⟨_, rfl, letters, rfl, hl, fun L H1 s1 n1 e1 => ?_⟩⟩
    have hd1 := s1 _ _ hd
    have nLd : L ≠ d := fun z => by rw [z, hd1] at e1; cases e1
    refine ⟨d, _, hd1, trivial, fun od => ⟨_, rfl, d, od, kvs, rfl, upd_same, ?_⟩⟩
    have hms1 : Paired (MvIn (upd H1 d (.frz od (.dT kvs)))) kvs ms := Paired.mono (fun kv m h => (h.same s1).lock hd1) hms
    have hpl1 : SeqH (upd H1 d (.frz od (.dT kvs))) pl (txs places) := by
      rcases hpl with h | h
      · exact .inl (by rw [upd_ne (ne_of (s1 _ _ h) hd1 (by intro z; cases z))]; exact s1 _ _ h)
      · exact .inr (by rw [upd_ne (ne_of (s1 _ _ h) hd1 (by intro z; cases z))]; exact s1 _ _ h)
    have hL1 : (upd H1 d (.frz od (.dT kvs))) L = some (.lst (sgs letters)) := by rw [upd_ne nLd]; exact e1
    refine for_it walk_itemsT (fun i σ H' => ∃ v5 v6, σ = [some (.ref d), some (.str (S letters)), some (.str (S bs)), some (.ref pl), some (.ref L), v5, v6] ∧ Same (upd H1 d (.frz od (.dT kvs))) H') ⟨none, none, rfl, fun _ _ e => e⟩ (fun i σ H' _ ⟨_, _, _, s⟩ => s _ _ upd_same) ?_ ?_
    · rintro i x σ H2 H3 hi ⟨v5, v6, rfl, s2⟩ ⟨T, kk, v, kq, hkv, hq, rfl, nT, rfl⟩
      obtain ⟨m, hm, hin⟩ := paired_get2 hms1 hkv
      obtain ⟨ek, t, fd', ev, ht, hfd⟩ := hin
      have ek' : kk = m.key := ek
      have ev' : v = .ref t := ev
      subst ek' ev'
      have hmo := hok m (List.mem_of_getElem? hm)
      have s3 : Same (upd H1 d (.frz od (.dT kvs))) (upd H2 T (.tup [.ref kq, .ref t])) := s2.trans (same_upd nT)
      have hq3 : (upd H2 T (.tup [.ref kq, .ref t])) kq = some (.tup [.str (S m.pl), .str (S [m.lt])]) := same_upd nT _ _ hq
      refine ⟨T, [.ref kq, .ref t], rfl, SqT.of upd_same, rfl, _, _, rfl, _, _, rfl, rfl, ?_⟩
      generalize upd H2 T (.tup [.ref kq, .ref t]) = H3 at s3 hq3
      refine ⟨_, rfl, .inl ⟨kq, _, rfl, .inr hq3, fun H4 s4 => ⟨true, rfl, iteF ⟨_, rfl, .inl ⟨t, _, rfl, (ht.same s3).same s4, fun H5 s5 => ⟨true, rfl, iteF ?_⟩⟩⟩⟩⟩⟩
      have s35 := s4.trans s5
      have hpl5 := (hpl1.same s3).same s35
      have hq5 := s35 _ _ hq3
      have hL5 := s35 _ _ (s3 _ _ hL1)
      have ht5 := (ht.same s3).same s35
      have hfd5 := s35 _ _ (s3 _ _ hfd)
      refine ⟨_, rfl, kq, _, 0, _, rfl, rfl, SqT.of hq5, atI_nat rfl, _, rfl, .inl ⟨m.pl, pl, places, rfl, hpl5, _, rfl, ?_⟩⟩
      rw [decide_eq_true hmo.1]
      refine iteF ⟨_, rfl, kq, _, 1, _, rfl, rfl, SqT.of hq5, atI_nat (j := 1) rfl, _, rfl, .inl ⟨[m.lt], L, letters.map fun b => [b], rfl, .inl (by rw [← sgs_txs]; exact hL5), _, rfl, ?_⟩⟩
      rw [decide_eq_true (show [m.lt] ∈ letters.map fun b => [b] from List.mem_map.mpr ⟨m.lt, hmo.2.1, rfl⟩)]
      refine iteF ?_
      have ix : ∀ (j : Nat) (z : V) (R : VK), ([V.str (S m.to), .ref fd'])[j]? = some z → R z H5 → rIx K (.ref t) (.int (j : Int)) H5 R := by
        intro j z R hz hR
        rcases ht5 with h | h
        · exact .inl ⟨t, _, _, z, rfl, rfl, SqL.of h, atI_nat hz, hR⟩
        · exact .inr (.inl ⟨t, _, _, z, rfl, rfl, SqT.of h, atI_nat hz, hR⟩)
      refine ⟨_, rfl, ix 0 _ _ rfl ⟨_, rfl, .inl ⟨m.to, pl, places, rfl, hpl5, _, rfl, ?_⟩⟩⟩
      rw [decide_eq_true hmo.2.2.1]
      refine iteF ⟨_, rfl, ix 1 _ _ rfl ⟨_, rfl, fd', m.fl, bs, rfl, hfd5, hmo.2.2.2.few hb, hmo.2.2.2.len, hb, hlow, fun H6 s6 => ⟨_, rfl, ?_⟩⟩⟩
      rw [hmo.2.2.2.ok]
      exact iteF ⟨_, _, rfl, s3.trans (s35.trans s6)⟩
    · rintro σ H2 ⟨v5, v6, rfl, s2⟩
      exact ⟨s2 _ _ upd_same, q _ (s1.trans (same_unlock hd1 s2))⟩
/-! ### _are_ends -/
abbrev nAreEnds : List Str := ["thing", "boxes", "places", "place", "filling"]
theorem scAreEnds : FnScope nAreEnds ["thing", "boxes", "places"] (defScope sAreEnds) := ⟨rfl, rfl, rfl, by decide +kernel, rfl, by decide +kernel, by decide +kernel⟩
def spAreEnds : Sp := fun vs H Q _ => ∃ (d pl : Addr) (es : Fil) (bs : List Nat) (places : List (List Nat)), vs = [.ref d, .str (S bs), .ref pl] ∧ H d = some (.dK (fkv es)) ∧ SeqH H pl (txs places) ∧ (∀ b ∈ bs, isLow b = false) ∧ (∀ q ∈ es, q.1 ∈ places ∧ isFill q.2 bs = true ∧ q.2.length ≤ 1000) ∧ ∀ H', Same H H' → Q (.bl true) H'
theorem ok_areEnds {f : Addr} {fd : FuncData} {k : Nat} (F : Fun K "_are_ends" "_are_ends" sAreEnds f fd) (DO : Df P w K mg base (k + 1) "is_one_of" ["thing", "strings"] (spIsOneOf K)) (DF : Df P w K mg base (k + 2) "is_filling" ["thing", "boxes"] (spIsFilling K)) (mi : mg "isinstance" = none) (md : mg "dict" = none) :
    FnOk P w K mg base CX0 (k + 3) f fd ["thing", "boxes", "places"] spAreEnds := by
  refine F.ok scAreEnds (fun vs H Q E h => ?_) (fun cdv A outer s H vs Q E hr h => ?_)
  · obtain ⟨d, pl, es, bs, places, rfl, _⟩ := h
    rfl
  · obtain ⟨d, pl, es, bs, places, rfl, hd, hpl, hlow, hok, q⟩ := h
    refine ⟨_, pss_cons (ps_if (pt_not (pt_val (pe_isDict (pv 0) mi (by rfl) md (by rfl)))) (pss_one (ps_ret pe_bl)) pss_nil)
      (pss_cons (ps_lock (ps_for PassesOwn.never rfl (pi_items (pv 0)) (pg_tup rfl (pgs_cons (pg_name (i := 3) scAreEnds.nd rfl (.inl rfl)) (pgs_cons (pg_name (i := 4) scAreEnds.nd rfl (.inl rfl)) pgs_nil)))
        (pss_one (ps_if (PW.pt (pw_or (pt_not (pt_val (pe_df DO hr (pa_cons (pv 3) (pa_cons (pv 2) pa_nil))))) (pw_or1 (pt_not (pt_val (pe_df DF hr (pa_cons (pv 4) (pa_cons (pv 1) pa_nil)))))))) (pss_one (ps_ret pe_bl)) pss_nil))))
      (pss_one (ps_ret pe_bl))), ?_⟩
    refine ⟨_, rfl, true, isi_dK hd, true, rfl, iteF ?_⟩
    refine ⟨d, _, hd, trivial, fun od => ⟨_, rfl, d, od, fkv es, rfl, upd_same, ?_⟩⟩
    have hpl1 : SeqH (upd H d (.frz od (.dK (fkv es)))) pl (txs places) := by
      rcases hpl with h | h
      · exact .inl (by rw [upd_ne (ne_of h hd (by intro z; cases z))]; exact h)
      · exact .inr (by rw [upd_ne (ne_of h hd (by intro z; cases z))]; exact h)
    refine for_it walk_items (fun i σ H' => ∃ v3 v4, σ = [some (.ref d), some (.str (S bs)), some (.ref pl), v3, v4] ∧ Same (upd H d (.frz od (.dK (fkv es)))) H') ⟨none, none, rfl, fun _ _ e => e⟩ (fun i σ H' _ ⟨_, _, _, s⟩ => s _ _ upd_same) ?_ ?_
    · rintro i x σ H2 H3 hi ⟨v3, v4, rfl, s2⟩ ⟨T, x1, x2, rfl, nT, rfl, hx1, hx2⟩
      have hx1 : ((fkv es)[i]?.map fun kv => kV kv.1) = some x1 := hx1
      have hx2 : (fkv es)[i]?.map Prod.snd = some x2 := hx2
      obtain ⟨c, hc⟩ : ∃ c, es[i]? = some c := by
        cases z : es[i]? with
        | some c => exact ⟨c, rfl⟩
        | none =>
          unfold fkv at hx1
          rw [List.getElem?_map, z] at hx1
          cases hx1
      have e1 : x1 = .str (S c.1) := by
        unfold fkv at hx1
        rw [List.getElem?_map, hc] at hx1
        exact (Option.some.inj hx1).symm
      have e2 : x2 = .str (S c.2) := by
        unfold fkv at hx2
        rw [List.getElem?_map, hc] at hx2
        exact (Option.some.inj hx2).symm
      subst e1 e2
      have hco := hok c (List.mem_of_getElem? hc)
      have s3 : Same (upd H d (.frz od (.dK (fkv es)))) (upd H2 T (.tup [.str (S c.1), .str (S c.2)])) := s2.trans (same_upd nT)
      refine ⟨T, [.str (S c.1), .str (S c.2)], rfl, SqT.of upd_same, rfl, _, _, rfl, _, _, rfl, rfl, ?_⟩
      refine ⟨_, rfl, _, rfl, .inl ⟨c.1, pl, places, rfl, hpl1.same s3, _, rfl, ?_⟩⟩
      rw [decide_eq_true hco.1]
      refine iteF ⟨_, rfl, _, rfl, .inl ⟨c.2, bs, rfl, hco.2.2, hlow, fun H4 s4 => ⟨_, rfl, ?_⟩⟩⟩
      rw [hco.2.1]
      exact iteF ⟨_, _, rfl, s3.trans s4⟩
    · rintro σ H2 ⟨v3, v4, rfl, s2⟩
      exact ⟨s2 _ _ upd_same, q _ (same_unlock hd s2)⟩
end
end Tb

set_option Elab.async false
set_option linter.all false
set_option maxRecDepth 100000
set_option maxHeartbeats 4000000
/-! y = {k: v for ..}, y a local of a def -/
namespace Tb
open PySem PySem.Spec PyProof.Rows L2 TL
theorem sw_trueD {kx vx : Expr} {gs : List Comprehension} {scope : Scope} {pos py : Pos} {y : Str} {l : Nat} {env : Env} (hk : env.scope.kind = .function) (hy : env.scope.names.lookup y = some .local) (hl : (py.line == pos.line) = true)
    (ha : (scope.names.any fun (n, k) => n == y && (k == .local || k == .cell)) = false) : swapsWith (.DictComp kx vx gs scope pos) (some (.Name y py)) l env = pure true := by
  have kdy : env.kindOf y = some .local := hy
  have kdb : env.blockKind = .function := by
    unfold Env.blockKind
    rw [hk]
    rfl
  unfold swapsWith
  simp only [kdb, kdy, ha, Expr.pos, hl]
  rfl
section
variable {X : Cx}
theorem ps_setDc {i : Nat} {y : Str} {py : Pos} {kx vx tg iter : Expr} {ifs : List Expr} {scope : Scope} {own : List (Str × Nat)} {pos spos : Pos} {wi : TI} {g : TG} {tt : TT} {tk tv : TE} (hc : X.calm = true) (hN : X.N.Nodup) (hy : X.N[i]? = some y) (hyl : X.env.scope.names.lookup y = some .local)
    (hsw : swapsWith (.DictComp kx vx [⟨tg, iter, ifs, 0⟩] scope pos) (some (.Name y py)) spos.line X.env = pure true) (hi : PI X tg iter wi) (ok : BlkOk X.N X.env.scope scope own)
    (hg : ∀ (s : Shared) (H : Hp) (C : Addr) (cl : List (Str × Addr)) (fp : List Addr), PG (X.blk s H scope (compEnvC scope cl C X.env) fp) tg g) (ht : ∀ (s : Shared) (H : Hp) (C : Addr) (cl : List (Str × Addr)) (fp : List Addr), PTs (X.blk s H scope (compEnvC scope cl C X.env) fp) ifs tt)
    (hk : ∀ (s : Shared) (H : Hp) (C : Addr) (cl : List (Str × Addr)) (fp : List Addr), PE (X.blk s H scope (compEnvC scope cl C X.env) fp) kx tk)
    (he : ∀ (s : Shared) (H : Hp) (C : Addr) (cl : List (Str × Addr)) (fp : List Addr), PE (X.blk s H scope (compEnvC scope cl C X.env) fp) vx tv) (hs : ∀ x, foldedSetIterable iter X.env x = pure x := by intro _; rfl) :
    PS X (.Assign [.Name y py] (.DictComp kx vx [⟨tg, iter, ifs, 0⟩] scope pos) spos) (tAsg (tDc wi g tt tk tv (own.map (·.2))) (gName i)) := by
  refine ⟨fun pins s σ H D I h => ?_⟩
  rw [exec_Assign_Name_used _ _ _ _ hsw]
  refine wpAny_bind (wpAny_standAt (wpAny_bind ?_))
  have h : tDc wi g tt tk tv (own.map (·.2)) σ H (fun x H1 => gName i x σ H1 D.nx) := h
  show wpAny _ X.A (do let _ ← comprehension (.DictComp kx vx [⟨tg, iter, ifs, 0⟩] scope pos) scope X.env (firstIterPos [⟨tg, iter, ifs, 0⟩] pos) newDict false (eval iter X.env) (some (assign (.Name y py) X.env))) _ _ s
  refine wpAny_bind (thn (dc_core (Qf := fun _ s' => SP X pins D .next s') hc hN I hi ok hg ht hk he hs h fun L C s' m H' J q hn fo => ?_) fun _ s' hq => wpAny_pure (wpAny_pure hq))
  show wpAny _ _ (assign (.Name y py) X.env (.ref L)) _ _ _
  refine wpAny_assign_Name (store_ok2 (v := V.ref L) J hN hy (.inl hyl) rfl (fun s2 J2 ⟨a, sb, ha⟩ => ?_) (.inr hyl))
  obtain ⟨g0, g1, g2, g3, g4, g5⟩ := fo
  have neCa : C ≠ a := by
    rcases ha with z | z
    · rw [z]
      exact g1
    · exact fun e => g4 y a z e.symm
  refine ⟨m, hn.sameBut sb neCa, fun h3 sb3 => ⟨_, H', J2.turned (t' := s2.toks) (fun b o hb e => (sb3.2 b hb).trans e) g0 g1 g3 g4 g5, q⟩⟩
end
end Tb

set_option Elab.async false
set_option linter.all false
set_option maxRecDepth 100000
set_option maxHeartbeats 4000000
namespace Tb
open PySem PySem.Spec PyProof.Rows L2 TL
/-! ### dict comprehensions over anything that is walked -/
section
variable {tk tv : TE} {tt : TT} {g : TG} {vs : List Nat} {σ : L2.St} {H1 : Hp} {D : Addr} {Qd : Hp → Prop} {sl : Nat} {J : It} {n : Nat} {G : Hp → Prop} {Y : Nat → Hp → V → Hp → Prop}
theorem dc_it (w : Walk J n G Y) (Pv : Nat → Hp → Prop) (h0 : Pv 0 (upd H1 D (.dK []))) (hG : ∀ i H, i ≤ n → Pv i H → G H)
    (hs : ∀ i x H H', i < n → Pv i H → Y i H x H' → g x (wipe σ vs) H' fun σ2 H2 => wipe σ2 vs = wipe σ vs ∧ tt σ2 H2 fun b H3 =>
      if b = true then tk σ2 H3 fun y H4 => tv σ2 H4 fun z H5 => ∃ kvs k, y = kV k ∧ H5 D = some (.dK kvs) ∧ kvs.length < sizeLine ∧ Pv (i + 1) (upd H5 D (.dK (putK kvs k z))) else Pv (i + 1) H3) (hd : ∀ H, Pv n H → Qd H) :
    ∃ W : Nat → Nat → Hp → Prop, (∃ m, W 0 m (upd H1 D (.dK []))) ∧ ∀ i m H, W i m H →
      (J.stop i H ∧ Qd H) ∨ (J.go i H ∧ ∃ Nx : Hp → Prop, (∀ H', Nx H' → ∃ m', m' < m ∧ W (i + 1) m' H') ∧ ∀ x H', J.yld i H x H' → g x (wipe σ vs) H' fun σ2 H2 => wipe σ2 vs = wipe σ vs ∧ tt σ2 H2 fun b H3 =>
        if b = true then tk σ2 H3 fun y H4 => tv σ2 H4 fun z H5 => ∃ kvs k, y = kV k ∧ H5 D = some (.dK kvs) ∧ kvs.length < sizeLine ∧ Nx (upd H5 D (.dK (putK kvs k z))) else Nx H3) := by
  refine ⟨fun i m H => m = n - i ∧ i ≤ n ∧ Pv i H, ⟨n, rfl, Nat.zero_le _, h0⟩, fun i m H ⟨em, hi, p⟩ => ?_⟩
  subst em
  rcases Nat.lt_or_ge i n with hlt | hge
  · refine .inr ⟨w.goes i H hlt (hG i H hi p), Pv (i + 1), fun H' p' => ⟨n - (i + 1), by omega, rfl, hlt, p'⟩, fun x H' y => ?_⟩
    exact hs i x H H' hlt p (w.yields i H x H' hlt (hG i H hi p) y)
  · obtain rfl : i = n := Nat.le_antisymm hi hge
    exact .inl ⟨w.stops H (hG i H hi p), hd H p⟩
theorem dc_mapW {xs : List V} (keep : V → Bool) (kf : V → Key) (vf : V → V) (w : Walk J n G Y) (hn : n = xs.length) (hY : ∀ i H x H', Y i H x H' → H' = H ∧ xs[i]? = some x) (hG : ∀ H', Same H1 H' → G H') (nD : H1 D = none) (hl : xs.length < sizeLine) (nd : ((xs.filter keep).map kf).Nodup)
    (ht : ∀ x ∈ xs, ∀ H' (R : Bool → Hp → Prop), Same H1 H' → R (keep x) H' → tt ((wipe σ vs).set sl (some x)) H' R)
    (hk : ∀ x ∈ xs, keep x = true → ∀ H' (R : VK), Same H1 H' → R (kV (kf x)) H' → tk ((wipe σ vs).set sl (some x)) H' R)
    (he : ∀ x ∈ xs, keep x = true → ∀ H' (R : VK), Same H1 H' → (∀ H'', Same H' H'' → R (vf x) H'') → tv ((wipe σ vs).set sl (some x)) H' R)
    (hd : ∀ H', Same H1 H' → H' D = some (.dK ((xs.filter keep).map fun x => (kf x, vf x))) → Qd H') (hw : ∀ x, wipe ((wipe σ vs).set sl (some x)) vs = wipe σ vs := by intro _; rfl) :
    ∃ W : Nat → Nat → Hp → Prop, (∃ m, W 0 m (upd H1 D (.dK []))) ∧ ∀ i m H, W i m H →
      (J.stop i H ∧ Qd H) ∨ (J.go i H ∧ ∃ Nx : Hp → Prop, (∀ H', Nx H' → ∃ m', m' < m ∧ W (i + 1) m' H') ∧ ∀ x H', J.yld i H x H' → gName sl x (wipe σ vs) H' fun σ2 H2 => wipe σ2 vs = wipe σ vs ∧ tt σ2 H2 fun b H3 =>
        if b = true then tk σ2 H3 fun y H4 => tv σ2 H4 fun z H5 => ∃ kvs k, y = kV k ∧ H5 D = some (.dK kvs) ∧ kvs.length < sizeLine ∧ Nx (upd H5 D (.dK (putK kvs k z))) else Nx H3) := by
  refine dc_it w (fun i H => Same H1 H ∧ H D = some (.dK (((xs.take i).filter keep).map fun x => (kf x, vf x)))) ⟨same_upd nD, upd_same⟩ (fun i H _ h => hG H h.1) ?_ ?_
  · rintro i x H H' hi ⟨s, e⟩ y
    obtain ⟨rfl, hx⟩ := hY _ _ _ _ y
    have hm := List.mem_of_getElem? hx
    have et : xs.take (i + 1) = xs.take i ++ [x] := by
      rw [List.take_add_one, hx]
      rfl
    refine ⟨hw _, tif (k := keep x) (fun R r => ht x hm _ R s r) (fun hkx => hk x hm hkx _ _ s (he x hm hkx _ _ s fun H2 s2 => ?_)) (fun hkx => ⟨s, ?_⟩)⟩
    · have e1 : [x].filter keep = [x] := by simp [List.filter_cons, hkx]
      refine ⟨_, kf x, rfl, s2 _ _ e, ?_, fun b o eb => ?_, ?_⟩
      · rw [List.length_map]
        refine Nat.lt_of_le_of_lt (List.length_filter_le _ _) ?_
        rw [List.length_take]
        exact Nat.lt_of_le_of_lt (Nat.min_le_right _ _) hl
      · rw [upd_ne (ne_of_none eb nD)]
        exact s2 _ _ (s _ _ eb)
      · rw [upd_same, putK_end, et, List.filter_append, e1, List.map_append]
        · rfl
        · intro z
          rw [List.map_map] at z
          have h1 : ((xs.take (i + 1)).filter keep).map kf |>.Nodup := by
            refine List.Sublist.nodup ?_ nd
            exact ((List.take_sublist _ _).filter _).map _
          rw [et, List.filter_append, e1, List.map_append, List.nodup_append] at h1
          exact h1.2.2 _ z _ (List.mem_singleton.mpr rfl) rfl
    · have e1 : [x].filter keep = [] := by simp [List.filter_cons, hkx]
      rw [et, List.filter_append, e1, List.append_nil]
      exact e
  · rintro H ⟨s, e⟩
    subst hn
    rw [List.take_length] at e
    exact hd H s e
end
/-- one target, two kinds of values -/
def gOr (g1 g2 : TG) : TG := fun v σ H Q => g1 v σ H Q ∨ g2 v σ H Q
theorem pg_or {X : Cx} {e : Expr} {g1 g2 : TG} (h1 : PG X e g1) (h2 : PG X e g2) : PG X e (gOr g1 g2) := ⟨fun pins s σ H v u Q I r h => h.elim (fun h => h1.run pins s σ H v u Q I r h) fun h => h2.run pins s σ H v u Q I r h⟩
/-! ### what is kept of the fillings -/
def keptF (fl : Fil) : Fil := ((sortN (fl.map fun q => q.1.headD 0)).map fun b => ([b], (getF fl [b]).getD [])).filter fun q => decide (q.2 ≠ [])
def keptM (m : Mv) : Mv := { m with fl := keptF m.fl }
theorem keptM_key (m : Mv) : (keptM m).key = m.key := rfl
/-- all keys are one sign each -/
def Ones (fl : Fil) : Prop := ∀ q ∈ fl, ∃ b, q.1 = [b]
theorem heads_keys {fl : Fil} (h : Ones fl) : fl.map (·.1) = (fl.map fun q => q.1.headD 0).map fun b => [b] := by
  rw [List.map_map]
  refine List.map_congr_left fun q hq => ?_
  obtain ⟨b, e⟩ := h q hq
  have h1 : q.1 = [q.1.headD 0] := by
    rw [e]
    rfl
  exact h1
theorem FilQ.ones {bs : List Nat} {fl : Fil} (h : FilQ bs fl) : Ones fl := by
  intro q hq
  have hk : okKeys fl bs = true := by
    have := h.ok
    unfold okFils at this
    exact (Bool.and_eq_true _ _ ▸ this).1
  have := of_decide_eq_true (List.all_eq_true.mp hk q.1 (List.mem_map.mpr ⟨q, hq, rfl⟩))
  obtain ⟨b, _, e⟩ := List.mem_map.mp this
  exact ⟨b, e.symm⟩
/-- a move that is kept: a tuple, its dict new -/
def MvNew (H0 H : Hp) (kv : List Key × V) (m : Mv) : Prop := kv.1 = m.key ∧ ∃ t d, kv.2 = .ref t ∧ H t = some (.tup [.str (S m.to), .ref d]) ∧ H d = some (.dK (fkv m.fl)) ∧ H0 d = none
theorem MvNew.at {H0 H : Hp} {kv : List Key × V} {m : Mv} (h : MvNew H0 H kv m) : MvAt H kv m := by
  obtain ⟨e, t, d, a, b, c, _⟩ := h
  exact ⟨e, t, d, a, b, c⟩
theorem MvNew.but {H0 H H' : Hp} {p : Addr} {kvs : List (List Key × V)} (hp : H p = some (.dT kvs)) (s : But p H H') {kv : List Key × V} {m : Mv} (h : MvNew H0 H kv m) : MvNew H0 H' kv m := by
  obtain ⟨e, t, d, a, b, c, n⟩ := h
  exact ⟨e, t, d, a, s _ _ b (ne_of b hp (by intro z; cases z)), s _ _ c (ne_of c hp (by intro z; cases z)), n⟩
theorem get_kept {fl : Fil} (h : Ones fl) {b : Nat} (hb : b ∈ fl.map fun q => q.1.headD 0) : ∃ f, getF fl [b] = some f := by
  have hm : [b] ∈ fl.map (·.1) := by
    rw [heads_keys h]
    exact List.mem_map.mpr ⟨b, hb, rfl⟩
  obtain ⟨f, e, _⟩ := getF_some hm
  exact ⟨f, e⟩
def keepV (fl : Fil) : V → Bool := fun v => match v with | .str x => decide ((getF fl (tl x)).getD [] ≠ []) | _ => false
def keyV : V → Key := fun v => match v with | .str x => Sum.inr x | _ => Sum.inl 0
def fillV (fl : Fil) : V → V := fun v => match v with | .str x => .str (S ((getF fl (tl x)).getD [])) | _ => .non
theorem kept_eq (fl : Fil) : ((sgs (sortN (fl.map fun q => q.1.headD 0))).filter (keepV fl)).map (fun x => (keyV x, fillV fl x)) = fkv (keptF fl) := by
  unfold sgs fkv keptF
  generalize sortN (fl.map fun q => q.1.headD 0) = l
  induction l with
  | nil => rfl
  | cons b l ih =>
    have e1 : keepV fl (.str (S [b])) = decide ((getF fl [b]).getD [] ≠ []) := rfl
    rw [List.map_cons, List.map_cons, List.filter_cons, List.filter_cons, e1]
    by_cases z : (getF fl [b]).getD [] ≠ []
    · rw [decide_eq_true z, if_pos rfl, if_pos rfl, List.map_cons, List.map_cons, ih]
      rfl
    · rw [decide_eq_false z, if_neg Bool.false_ne_true, if_neg Bool.false_ne_true, ih]
theorem kept_nd {fl : Fil} (nd : (fl.map (·.1)).Nodup) (h : Ones fl) : (((sgs (sortN (fl.map fun q => q.1.headD 0))).filter (keepV fl)).map keyV).Nodup := by
  have h1 : (fl.map fun q => q.1.headD 0).Nodup := by
    rw [heads_keys h, List.nodup_iff_pairwise_ne] at nd
    rw [List.nodup_iff_pairwise_ne]
    exact (List.pairwise_map.mp nd).imp fun h e => h (by rw [e])
  have h2 : (sortN (fl.map fun q => q.1.headD 0)).Nodup := (sortN_perm _).nodup_iff.mpr h1
  have h3 : ((sgs (sortN (fl.map fun q => q.1.headD 0))).map keyV).Nodup := by
    unfold sgs
    rw [List.map_map]
    refine List.Pairwise.map _ (fun a b hab z => hab ?_) h2
    have := key_S.mp z
    injection this
  exact List.Sublist.nodup (List.filter_sublist.map _) h3
theorem dec_strne (a b : List Nat) : (!decide (V.str (S a) = V.str (S b))) = decide (a ≠ b) := by
  by_cases h : a = b
  · simp [h]
  · have h2 : V.str (S a) ≠ V.str (S b) := fun z => h (by injection z with z; exact S_inj z)
    simp [h, h2]
section
variable {P : Program} {w : World} {K : PySem.W.Frag} {mg : Str → Option Value} {base : Heap}
abbrev nKept : List Str := ["moves", "kept", "place", "letter", "target", "fillings", "ascending", "box"]
theorem scKept : FnScope nKept ["moves"] (defScope sKept) := ⟨rfl, rfl, rfl, by decide +kernel, rfl, by decide +kernel, by decide +kernel⟩
def spKept : Sp := fun vs H Q _ => ∃ (d : Addr) (kvs : List (List Key × V)) (ms : List Mv), vs = [.ref d] ∧ H d = some (.dT kvs) ∧ Paired (MvIn H) kvs ms ∧ ms.length ≤ 1000 ∧ (ms.map fun m => (m.pl, m.lt)).Nodup ∧ (∀ m ∈ ms, (m.fl.map (·.1)).Nodup ∧ Ones m.fl ∧ m.fl.length < 64) ∧
  ∀ p H' kk, Same H H' → H p = none → H' p = some (.dT kk) → Paired (MvNew H H') kk (ms.map keptM) → Q (.ref p) H'
theorem ok_kept {f : Addr} {fd : FuncData} {k : Nat} (F : Fun K "_kept_moves" "_kept_moves" sKept f fd) (ms' : mg "sorted" = none) : FnOk P w K mg base CX0 (k + 1) f fd ["moves"] spKept := by
  refine F.ok scKept (fun vs H Q E h => ?_) (fun cdv A outer s H vs Q E hr h => ?_)
  · obtain ⟨d, kvs, ms, rfl, _⟩ := h
    rfl
  · obtain ⟨d, kvs, ms, rfl, hd, hms, hl, hnd, hok, q⟩ := h
    have hu := hu_of hr
    refine ⟨_, pss_cons (ps_set (i := 1) scKept.nd rfl (.inl rfl) pe_newT)
      (pss_cons (ps_lock (ps_for PassesOwn.never rfl (pi_itemsT (pv 0)) (pg_tup rfl (pgs_cons (pg_tup rfl (pgs_cons (pg_name (i := 2) scKept.nd rfl (.inl rfl)) (pgs_cons (pg_name (i := 3) scKept.nd rfl (.inl rfl)) pgs_nil))) (pgs_cons (pg_or (pg_unl rfl (pgs_cons (pg_name (i := 4) scKept.nd rfl (.inl rfl)) (pgs_cons (pg_name (i := 5) scKept.nd rfl (.inr rfl)) pgs_nil))) (pg_tup rfl (pgs_cons (pg_name (i := 4) scKept.nd rfl (.inl rfl)) (pgs_cons (pg_name (i := 5) scKept.nd rfl (.inr rfl)) pgs_nil)))) pgs_nil)))
        (pss_cons (ps_setDc (i := 6) (own := [("box", 7)]) (g := gName 7) (tt := tTest (tOp rNe (tDGet (tVar 5) (tVar 7)) (tC (.str "")))) (tk := tVar 7) (tv := tDGet (tVar 5) (tVar 7)) rfl scKept.nd rfl rfl (sw_trueD rfl rfl rfl (by decide +kernel))
            (pi_list (pe_callB (call_sortedD rfl) (by rfl) ms' (by decide +kernel) (pa_cons (pv 5) pa_nil))) (blkOk_by (own := [("box", 7)]) (N := nKept) (sc := defScope sKept) (by decide +kernel)) (fun _ _ _ _ _ => pg_name (i := 7) scKept.nd rfl (.inl rfl)) (fun _ _ _ _ _ => pts_one (pt_cmpR op_ne (pe_dget hu (pv 5) (pv 7) (fun _ _ => rfl)) pe_str (nomark _))) (fun _ _ _ _ _ => pv 7) (fun _ _ _ _ _ => pe_dget hu (pv 5) (pv 7) (fun _ _ => rfl)))
        (pss_one (ps_dput hu (pv 1) (pe_tupS (pa_cons (pv 2) (pa_cons (pv 3) pa_nil))) (pe_tupS (pa_cons (pv 4) (pa_cons (pv 6) pa_nil))) rfl)))))
      (pss_one (ps_ret (pv 1)))), ?_⟩
    intro p H1 s1 n1 e1
    have hd1 := s1 _ _ hd
    have npd : p ≠ d := fun z => by rw [z] at n1; rw [n1] at hd; cases hd
    refine ⟨d, _, hd1, trivial, fun od => ⟨_, rfl, d, od, kvs, rfl, upd_same, ?_⟩⟩
    have hms1 : Paired (MvIn (upd H1 d (.frz od (.dT kvs)))) kvs ms := Paired.mono (fun kv m h => (h.same s1).lock hd1) hms
    have hlen : kvs.length = ms.length := Paired.length hms
    have sl : ∀ {x : Addr}, (upd H1 d (.frz od (.dT kvs))) x = none → H x = none := fun {x} h => by
      by_cases e : x = d
      · rw [e, upd_same] at h
        cases h
      · rw [upd_ne e] at h
        exact s1.free h
    refine for_it walk_itemsT (fun i σ H' => ∃ v2 v3 v4 v5 v6 kk, σ = [some (.ref d), some (.ref p), v2, v3, v4, v5, v6, none] ∧ But p (upd H1 d (.frz od (.dT kvs))) H' ∧ H' p = some (.dT kk) ∧ Paired (MvNew H H') kk ((ms.take i).map keptM))
      ⟨none, none, none, none, none, [], rfl, But.refl _ _, by rw [upd_ne npd]; exact e1, .nil⟩ (fun i σ H' _ ⟨_, _, _, _, _, _, _, b, _⟩ => b _ _ upd_same npd.symm) ?_ ?_
    · rintro i x σ H2 H3 hi ⟨v2, v3, v4, v5, v6, kk, rfl, b2, e2, hk2⟩ ⟨T, kx, v, kq, hkv, hq, rfl, nT, rfl⟩
      obtain ⟨m, hm, hin⟩ := paired_get2 hms1 hkv
      obtain ⟨ek, t, fd', ev, ht, hfd⟩ := hin
      have ek' : kx = m.key := ek
      have ev' : v = .ref t := ev
      subst ek' ev'
      obtain ⟨mnd, mon, m64⟩ := hok m (List.mem_of_getElem? hm)
      have nTp : T ≠ p := fun z => by rw [z, e2] at nT; cases nT
      have b3 : But p (upd H1 d (.frz od (.dT kvs))) (upd H2 T (.tup [.ref kq, .ref t])) := b2.trans (Same.but (same_upd nT) p)
      have hq3 : (upd H2 T (.tup [.ref kq, .ref t])) kq = some (.tup [.str (S m.pl), .str (S [m.lt])]) := same_upd nT _ _ hq
      have e3 : (upd H2 T (.tup [.ref kq, .ref t])) p = some (.dT kk) := by rw [upd_ne nTp.symm]; exact e2
      have hk3 : Paired (MvNew H (upd H2 T (.tup [.ref kq, .ref t]))) kk ((ms.take i).map keptM) := Paired.mono (fun _ _ h => h.but e2 (Same.but (same_upd nT) p)) hk2
      have ntp : t ≠ p := fun z => by
        have h1 := (ht : SeqH _ t _)
        rw [z] at h1
        have h2 : (upd H1 d (.frz od (.dT kvs))) p = some (.dT []) := by rw [upd_ne npd]; exact e1
        rcases h1 with h1 | h1 <;> (rw [h2] at h1; cases h1)
      have nfp : fd' ≠ p := fun z => by
        have h2 : (upd H1 d (.frz od (.dT kvs))) p = some (.dT []) := by rw [upd_ne npd]; exact e1
        rw [z, h2] at hfd
        cases hfd
      have ht3 : SeqH (upd H2 T (.tup [.ref kq, .ref t])) t [.str (S m.to), .ref fd'] := ht.imp (fun h => b3 _ _ h ntp) fun h => b3 _ _ h ntp
      refine ⟨T, [.ref kq, .ref t], rfl, SqT.of upd_same, rfl, _, _, rfl, ⟨kq, _, rfl, SqT.of hq3, rfl, _, _, rfl, _, _, rfl, rfl, _, _, rfl, ?_⟩⟩
      generalize upd H2 T (.tup [.ref kq, .ref t]) = H3 at b3 hq3 e3 hk3 ht3
      have hfd3 : H3 fd' = some (.dK (fkv m.fl)) := b3 _ _ hfd nfp
      have hget : ∀ b ∈ m.fl.map fun q => q.1.headD 0, ∃ f, getF m.fl [b] = some f ∧ valV (fkv m.fl) (Sum.inr (S [b])) = some (.str (S f)) := fun b hb => by
        obtain ⟨f, e⟩ := get_kept mon hb
        exact ⟨f, e, by rw [val_fkv, e]; rfl⟩
      have hks : (fkv m.fl).map (·.1) = ((m.fl.map fun q => q.1.headD 0).map fun b => S [b]).map Sum.inr := by
        have h1 : (fkv m.fl).map (·.1) = (m.fl.map (·.1)).map fun c => (Sum.inr (S c) : Key) := by
          unfold fkv
          rw [List.map_map, List.map_map]
          rfl
        rw [h1, heads_keys mon]
        simp only [List.map_map]
        rfl
      rcases ht3 with h | h
      all_goals
        first
          | refine .inl ⟨t, _, rfl, SqL.of h, rfl, _, _, rfl, _, _, rfl, rfl, rfl, ?_⟩
          | refine .inr ⟨t, _, rfl, SqT.of h, rfl, _, _, rfl, _, _, rfl, rfl, rfl, ?_⟩
        refine ⟨_, rfl, fd', fkv m.fl, (m.fl.map fun q => q.1.headD 0).map fun b => S [b], rfl, .inl hfd3, hks, by rw [List.length_map, List.length_map]; exact m64, fun ys a hp hs na => ?_⟩
        have ey := sorted_signs hp hs
        subst ey
        have ea : ((sortN (m.fl.map fun q => q.1.headD 0)).map fun c => S [c]).map V.str = sgs (sortN (m.fl.map fun q => q.1.headD 0)) := by
          unfold sgs
          rw [List.map_map]
          rfl
        rw [ea]
        have s34 := same_upd (o := .lst (sgs (sortN (m.fl.map fun q => q.1.headD 0)))) na
        have lsg : (sgs (sortN (m.fl.map fun q => q.1.headD 0))).length < 64 := by
          unfold sgs
          rw [List.length_map, (sortN_perm _).length_eq, List.length_map]
          exact m64
        have hea : (upd H3 a (.lst (sgs (sortN (m.fl.map fun q => q.1.headD 0))))) a = some (.lst (sgs (sortN (m.fl.map fun q => q.1.headD 0)))) := upd_same
        generalize upd H3 a (.lst (sgs (sortN (m.fl.map fun q => q.1.headD 0)))) = H4 at s34 hea
        refine ⟨a, rfl, ⟨_, SqL.of hea⟩, fun D nD => ?_⟩
        refine dc_mapW (xs := sgs (sortN (m.fl.map fun q => q.1.headD 0))) (keepV m.fl) keyV (fillV m.fl) walk_list rfl (fun i H x H' y => ⟨y.1, y.2⟩) (fun H' s' => SqL.of (s' _ _ hea)) nD (Nat.lt_of_lt_of_le lsg (by decide)) (kept_nd mnd mon) ?_ ?_ ?_ ?_
        · intro x hx H5 R s5 r
          obtain ⟨b, hb, rfl⟩ := List.mem_map.mp hx
          obtain ⟨f, g1, g2⟩ := hget b ((sortN_perm _).mem_iff.mp hb)
          refine ⟨_, rfl, _, rfl, fd', _, rfl, g2 ▸ DGet.k (k := Sum.inr (S [b])) (s5 _ _ (s34 _ _ hfd3)), rfl, _, rfl, ?_⟩
          rw [str_empty, dec_strne]
          have e5 : keepV m.fl (.str (S [b])) = decide (f ≠ []) := by
            show decide ((getF m.fl [b]).getD [] ≠ []) = _
            rw [g1]
            rfl
          rw [e5] at r
          exact r
        · intro x hx _ H5 R s5 r
          obtain ⟨b, hb, rfl⟩ := List.mem_map.mp hx
          exact ⟨_, rfl, r⟩
        · intro x hx _ H5 R s5 r
          obtain ⟨b, hb, rfl⟩ := List.mem_map.mp hx
          obtain ⟨f, g1, g2⟩ := hget b ((sortN_perm _).mem_iff.mp hb)
          refine ⟨_, rfl, _, rfl, fd', _, rfl, g2 ▸ DGet.k (k := Sum.inr (S [b])) (s5 _ _ (s34 _ _ hfd3)), ?_⟩
          have r' := r H5 (fun _ _ e => e)
          have e5 : fillV m.fl (.str (S [b])) = .str (S f) := by
            show V.str (S ((getF m.fl [b]).getD [])) = _
            rw [g1]
            rfl
          rw [e5] at r'
          exact r'
        intro H5 s5 e5
        rw [kept_eq] at e5
        -- kept[(place, letter)] = (target, ascending)
        refine ⟨_, rfl, _, rfl, by show 2 ≤ sizeLine; decide, fun W H6 s6 n6 e6 => ⟨_, rfl, _, rfl, _, rfl, by show 2 ≤ sizeLine; decide, fun kT H7 s7 n7 e7 => ?_⟩⟩
        have s37 : Same H3 H7 := ((s34.trans s5).trans s6).trans s7
        have eD7 : H7 D = some (.dK (fkv (keptF m.fl))) := s7 _ _ (s6 _ _ e5)
        have nHD : H D = none := sl (b3.free e3 (s34.free nD))
        have hkeys : kk.map (·.1) = ((ms.take i).map keptM).map Mv.key := by
          have hK : ∀ {kvs : List (List Key × V)} {l : List Mv}, Paired (MvNew H H3) kvs l → kvs.map (·.1) = l.map Mv.key := by
            intro kvs l hp
            induction hp with
            | nil => rfl
            | cons h _ ih => rw [List.map_cons, List.map_cons, h.1, ih]
          exact hK hk3
        have et : ms.take (i + 1) = ms.take i ++ [m] := by
          rw [List.take_add_one, hm]
          rfl
        have hkn : m.key ∉ kk.map (·.1) := fun z => by
          rw [hkeys, List.map_map] at z
          obtain ⟨m', hm', e'⟩ := List.mem_map.mp z
          obtain ⟨k1, k2⟩ := key_inj (m := m') (show m'.key = _ from e')
          have h1 : ((ms.take (i + 1)).map fun m => (m.pl, m.lt)).Nodup := ((List.take_sublist _ _).map _).nodup hnd
          rw [et, List.map_append, List.nodup_append] at h1
          exact h1.2.2 _ (List.mem_map.mpr ⟨m', hm', rfl⟩) _ (List.mem_singleton.mpr rfl) (by rw [k1, k2])
        have lkk : kk.length < sizeLine := by
          have h3 := Paired.length hk3
          rw [h3, List.length_map, List.length_take]
          exact small1000 (Nat.le_trans (Nat.min_le_right _ _) hl)
        have e37 : H7 p = some (.dT kk) := s37 _ _ e3
        refine ⟨p, _, rfl, DPut.t (k := m.key) e37 e7 lkk, ?_⟩
        refine ⟨_, _, _, _, _, _, rfl, (b3.trans (Same.but s37 p)).trans (But.upd p H7 _), upd_same, ?_⟩
        rw [putK_end _ hkn, et, List.map_append]
        have nWp : W ≠ p := fun z => by rw [z, s5 _ _ (s34 _ _ e3)] at n6; cases n6
        have nDp : D ≠ p := fun z => by rw [z, e37] at eD7; cases eD7
        refine (Paired.mono (fun _ _ h => h.but e3 ((Same.but s37 p).trans (But.upd p H7 _))) hk3).snoc ⟨rfl, W, D, rfl, ?_, ?_, nHD⟩
        · rw [upd_ne nWp]
          exact s7 _ _ e6
        · rw [upd_ne nDp]
          exact eD7
    · rintro σ H2 ⟨v2, v3, v4, v5, v6, kk, rfl, b2, e2, hk2⟩
      rw [hlen, List.take_length] at hk2
      refine ⟨b2 _ _ upd_same npd.symm, _, rfl, ?_⟩
      have s2 : Same H (upd H2 d (.dT kvs)) := by
        intro b o eb
        by_cases hb : b = d
        · rw [hb, hd] at eb
          cases eb
          rw [hb, upd_same]
        · rw [upd_ne hb]
          refine b2 b o ?_ (fun z => by rw [z, n1] at eb; cases eb)
          rw [upd_ne hb]
          exact s1 _ _ eb
      refine q p _ kk s2 n1 (by rw [upd_ne npd]; exact e2) (Paired.mono (fun _ _ h => ?_) hk2)
      obtain ⟨e, t, d2, a, b, c, n⟩ := h
      have f2 : H2 d = some (.frz od (.dT kvs)) := b2 _ _ upd_same npd.symm
      exact ⟨e, t, d2, a, by rw [upd_ne (ne_of b f2 (by intro z; cases z))]; exact b, by rw [upd_ne (ne_of c f2 (by intro z; cases z))]; exact c, n⟩
end
end Tb

set_option Elab.async false
set_option linter.all false
set_option maxRecDepth 100000
set_option maxHeartbeats 4000000
namespace Tb
open PySem PySem.Spec PyProof.Rows L2 TL
/-- a statement that is never reached -/
def tDead : TS := fun _ _ _ => False
theorem isCap_low' {c : Nat} (h : 65 ≤ c ∧ c ≤ 90) : isLow c = false := decide_eq_false (by omega)
theorem ps_dead {X : Cx} {st : Stmt} : PS X st tDead := ⟨fun _ _ _ _ _ _ h => h.elim⟩
theorem putF_end {f : Str} {v : V} : ∀ {fs : List (Str × V)}, f ∉ fs.map (·.1) → putF f v fs = fs ++ [(f, v)]
  | [], _ => rfl
  | (g, x) :: r, h => by
    have hg : g ≠ f := fun z => h (by rw [← z]; exact List.mem_cons_self)
    show (if g = f then (g, v) :: r else (g, x) :: putF f v r) = _
    rw [if_neg hg, putF_end (fun z => h (List.mem_cons_of_mem _ z))]
    rfl
/-- tuple(xs), a list or a tuple -/
def rTupS : List V → Hp → VK → Prop := fun xs H Q => ∃ p ys, xs = [V.ref p] ∧ SeqH H p ys ∧ ∀ l H', Same H H' → H' l = some (.tup ys) → Q (.ref l) H'
theorem call_tupS {X : Cx} : CallR X (.type "tuple") rTupS := CallR.weak call_tuple_of fun xs H Q ⟨p, ys, e, h, q⟩ => ⟨p, ys, e, h.elim (fun h => .inl ⟨SqL.of h, fun l hl => q l _ (same_upd hl) upd_same⟩) fun h => .inr ⟨SqT.of h, q p H (fun _ _ e => e) h⟩⟩
theorem dget_kz {H : Hp} {a : Addr} {o : Obj} {kvs : List (Key × V)} {k : Key} (e : H a = some (.frz o (.dK kvs))) : DGet H a (kV k) (valV kvs k) := .inl ⟨kvs, k, .inr ⟨o, e⟩, rfl, rfl⟩
/-! ### a program's fields -/
def flds (L B : List Nat) (pl mv en : Addr) : List (Str × V) := [("_letters", .str (S L)), ("_boxes", .str (S B)), ("_places", .ref pl), ("_moves", .ref mv), ("_ends", .ref en)]
structure PrAt (C : Addr) (H : Hp) (p : Addr) (L B : List Nat) (places : List (List Nat)) (ms : List Mv) (es : Fil) : Prop where
  ob : ∃ dx pl mv en kk, H p = some (.ins C dx (flds L B pl mv en)) ∧ H pl = some (.tup (txs places)) ∧ H mv = some (.dT kk) ∧ Paired (MvAt H) kk ms ∧ H en = some (.dK (fkv es))
theorem PrAt.same {C : Addr} {H H' : Hp} (s : Same H H') {p : Addr} {L B : List Nat} {places : List (List Nat)} {ms : List Mv} {es : Fil} (h : PrAt C H p L B places ms es) : PrAt C H' p L B places ms es := by
  obtain ⟨dx, pl, mv, en, kk, h1, h2, h3, h4, h5⟩ := h.ob
  exact ⟨dx, pl, mv, en, kk, s _ _ h1, s _ _ h2, s _ _ h3, Paired.mono (fun _ _ z => z.same s) h4, s _ _ h5⟩
/-- .. whose dicts were not there before -/
structure PrNew (C : Addr) (H0 H : Hp) (p : Addr) (L B : List Nat) (places : List (List Nat)) (ms : List Mv) (es : Fil) : Prop where
  ob : ∃ dx pl mv en kk, H p = some (.ins C dx (flds L B pl mv en)) ∧ H pl = some (.tup (txs places)) ∧ H mv = some (.dT kk) ∧ H0 mv = none ∧ Paired (MvNew H0 H) kk ms ∧ H en = some (.dK (fkv es)) ∧ H0 en = none
theorem PrNew.at {C : Addr} {H0 H : Hp} {p : Addr} {L B : List Nat} {places : List (List Nat)} {ms : List Mv} {es : Fil} (h : PrNew C H0 H p L B places ms es) : PrAt C H p L B places ms es := by
  obtain ⟨dx, pl, mv, en, kk, h1, h2, h3, _, h4, h5, _⟩ := h.ob
  exact ⟨dx, pl, mv, en, kk, h1, h2, h3, Paired.mono (fun _ _ z => z.at) h4, h5⟩
/-- the class as the top has made it -/
structure PrTxt (K : PySem.W.Frag) (mg : Str → Option Value) (C : Addr) : Prop where
  cl : Cls K C
  nL : NoAttr K C "_letters"
  nB : NoAttr K C "_boxes"
  nP : NoAttr K C "_places"
  nM : NoAttr K C "_moves"
  nE : NoAttr K C "_ends"
  mgC : mg "Program" = some (.ref C)
/-- what is handed in for a program -/
structure InAt (H : Hp) (tp tm te : Addr) (pt : Pt) : Prop where
  pl : SeqH H tp (txs pt.places)
  mv : ∃ kvs, H tm = some (.dT kvs) ∧ Paired (MvIn H) kvs pt.moves
  en : H te = some (.dK (fkv pt.ends))
theorem InAt.same {H H' : Hp} (s : Same H H') {tp tm te : Addr} {pt : Pt} (h : InAt H tp tm te pt) : InAt H' tp tm te pt := by
  obtain ⟨kvs, a, b⟩ := h.mv
  exact ⟨h.pl.same s, ⟨kvs, s _ _ a, Paired.mono (fun _ _ z => z.same s) b⟩, s _ _ h.en⟩
theorem InAt.but {H H' : Hp} {p C dx : Addr} {fs : List (Str × V)} (hp : H p = some (.ins C dx fs)) (s : But p H H') {tp tm te : Addr} {pt : Pt} (h : InAt H tp tm te pt) : InAt H' tp tm te pt := by
  obtain ⟨kvs, a, b⟩ := h.mv
  refine ⟨h.pl.imp (fun z => s _ _ z (ne_of z hp (by intro z; cases z))) fun z => s _ _ z (ne_of z hp (by intro z; cases z)), ⟨kvs, s _ _ a (ne_of a hp (by intro z; cases z)), Paired.mono (fun kv m z => ?_) b⟩, s _ _ h.en (ne_of h.en hp (by intro z; cases z))⟩
  obtain ⟨e, t, d, h1, h2, h3⟩ := z
  exact ⟨e, t, d, h1, h2.imp (fun z => s _ _ z (ne_of z hp (by intro z; cases z))) fun z => s _ _ z (ne_of z hp (by intro z; cases z)), s _ _ h3 (ne_of h3 hp (by intro z; cases z))⟩
theorem PartsQ.few {pt : Pt} (h : PartsQ pt) : pt.letters.length ≤ 5 ∧ 1 ≤ pt.letters.length ∧ pt.boxes.length ≤ 6 ∧ pt.places.length ≤ 50 ∧ 1 ≤ pt.places.length ∧ (∀ x ∈ pt.places, x.length ≤ 8) ∧ pt.moves.length ≤ 250 ∧ pt.ends.length ≤ 50 := by
  have h1 := h.le
  have h2 := h.bo
  have h3 := h.pl
  unfold okLetters at h1
  unfold okBoxes at h2
  unfold okPlaces at h3
  simp only [Bool.and_eq_true, decide_eq_true_eq, List.all_eq_true] at h1 h2 h3
  obtain ⟨_, l1, l2, _⟩ := h1
  obtain ⟨b1, _⟩ := h2
  obtain ⟨⟨p1, p2⟩, p3, _⟩ := h3
  refine ⟨l2, l1, b1, p2, p1, fun x hx => (isName_iff.mp (p3 x hx)).2.1, ?_, ?_⟩
  · have sub : (pt.moves.map fun m => (m.pl, m.lt)) ⊆ pt.places.flatMap fun a => pt.letters.map fun b => (a, b) := by
      intro x hx
      obtain ⟨m', hm', rfl⟩ := List.mem_map.mp hx
      obtain ⟨a1, a2, _⟩ := h.mv m' hm'
      exact List.mem_flatMap.mpr ⟨m'.pl, a1, List.mem_map.mpr ⟨m'.lt, a2, rfl⟩⟩
    have hle := List.Nodup.length_le_of_subset h.ky sub
    rw [List.length_map] at hle
    have hfl : ∀ l : List (List Nat), (l.flatMap fun a => pt.letters.map fun b => (a, b)).length = l.length * pt.letters.length := by
      intro l
      induction l with
      | nil => simp
      | cons a r ih =>
        rw [List.flatMap_cons, List.length_append, List.length_map, ih, List.length_cons, Nat.succ_mul]
        omega
    rw [hfl] at hle
    have : pt.places.length * pt.letters.length ≤ 50 * 5 := Nat.mul_le_mul p2 l2
    omega
  · have sub : (pt.ends.map (·.1)) ⊆ pt.places := fun x hx => by
      obtain ⟨q', hq', rfl⟩ := List.mem_map.mp hx
      exact (h.en q' hq').1
    have hle := List.Nodup.length_le_of_subset h.ek sub
    rw [List.length_map] at hle
    omega
def endV (es : Fil) : V → V := fun v => match v with | .str x => .str (S ((getF es (tl x)).getD [])) | _ => .non
theorem getF_mem {q : List Nat × List Nat} : ∀ {es : Fil}, (es.map (·.1)).Nodup → q ∈ es → getF es q.1 = some q.2
  | [], _, hq => nomatch hq
  | r :: t, nd, hq => by
    rw [getF_cons]
    rw [List.map_cons] at nd
    have nd' := List.nodup_cons.mp nd
    rcases List.mem_cons.mp hq with e | e
    · rw [e, if_pos rfl]
    · rw [if_neg (fun z => nd'.1 (by rw [z]; exact List.mem_map.mpr ⟨q, e, rfl⟩))]
      exact getF_mem nd'.2 e
theorem ends_eq {es : Fil} (nd : (es.map (·.1)).Nodup) : ((txs (es.map (·.1))).filter fun _ => true).map (fun x => (keyV x, endV es x)) = fkv es := by
  rw [List.filter_eq_self.mpr (fun _ _ => rfl)]
  unfold txs fkv
  simp only [List.map_map]
  refine List.map_congr_left fun q hq => ?_
  show (Sum.inr (S q.1), V.str (S ((getF es q.1).getD []))) = _
  rw [getF_mem nd hq]
  rfl
section
variable {P : Program} {w : World} {K : PySem.W.Frag} {mg : Str → Option Value} {base : Heap}
abbrev nInit : List Str := ["self", "letters", "boxes", "places", "moves", "ends", "place"]
theorem scInit : FnScope nInit ["self", "letters", "boxes", "places", "moves", "ends"] (defScope sInit) := ⟨rfl, rfl, rfl, by decide +kernel, rfl, by decide +kernel, by decide +kernel⟩
def spInit (C : Addr) : Sp := fun vs H Q _ => ∃ (p dx tp tm te : Addr) (pt : Pt), vs = [.ref p, .str (S pt.letters), .str (S pt.boxes), .ref tp, .ref tm, .ref te] ∧ H p = some (.ins C dx []) ∧ InAt H tp tm te pt ∧ PartsQ pt ∧
  ∀ H', But p H H' → PrNew C H H' p (sortN pt.letters) (sortN pt.boxes) pt.places (pt.moves.map keptM) pt.ends → Q .non H'
theorem ok_init {f C : Addr} {fd : FuncData} {k : Nat} (F : Fun K "__init__" "Program.__init__" sInit f fd) (T : PrTxt K mg C) (DL : Df P w K mg base (k + 2) "are_letters" ["thing", "most"] (spAreLetters K)) (mN : ∃ t, mg "MOST_LETTERS" = some (.int 5 t)) (DB : Df P w K mg base (k + 2) "_are_boxes" ["thing"] (spAreBoxes K)) (DPl : Df P w K mg base (k + 4) "_are_places" ["thing"] spArePlaces)
    (DM : Df P w K mg base (k + 4) "_are_moves" ["thing", "letters", "boxes", "places"] spAreMoves) (DE : Df P w K mg base (k + 3) "_are_ends" ["thing", "boxes", "places"] spAreEnds) (DI : Df P w K mg base (k + 1) "in_order" ["signs"] spInOrder) (DK : Df P w K mg base (k + 1) "_kept_moves" ["moves"] spKept) (mt : mg "tuple" = none) :
    FnOk P w K mg base CX0 (k + 5) f fd ["self", "letters", "boxes", "places", "moves", "ends"] (spInit C) := by
  refine F.ok scInit (fun vs H Q E h => ?_) (fun cdv A outer s H vs Q E hr h => ?_)
  · obtain ⟨p, dx, tp, tm, te, pt, rfl, _⟩ := h
    rfl
  · obtain ⟨p, dx, tp, tm, te, pt, rfl, hp, hin, hq, q⟩ := h
    have hu := hu_of hr
    obtain ⟨tN, mN⟩ := mN
    have hlow : ∀ b ∈ pt.boxes, isLow b = false := fun b hb => by
      have h1 := hq.bo
      unfold okBoxes at h1
      rw [Bool.and_eq_true, Bool.and_eq_true] at h1
      exact isCap_low' (of_decide_eq_true (List.all_eq_true.mp h1.2.1 b hb))
    obtain ⟨l5, l1, b6, p50, p1, p8, m250, e50⟩ := hq.few
    refine ⟨_, pss_cons (ps_if (pt_not (pt_val (pe_df DL hr (pa_cons (pv 1) (pa_cons (pe_glob (v := .int 5) (by rfl) mN ⟨_, rfl⟩) pa_nil))))) (pss_one ps_dead) pss_nil)
      (pss_cons (ps_if (pt_not (pt_val (pe_df DB hr (pa_cons (pv 2) pa_nil)))) (pss_one ps_dead) pss_nil)
      (pss_cons (ps_if (pt_not (pt_val (pe_df DPl hr (pa_cons (pv 3) pa_nil)))) (pss_one ps_dead) pss_nil)
      (pss_cons (ps_if (pt_not (pt_val (pe_df DM hr (pa_cons (pv 4) (pa_cons (pv 1) (pa_cons (pv 2) (pa_cons (pv 3) pa_nil))))))) (pss_one ps_dead) pss_nil)
      (pss_cons (ps_if (pt_not (pt_val (pe_df DE hr (pa_cons (pv 5) (pa_cons (pv 2) (pa_cons (pv 3) pa_nil)))))) (pss_one ps_dead) pss_nil)
      (pss_cons (ps_fld (pv 0) (pe_df DI hr (pa_cons (pv 1) pa_nil)) rfl)
      (pss_cons (ps_fld (pv 0) (pe_df DI hr (pa_cons (pv 2) pa_nil)) rfl)
      (pss_cons (ps_fld (pv 0) (pe_callTy call_tupS (by rfl) mt (by decide +kernel) (pa_cons (pv 3) pa_nil)) rfl)
      (pss_cons (ps_fld (pv 0) (pe_df DK hr (pa_cons (pv 4) pa_nil)) rfl)
      (pss_one (ps_fld (pv 0) (pe_lock (pe_dc (own := [("place", 6)]) (g := gName 6) (tt := tYes) (tk := tVar 6) (tv := tDGet (tVar 5) (tVar 6)) rfl scInit.nd (pi_keys (pv 5)) (blkOk_by (own := [("place", 6)]) (N := nInit) (sc := defScope sInit) (by decide +kernel)) (fun _ _ _ _ _ => pg_name (i := 6) scInit.nd rfl (.inl rfl)) (fun _ _ _ _ _ => pts_nil) (fun _ _ _ _ _ => pv 6) (fun _ _ _ _ _ => pe_dget hu (pv 5) (pv 6) (fun _ _ => rfl)))) rfl)))))))))), ?_⟩
    have sm : ∀ {n : Nat}, n ≤ 250 → n ≤ 1000 := fun h => by omega
    refine ⟨_, rfl, .inl ⟨pt.letters, rfl, by omega, fun H1 s1 => ⟨_, rfl, ?_⟩⟩⟩
    rw [hq.le]
    refine iteF ⟨_, rfl, .inl ⟨pt.boxes, rfl, by omega, fun H2 s2 => ⟨_, rfl, ?_⟩⟩⟩
    rw [hq.bo]
    have in2 := (hin.same s1).same s2
    refine iteF ⟨_, rfl, tp, pt.places, rfl, in2.pl, fun x hx => Nat.le_trans (p8 x hx) (by decide), by omega, hq.pl, fun H3 s3 => ⟨_, rfl, ?_⟩⟩
    have in3 := in2.same s3
    obtain ⟨kvs, hm3, hk3⟩ := in3.mv
    refine iteF ⟨_, rfl, _, rfl, _, rfl, _, rfl, tm, tp, kvs, pt.moves, pt.letters, pt.boxes, pt.places, rfl, hm3, hk3, in3.pl, by omega, by omega, hlow, hq.mv, fun H4 s4 => ⟨_, rfl, iteF ?_⟩⟩
    have in4 := in3.same s4
    refine ⟨_, rfl, _, rfl, _, rfl, te, tp, pt.ends, pt.boxes, pt.places, rfl, in4.en, in4.pl, hlow, hq.en, fun H5 s5 => ⟨_, rfl, iteF ?_⟩⟩
    have s05 := (((s1.trans s2).trans s3).trans s4).trans s5
    -- the fields
    refine ⟨_, rfl, pt.letters, rfl, by omega, fun H6 s6 => ⟨_, rfl, p, C, dx, [], rfl, s6 _ _ (s05 _ _ hp), T.cl, T.nL, by show 0 < 1000; decide, ?_⟩⟩
    have hp6 : H6 p = some (.ins C dx []) := s6 _ _ (s05 _ _ hp)
    have b7 : But p H (upd H6 p (.ins C dx (putF "_letters" (.str (S (sortN pt.letters))) []))) := (Same.but (s05.trans s6) p).trans (But.upd p H6 _)
    have hp7 : (upd H6 p (.ins C dx (putF "_letters" (.str (S (sortN pt.letters))) []))) p = some (.ins C dx [("_letters", .str (S (sortN pt.letters)))]) := upd_same
    generalize upd H6 p (.ins C dx (putF "_letters" (.str (S (sortN pt.letters))) [])) = H7 at b7 hp7
    refine ⟨_, rfl, pt.boxes, rfl, by omega, fun H8 s8 => ⟨_, rfl, p, C, dx, _, rfl, s8 _ _ hp7, T.cl, T.nB, by show 1 < 1000; decide, ?_⟩⟩
    have b9 : But p H (upd H8 p (.ins C dx (putF "_boxes" (.str (S (sortN pt.boxes))) [("_letters", .str (S (sortN pt.letters)))]))) := (b7.trans (Same.but s8 p)).trans (But.upd p H8 _)
    have hp9 : (upd H8 p (.ins C dx (putF "_boxes" (.str (S (sortN pt.boxes))) [("_letters", .str (S (sortN pt.letters)))]))) p = some (.ins C dx [("_letters", .str (S (sortN pt.letters))), ("_boxes", .str (S (sortN pt.boxes)))]) := by
      rw [upd_same, putF_end (show ("_boxes" : Str) ∉ (["_letters"] : List Str) by decide +kernel)]
      rfl
    generalize upd H8 p (.ins C dx (putF "_boxes" (.str (S (sortN pt.boxes))) [("_letters", .str (S (sortN pt.letters)))])) = H9 at b9 hp9
    have in9 : InAt H9 tp tm te pt := hin.but hp b9
    -- the places
    refine ⟨_, rfl, tp, txs pt.places, rfl, in9.pl, fun pl H10 s10 e10 => ?_⟩
    refine ⟨_, rfl, p, C, dx, _, rfl, s10 _ _ hp9, T.cl, T.nP, by show 2 < 1000; decide, ?_⟩
    have hp10 := s10 _ _ hp9
    have npp : pl ≠ p := ne_of e10 hp10 (by intro z; cases z)
    have b11 : But p H (upd H10 p (.ins C dx (putF "_places" (.ref pl) [("_letters", .str (S (sortN pt.letters))), ("_boxes", .str (S (sortN pt.boxes)))]))) := (b9.trans (Same.but s10 p)).trans (But.upd p H10 _)
    have hp11 : (upd H10 p (.ins C dx (putF "_places" (.ref pl) [("_letters", .str (S (sortN pt.letters))), ("_boxes", .str (S (sortN pt.boxes)))]))) p = some (.ins C dx [("_letters", .str (S (sortN pt.letters))), ("_boxes", .str (S (sortN pt.boxes))), ("_places", .ref pl)]) := by
      rw [upd_same, putF_end (show ("_places" : Str) ∉ (["_letters", "_boxes"] : List Str) by decide +kernel)]
      rfl
    have e11 : (upd H10 p (.ins C dx (putF "_places" (.ref pl) [("_letters", .str (S (sortN pt.letters))), ("_boxes", .str (S (sortN pt.boxes)))]))) pl = some (.tup (txs pt.places)) := by rw [upd_ne npp]; exact e10
    generalize upd H10 p (.ins C dx (putF "_places" (.ref pl) [("_letters", .str (S (sortN pt.letters))), ("_boxes", .str (S (sortN pt.boxes)))])) = H11 at b11 hp11 e11
    have in11 : InAt H11 tp tm te pt := hin.but hp b11
    obtain ⟨kvs2, hm11, hk11⟩ := in11.mv
    have mok : ∀ m ∈ pt.moves, (m.fl.map (·.1)).Nodup ∧ Ones m.fl ∧ m.fl.length < 64 := fun m hm => by
      obtain ⟨_, _, _, hF⟩ := hq.mv m hm
      refine ⟨hF.nd, hF.ones, ?_⟩
      have hk : okKeys m.fl pt.boxes = true := by
        have := hF.ok
        unfold okFils at this
        exact (Bool.and_eq_true _ _ ▸ this).1
      have sub : (m.fl.map (·.1)) ⊆ pt.boxes.map fun b => [b] := fun x hx => of_decide_eq_true (List.all_eq_true.mp hk x hx)
      have h1 := List.Nodup.length_le_of_subset hF.nd sub
      rw [List.length_map, List.length_map] at h1
      omega
    refine ⟨_, rfl, tm, kvs2, pt.moves, rfl, hm11, hk11, by omega, hq.ky, mok, fun mv H12 kk s12 n12 e12 k12 => ?_⟩
    have hp12 := s12 _ _ hp11
    have nmp : mv ≠ p := ne_of e12 hp12 (by intro z; cases z)
    have nHm : H mv = none := by
      cases z : H mv with
      | none => rfl
      | some o =>
        have := b11 _ _ z nmp
        rw [n12] at this
        cases this
    refine ⟨_, rfl, p, C, dx, _, rfl, hp12, T.cl, T.nM, by show 3 < 1000; decide, ?_⟩
    have b13 : But p H (upd H12 p (.ins C dx (putF "_moves" (.ref mv) [("_letters", .str (S (sortN pt.letters))), ("_boxes", .str (S (sortN pt.boxes))), ("_places", .ref pl)]))) := (b11.trans (Same.but s12 p)).trans (But.upd p H12 _)
    have hp13 : (upd H12 p (.ins C dx (putF "_moves" (.ref mv) [("_letters", .str (S (sortN pt.letters))), ("_boxes", .str (S (sortN pt.boxes))), ("_places", .ref pl)]))) p = some (.ins C dx [("_letters", .str (S (sortN pt.letters))), ("_boxes", .str (S (sortN pt.boxes))), ("_places", .ref pl), ("_moves", .ref mv)]) := by
      rw [upd_same, putF_end (show ("_moves" : Str) ∉ (["_letters", "_boxes", "_places"] : List Str) by decide +kernel)]
      rfl
    have e13 : (upd H12 p (.ins C dx (putF "_moves" (.ref mv) [("_letters", .str (S (sortN pt.letters))), ("_boxes", .str (S (sortN pt.boxes))), ("_places", .ref pl)]))) pl = some (.tup (txs pt.places)) := by rw [upd_ne npp]; exact s12 _ _ e11
    have m13 : (upd H12 p (.ins C dx (putF "_moves" (.ref mv) [("_letters", .str (S (sortN pt.letters))), ("_boxes", .str (S (sortN pt.boxes))), ("_places", .ref pl)]))) mv = some (.dT kk) := by rw [upd_ne nmp]; exact e12
    have fresh11 : ∀ {a : Addr}, H11 a = none → a ≠ p → H a = none := fun {a} h n => by
      cases z : H a with
      | none => rfl
      | some o =>
        have := b11 _ _ z n
        rw [h] at this
        cases this
    have k13 : Paired (MvNew H (upd H12 p (.ins C dx (putF "_moves" (.ref mv) [("_letters", .str (S (sortN pt.letters))), ("_boxes", .str (S (sortN pt.boxes))), ("_places", .ref pl)])))) kk (pt.moves.map keptM) := by
      refine Paired.mono (fun kv m h => ?_) k12
      obtain ⟨e, t, d2, a, b, c, n⟩ := h
      have ntp : t ≠ p := ne_of b hp12 (by intro z; cases z)
      have ndp : d2 ≠ p := ne_of c hp12 (by intro z; cases z)
      exact ⟨e, t, d2, a, by rw [upd_ne ntp]; exact b, by rw [upd_ne ndp]; exact c, fresh11 n ndp⟩
    generalize upd H12 p (.ins C dx (putF "_moves" (.ref mv) [("_letters", .str (S (sortN pt.letters))), ("_boxes", .str (S (sortN pt.boxes))), ("_places", .ref pl)])) = H13 at b13 hp13 e13 m13 k13
    have in13 : InAt H13 tp tm te pt := hin.but hp b13
    -- the ends
    refine ⟨te, _, in13.en, trivial, fun od => ⟨_, rfl, te, od, rfl, .inl ⟨fkv pt.ends, upd_same, fun D nD => ?_⟩⟩⟩
    have nDte : D ≠ te := fun z => by rw [z, upd_same] at nD; cases nD
    have lE : (txs (pt.ends.map (·.1))).length = pt.ends.length := by unfold txs; rw [List.length_map, List.length_map]
    have lF : (fkv pt.ends).length = pt.ends.length := List.length_map _
    refine dc_mapW (xs := txs (pt.ends.map (·.1))) (fun _ => true) keyV (endV pt.ends) walk_keys (by rw [lE, lF]) (fun i H x H' y => ?_) (fun H' s' => s' _ _ upd_same) nD (by rw [lE]; exact small1000 (by omega)) ?_ ?_ ?_ ?_ ?_
    · obtain ⟨e, k', v', hk, ex⟩ := y
      refine ⟨e, ?_⟩
      rw [← keys_fkv, List.getElem?_map, hk, ex]
      rfl
    · rw [List.filter_eq_self.mpr (fun _ _ => rfl)]
      unfold txs
      rw [List.map_map]
      exact List.Pairwise.map _ (fun a b hab z => hab (key_S.mp z)) hq.ek
    · intro x hx H' R s' r
      exact r
    · intro x hx _ H' R s' r
      obtain ⟨c, hc, rfl⟩ := List.mem_map.mp hx
      exact ⟨_, rfl, r⟩
    · intro x hx _ H' R s' r
      obtain ⟨c, hc, rfl⟩ := List.mem_map.mp hx
      obtain ⟨qq, hqq, rfl⟩ := List.mem_map.mp hc
      have hg := getF_mem hq.ek hqq
      have hv : valV (fkv pt.ends) (Sum.inr (S qq.1)) = some (.str (S qq.2)) := by rw [val_fkv, hg]; rfl
      refine ⟨_, rfl, _, rfl, te, _, rfl, hv ▸ dget_kz (k := Sum.inr (S qq.1)) (s' _ _ upd_same), ?_⟩
      have r' := r H' (fun _ _ e => e)
      have e5 : endV pt.ends (.str (S qq.1)) = .str (S qq.2) := by
        show V.str (S ((getF pt.ends qq.1).getD [])) = _
        rw [hg]
        rfl
      rw [e5] at r'
      exact r'
    intro H14 s14 e14
    rw [ends_eq hq.ek] at e14
    have ste : H14 te = some (.frz od (.dK (fkv pt.ends))) := s14 _ _ upd_same
    have s15 : Same H13 (upd H14 te (.dK (fkv pt.ends))) := same_unlock in13.en s14
    have hp15 := s15 _ _ hp13
    have e15 : (upd H14 te (.dK (fkv pt.ends))) D = some (.dK (fkv pt.ends)) := by rw [upd_ne nDte]; exact e14
    refine ⟨ste, _, rfl, p, C, dx, _, rfl, hp15, T.cl, T.nE, by show 4 < 1000; decide, ?_⟩
    have nDp : D ≠ p := ne_of e15 hp15 (by intro z; cases z)
    have nHD : H D = none := by
      have h1 : H13 D = none := by rw [upd_ne nDte] at nD; exact nD
      cases z : H D with
      | none => rfl
      | some o =>
        have := b13 _ _ z nDp
        rw [h1] at this
        cases this
    refine q _ ((b13.trans (Same.but s15 p)).trans (But.upd p _ _)) ⟨dx, pl, mv, D, kk, ?_, by rw [upd_ne npp]; exact s15 _ _ e13, by rw [upd_ne nmp]; exact s15 _ _ m13, nHm, Paired.mono (fun kv m h => ?_) k13, by rw [upd_ne nDp]; exact e15, nHD⟩
    · rw [upd_same, putF_end (show ("_ends" : Str) ∉ (["_letters", "_boxes", "_places", "_moves"] : List Str) by decide +kernel)]
      rfl
    · obtain ⟨e, t, d2, a, b, c, n⟩ := h
      have b' := s15 _ _ b
      have c' := s15 _ _ c
      exact ⟨e, t, d2, a, by rw [upd_ne (ne_of b' hp15 (by intro z; cases z))]; exact b', by rw [upd_ne (ne_of c' hp15 (by intro z; cases z))]; exact c', n⟩
end
end Tb

set_option Elab.async false
set_option linter.all false
set_option maxRecDepth 100000
set_option maxHeartbeats 4000000
namespace Tb
open PySem PySem.Spec PyProof.Rows L2 TL
/-- a property, a method of the class at C, proved -/
structure Prp (P : Program) (w : World) (K : PySem.W.Frag) (mg : Str → Option Value) (base : Heap) (C : Addr) (k : Nat) (nm : Str) (sp : Sp) : Prop where
  ex : ∃ p g fd, PropOf K C nm p g ∧ FnOk P w K mg base CX0 k g fd ["self"] sp ∧ Binds K fd ["self"] []
structure Mth (P : Program) (w : World) (K : PySem.W.Frag) (mg : Str → Option Value) (base : Heap) (C : Addr) (k : Nat) (nm : Str) (ps : List Str) (sp : Sp) : Prop where
  ex : ∃ f fd, Meth K C nm f ∧ FnOk P w K mg base CX0 k f fd ("self" :: ps) sp ∧ Binds K fd ("self" :: ps) []
section
variable {X : Cx} {C : Addr} {k j : Nat} {nm : Str} {ps : List Str} {sp : Sp} {o : Expr} {to : TE}
theorem pe_prp {pos : Pos} (D : Prp X.prog X.w X.K X.mg X.base C k nm sp) (c : Cls X.K C) (hr : Room j X.A) (he : PE X o to) (hk : k + 1 ≤ j := by omega) (hab : attributeBase o nm X.env (eval o X.env) = eval o X.env := by rfl) : PE X (.Attribute o nm pos) (tProp C sp [] E0 to) := by
  obtain ⟨p, g, fd, hp, F, b⟩ := D.ex
  exact pe_prop he c hp F (hr.mono hk) b .nil pass0 hab
theorem pe_mth {e : Expr} {es : List Expr} {t : TA} {apos pos : Pos} {pl : Sem Bool} (D : Mth X.prog X.w X.K X.mg X.base C k nm ps sp) (c : Cls X.K C) (hr : Room j X.A) (he : PE X o to) (ha : PA X (e :: es) t) (hk : k ≤ j := by omega)
    (hst : starEach (e :: es) X.env = (false, eval e X.env) :: starEach es X.env := by rfl) (hpl : (backTo pos (starEach es X.env)).any (·.1) = false := by rfl)
    (ht : eval (.Call (.Attribute o nm apos) (e :: es) [] pos) X.env = (do
      let ov ← eval o X.env
      standAt apos.atName
      let (f, first) ← holding [ov] (getMethod ov nm pl)
      callWith pos f first (backTo pos (starEach (e :: es) X.env)) (backToKw pos (keywordEach [] X.env))) := by rfl) :
    PE X (.Call (.Attribute o nm apos) (e :: es) [] pos) (tMeth C nm sp [] E0 to t) := by
  obtain ⟨f, fd, hm, F, b⟩ := D.ex
  exact pe_meth he c hm F (hr.mono hk) b .nil pass0 ha hst hpl ht
end
/-! ### a program's fields, looked up -/
theorem fl_l (L B : List Nat) (pl mv en : Addr) : (flds L B pl mv en).lookup ("_letters" : Str) = some (.str (S L)) := rfl
theorem fl_b (L B : List Nat) (pl mv en : Addr) : (flds L B pl mv en).lookup ("_boxes" : Str) = some (.str (S B)) := by
  show List.lookup _ (_ :: _) = _
  rw [List.lookup_cons, show (("_boxes" : Str) == "_letters") = false by decide +kernel]
  rfl
theorem fl_p (L B : List Nat) (pl mv en : Addr) : (flds L B pl mv en).lookup ("_places" : Str) = some (.ref pl) := by
  show List.lookup _ (_ :: _ :: _) = _
  rw [List.lookup_cons, show (("_places" : Str) == "_letters") = false by decide +kernel, List.lookup_cons, show (("_places" : Str) == "_boxes") = false by decide +kernel]
  rfl
theorem fl_m (L B : List Nat) (pl mv en : Addr) : (flds L B pl mv en).lookup ("_moves" : Str) = some (.ref mv) := by
  show List.lookup _ (_ :: _ :: _ :: _) = _
  rw [List.lookup_cons, show (("_moves" : Str) == "_letters") = false by decide +kernel, List.lookup_cons, show (("_moves" : Str) == "_boxes") = false by decide +kernel, List.lookup_cons, show (("_moves" : Str) == "_places") = false by decide +kernel]
  rfl
theorem fl_e (L B : List Nat) (pl mv en : Addr) : (flds L B pl mv en).lookup ("_ends" : Str) = some (.ref en) := by
  show List.lookup _ (_ :: _ :: _ :: _ :: _) = _
  rw [List.lookup_cons, show (("_ends" : Str) == "_letters") = false by decide +kernel, List.lookup_cons, show (("_ends" : Str) == "_boxes") = false by decide +kernel, List.lookup_cons, show (("_ends" : Str) == "_places") = false by decide +kernel, List.lookup_cons, show (("_ends" : Str) == "_moves") = false by decide +kernel]
  rfl
theorem fl_no (L B : List Nat) (pl mv en : Addr) {m : Str} (h : (["_letters", "_boxes", "_places", "_moves", "_ends"] : List Str).contains m = false) : (flds L B pl mv en).lookup m = none := by
  have h' : m ∉ (["_letters", "_boxes", "_places", "_moves", "_ends"] : List Str) := fun z => by
    rw [List.contains_iff_mem.mpr z] at h
    cases h
  cases e : (flds L B pl mv en).lookup m with
  | none => rfl
  | some v =>
    exfalso
    have : ∀ l : List (Str × V), l.lookup m = some v → m ∈ l.map (·.1) := by
      intro l
      induction l with
      | nil => intro h; cases h
      | cons q r ih =>
        intro h
        rw [List.lookup_cons] at h
        by_cases z : (m == q.1) = true
        · rw [beq_iff_eq.mp z]
          exact List.mem_cons_self
        · rw [Bool.eq_false_iff.mpr z] at h
          exact List.mem_cons_of_mem _ (ih h)
    exact h' (this _ e)
/-! ### the move under a key -/
def findM (ms : List Mv) (pl : List Nat) (c : Nat) : Option Mv := ms.find? fun m => decide (m.pl = pl ∧ m.lt = c)
def mkey (pl : List Nat) (c : Nat) : List Key := [Sum.inr (S pl), Sum.inr (S [c])]
theorem val_moves {H : Hp} {pl : List Nat} {c : Nat} : ∀ {kk : List (List Key × V)} {ms : List Mv}, Paired (MvAt H) kk ms →
    match findM ms pl c with
    | none => valV kk (mkey pl c) = none
    | some m => ∃ t d, valV kk (mkey pl c) = some (.ref t) ∧ H t = some (.tup [.str (S m.to), .ref d]) ∧ H d = some (.dK (fkv m.fl))
  | _, _, .nil => rfl
  | kv :: kk, m :: ms, .cons h t => by
    have ih := val_moves (pl := pl) (c := c) t
    unfold findM
    rw [List.find?_cons]
    by_cases e : m.pl = pl ∧ m.lt = c
    · rw [decide_eq_true e]
      obtain ⟨e1, t, d, a, b, g⟩ := h
      refine ⟨t, d, ?_, b, g⟩
      obtain ⟨k, v⟩ := kv
      have ek : k = mkey pl c := by
        have : k = m.key := e1
        rw [this]
        unfold Mv.key mkey
        rw [e.1, e.2]
      rw [valV_pos ek]
      exact congrArg some a
    · rw [decide_eq_false e]
      obtain ⟨e1, _⟩ := h
      obtain ⟨k, v⟩ := kv
      have ek : k ≠ mkey pl c := fun z => e (key_inj (m := m) (by rw [← e1]; exact z))
      rw [valV_neg ek]
      exact ih
theorem mapV_ends (es : Fil) (c : List Nat) : (valV (fkv es) (Sum.inr (S c))).getD .non = match getF es c with | none => .non | some f => .str (S f) := by
  rw [val_fkv]
  cases getF es c <;> rfl
section
variable {P : Program} {w : World} {K : PySem.W.Frag} {mg : Str → Option Value} {base : Heap}
theorem scL : FnScope ["self"] ["self"] (defScope sLettersP) := ⟨rfl, rfl, rfl, by decide +kernel, rfl, by decide +kernel, by decide +kernel⟩
theorem scB : FnScope ["self"] ["self"] (defScope sBoxesP) := ⟨rfl, rfl, rfl, by decide +kernel, rfl, by decide +kernel, by decide +kernel⟩
theorem scP : FnScope ["self"] ["self"] (defScope sPlacesP) := ⟨rfl, rfl, rfl, by decide +kernel, rfl, by decide +kernel, by decide +kernel⟩
theorem ok_letters {f C : Addr} {fd : FuncData} {k : Nat} (F : Fun K "letters" "Program.letters" sLettersP f fd) (T : PrTxt K mg C) : FnOk P w K mg base CX0 (k + 1) f fd ["self"] (getSp C "_letters") := by
  refine F.ok scL (fun vs H Q E h => ?_) (fun cdv A outer s H vs Q E hr h => ?_)
  · obtain ⟨a, dx, fs, v, rfl, _⟩ := h
    rfl
  · obtain ⟨a, dx, fs, v, rfl, h1, h2, q⟩ := h
    exact ⟨_, pss_one (ps_ret (pe_fld (pv 0) rfl)), _, rfl, a, C, dx, fs, v, rfl, h1, T.cl, T.nL, h2, q⟩
theorem ok_boxes {f C : Addr} {fd : FuncData} {k : Nat} (F : Fun K "boxes" "Program.boxes" sBoxesP f fd) (T : PrTxt K mg C) : FnOk P w K mg base CX0 (k + 1) f fd ["self"] (getSp C "_boxes") := by
  refine F.ok scB (fun vs H Q E h => ?_) (fun cdv A outer s H vs Q E hr h => ?_)
  · obtain ⟨a, dx, fs, v, rfl, _⟩ := h
    rfl
  · obtain ⟨a, dx, fs, v, rfl, h1, h2, q⟩ := h
    exact ⟨_, pss_one (ps_ret (pe_fld (pv 0) rfl)), _, rfl, a, C, dx, fs, v, rfl, h1, T.cl, T.nB, h2, q⟩
theorem ok_places {f C : Addr} {fd : FuncData} {k : Nat} (F : Fun K "places" "Program.places" sPlacesP f fd) (T : PrTxt K mg C) : FnOk P w K mg base CX0 (k + 1) f fd ["self"] (getSp C "_places") := by
  refine F.ok scP (fun vs H Q E h => ?_) (fun cdv A outer s H vs Q E hr h => ?_)
  · obtain ⟨a, dx, fs, v, rfl, _⟩ := h
    rfl
  · obtain ⟨a, dx, fs, v, rfl, h1, h2, q⟩ := h
    exact ⟨_, pss_one (ps_ret (pe_fld (pv 0) rfl)), _, rfl, a, C, dx, fs, v, rfl, h1, T.cl, T.nP, h2, q⟩
/-! ### end, move -/
theorem scEnd : FnScope ["self", "place"] ["self", "place"] (defScope sEnd) := ⟨rfl, rfl, rfl, by decide +kernel, rfl, by decide +kernel, by decide +kernel⟩
def spEnd (C : Addr) : Sp := fun vs H Q _ => ∃ (p : Addr) (c L B : List Nat) (places : List (List Nat)) (ms : List Mv) (es : Fil), vs = [.ref p, .str (S c)] ∧ PrAt C H p L B places ms es ∧ Q (match getF es c with | none => .non | some f => .str (S f)) H
theorem ok_end {f C : Addr} {fd : FuncData} {k : Nat} (F : Fun K "end" "Program.end" sEnd f fd) (T : PrTxt K mg C) : FnOk P w K mg base CX0 (k + 1) f fd ["self", "place"] (spEnd C) := by
  refine F.ok scEnd (fun vs H Q E h => ?_) (fun cdv A outer s H vs Q E hr h => ?_)
  · obtain ⟨p, c, L, B, places, ms, es, rfl, _⟩ := h
    rfl
  · obtain ⟨p, c, L, B, places, ms, es, rfl, hp, q⟩ := h
    have hu := hu_of hr
    obtain ⟨dx, pl, mv, en, kk, h1, h2, h3, h4, h5⟩ := hp.ob
    refine ⟨_, pss_one (ps_ret (pe_dget1 hu (pe_fld (pv 0) rfl) (pv 1) ⟨rfl, rfl, rfl, rfl⟩)), ?_⟩
    refine ⟨_, rfl, p, C, dx, _, _, rfl, h1, T.cl, T.nE, fl_e _ _ _ _ _, en, rfl, .inl ⟨_, .inl h5⟩, _, rfl, _, DGet.k (k := Sum.inr (S c)) h5, ?_⟩
    rw [mapV_ends]
    exact q
theorem scMove : FnScope ["self", "place", "letter", "found", "target", "fillings"] ["self", "place", "letter"] (defScope sMove) := ⟨rfl, rfl, rfl, by decide +kernel, rfl, by decide +kernel, by decide +kernel⟩
def spMove (C : Addr) : Sp := fun vs H Q _ => ∃ (p : Addr) (c : List Nat) (a : Nat) (L B : List Nat) (places : List (List Nat)) (ms : List Mv) (es : Fil), vs = [.ref p, .str (S c), .str (S [a])] ∧ PrAt C H p L B places ms es ∧
  match findM ms c a with
  | none => ∀ H', Same H H' → Q .non H'
  | some m => ∀ t d H', Same H H' → H t = none → H d = none → H' t = some (.tup [.str (S m.to), .ref d]) → H' d = some (.dK (fkv m.fl)) → Q (.ref t) H'
theorem ok_move {f C : Addr} {fd : FuncData} {k : Nat} (F : Fun K "move" "Program.move" sMove f fd) (T : PrTxt K mg C) (md : mg "dict" = none) : FnOk P w K mg base CX0 (k + 1) f fd ["self", "place", "letter"] (spMove C) := by
  refine F.ok scMove (fun vs H Q E h => ?_) (fun cdv A outer s H vs Q E hr h => ?_)
  · obtain ⟨p, c, a, L, B, places, ms, es, rfl, _⟩ := h
    rfl
  · obtain ⟨p, c, a, L, B, places, ms, es, rfl, hp, q⟩ := h
    have hu := hu_of hr
    obtain ⟨dx, pl, mv, en, kk, h1, h2, h3, h4, h5⟩ := hp.ob
    refine ⟨_, pss_cons (ps_set (i := 3) scMove.nd rfl (.inl rfl) (pe_dget1 hu (pe_fld (pv 0) rfl) (pe_tupS (pa_cons (pv 1) (pa_cons (pv 2) pa_nil))) ⟨rfl, rfl, rfl, rfl⟩))
      (pss_cons (ps_if (pt_cmpR op_isN (pv 3) pe_non (nomark _)) (pss_one (ps_ret pe_non)) pss_nil)
      (pss_cons (ps_asg (pv 3) (pg_tup rfl (pgs_cons (pg_name (i := 4) scMove.nd rfl (.inl rfl)) (pgs_cons (pg_name (i := 5) scMove.nd rfl (.inl rfl)) pgs_nil))))
      (pss_one (ps_ret (pe_tupS (pa_cons (pv 4) (pa_cons (pe_callTy call_dictD (by rfl) md (by decide +kernel) (pa_cons (pv 5) pa_nil)) pa_nil))))))), ?_⟩
    refine ⟨_, rfl, p, C, dx, _, _, rfl, h1, T.cl, T.nM, fl_m _ _ _ _ _, mv, rfl, .inr ⟨_, .inl h3⟩, _, rfl, _, rfl, by show 2 ≤ sizeLine; decide, fun T2 H2 s2 n2 e2 => ⟨_, DGet.t (k := mkey c a) (s2 _ _ h3) e2, ?_⟩⟩
    have hv := val_moves (pl := c) (c := a) h4
    cases hf : findM ms c a with
    | none =>
      rw [hf] at hv q
      have hv' : valV kk (mkey c a) = none := hv
      rw [hv']
      exact ⟨_, rfl, rfl, _, rfl, iteT (q H2 s2)⟩
    | some m =>
      rw [hf] at hv q
      obtain ⟨t, d, hv', ht, hd⟩ := hv
      rw [hv']
      refine ⟨_, rfl, rfl, _, rfl, iteF ⟨_, rfl, t, _, rfl, SqT.of (s2 _ _ ht), rfl, _, _, rfl, _, _, rfl, rfl, ?_⟩⟩
      refine ⟨_, rfl, _, rfl, d, fkv m.fl, rfl, .inl (s2 _ _ hd), fun d' n3 => ⟨by show 2 ≤ sizeLine; decide, fun t' H4 s4 n4 e4 => ?_⟩⟩
      have s24 := s2.trans ((same_upd n3).trans s4)
      exact q t' d' H4 s24 (s2.free ((same_upd (o := .dK (fkv m.fl)) n3).free n4)) (s2.free n3) e4 (s4 _ _ upd_same)
end
end Tb

set_option Elab.async false
set_option linter.all false
set_option maxRecDepth 100000
set_option maxHeartbeats 4000000
namespace Tb
open PySem PySem.Spec PyProof.Rows L2 TL
/-! ### drawn parts make a program -/
theorem isCap_low {c : Nat} (h : 65 ≤ c ∧ c ≤ 90) : isLow c = false := decide_eq_false (by omega)
theorem isFill_of {bs f : List Nat} (hb : ∀ c ∈ bs, 65 ≤ c ∧ c ≤ 90) (sg : ∀ c ∈ f, (97 ≤ c ∧ c ≤ 122) ∨ c ∈ bs) (one : ∀ b ∈ bs, f.count b ≤ 1) : isFill f bs = true := by
  have hc : ∀ c ∈ caps f, c ∈ bs := fun c hc => by
    obtain ⟨h1, h2⟩ := List.mem_filter.mp hc
    rcases sg c h1 with h | h
    · have : isLow c = true := decide_eq_true h
      rw [this] at h2
      cases h2
    · exact h
  refine isFill_iff.mpr ⟨List.nodup_iff_count.mpr fun c => ?_, hc⟩
  by_cases hm : c ∈ caps f
  · exact Nat.le_trans (List.Sublist.count_le _ List.filter_sublist) (one c (hc c hm))
  · rw [List.count_eq_zero.mpr hm]
    exact Nat.zero_le _
theorem FilOk.isFill {bs : List Nat} {fs : List (List Nat)} (h : FilOk bs fs) (hb : ∀ c ∈ bs, 65 ≤ c ∧ c ≤ 90) : isFill fs.flatten bs = true :=
  isFill_of hb (fun c hc => by
    obtain ⟨f, hf, hcf⟩ := List.mem_flatten.mp hc
    exact h.sg f hf c hcf) h.one
theorem GoodP.parts {pt : Pt} (g : GoodP pt) : PartsQ pt where
  le := by
    unfold okLetters
    rw [decide_eq_true g.l1, decide_eq_true g.l5, decide_eq_true g.ln, show pt.letters.all isLow = true from List.all_eq_true.mpr fun c hc => decide_eq_true (g.ll c hc)]
    rfl
  bo := by
    unfold okBoxes
    rw [decide_eq_true g.b6, decide_eq_true g.bn, show pt.boxes.all isCap = true from List.all_eq_true.mpr fun c hc => decide_eq_true (g.bb c hc)]
    rfl
  pl := by
    unfold okPlaces
    rw [decide_eq_true g.p1, decide_eq_true (Nat.le_trans g.p8 (by decide)), decide_eq_true g.pn, List.all_eq_true.mpr fun x hx => isName_iff.mpr (g.pp x hx)]
    rfl
  ky := g.ky
  mv := fun m hm => by
    obtain ⟨a, b, c, hk, hF⟩ := g.mv m hm
    refine ⟨a, b, c, ⟨?_, ?_, Nat.le_trans hF.len (by decide)⟩⟩
    · rw [hk]
      exact List.Pairwise.map _ (fun a b hab z => hab (by injection z)) g.bn
    · unfold okFils okKeys
      rw [hF.isFill g.bb, hk, List.all_eq_true.mpr fun c hc => decide_eq_true hc]
      rfl
  ek := g.ek
  en := fun q hq => by
    obtain ⟨a, hF⟩ := g.en q hq
    have h1 := hF.isFill g.bb
    have h2 := hF.len
    rw [show [q.2].flatten = q.2 by simp] at h1 h2
    exact ⟨a, h1, Nat.le_trans h2 (by decide)⟩
theorem PtAt.to_in {H : Hp} {L : Addr} {pt : Pt} (h : PtAt H L pt) : ∃ tp tm te, H L = some (.lst [.str (S pt.letters), .str (S pt.boxes), .ref tp, .ref tm, .ref te]) ∧ InAt H tp tm te pt := by
  obtain ⟨tp, tm, te, kvs, h1, h2, h3, h4, h5⟩ := h.ex
  exact ⟨tp, tm, te, h1, .inl h2, ⟨kvs, h3, Paired.mono (fun _ _ z => z.to_in) h4⟩, h5⟩
abbrev psInit : List Str := ["self", "letters", "boxes", "places", "moves", "ends"]
/-- the class's making, proved -/
structure Mkr (P : Program) (w : World) (K : PySem.W.Frag) (mg : Str → Option Value) (base : Heap) (C : Addr) (k : Nat) : Prop where
  ex : ∃ f fd, Mk K C f ∧ FnOk P w K mg base CX0 k f fd psInit (spInit C) ∧ Binds K fd psInit []
/-- Program(letters, boxes, places, moves, ends) -/
def tProg (C : Addr) (t : TA) : TE := fun σ H Q => t σ H fun vs H1 => ∃ (tp tm te : Addr) (pt : Pt), vs = [.str (S pt.letters), .str (S pt.boxes), .ref tp, .ref tm, .ref te] ∧ InAt H1 tp tm te pt ∧ PartsQ pt ∧
  ∀ p H', Same H1 H' → H1 p = none → PrNew C H1 H' p (sortN pt.letters) (sortN pt.boxes) pt.places (pt.moves.map keptM) pt.ends → Q (.ref p) H'
theorem PrNew.old {C : Addr} {H0 H1 H : Hp} {p : Addr} {L B : List Nat} {places : List (List Nat)} {ms : List Mv} {es : Fil} (s : ∀ a, H1 a = none → H0 a = none) (h : PrNew C H1 H p L B places ms es) : PrNew C H0 H p L B places ms es := by
  obtain ⟨dx, pl, mv, en, kk, h1, h2, h3, n1, h4, h5, n2⟩ := h.ob
  refine ⟨dx, pl, mv, en, kk, h1, h2, h3, s _ n1, Paired.mono (fun kv m z => ?_) h4, h5, s _ n2⟩
  obtain ⟨e, t, d, a, b, c, n⟩ := z
  exact ⟨e, t, d, a, b, c, s _ n⟩
theorem pe_prog {X : Cx} {C : Addr} {k j : Nat} {e : Expr} {es : List Expr} {t : TA} {p pos : Pos} (D : Mkr X.prog X.w X.K X.mg X.base C k) (hr : Room j X.A) (hm : X.mg "Program" = some (.ref C)) (ha : PA X (e :: es) t) (hk : k + 1 ≤ j := by omega) (hg : Gl X "Program" := by rfl)
    (he : starEach (e :: es) X.env = (false, eval e X.env) :: starEach es X.env := by rfl) (hpl : (backTo pos (starEach es X.env)).any (·.1) = false := by rfl) :
    PE X (.Call (.Name "Program" p) (e :: es) [] pos) (tProg C t) := by
  obtain ⟨f, fd, M, F, b⟩ := D.ex
  refine PE.weak (pe_make M F (hr.mono hk) hg hm b .nil pass0 (PA.mono ha) (by decide) he hpl) fun σ H Q z => ⟨_, z, fun vs H1 ⟨tp, tm, te, pt, ev, hin, hq, q⟩ x dx nx ndx ne => ?_⟩
  subst ev
  have s1 : Same H1 (upd (upd H1 dx (.own x)) x (.ins C dx [])) := fun b o eb => by
    rw [upd_ne (ne_of_none eb nx), upd_ne (ne_of_none eb ndx)]
    exact eb
  refine ⟨x, dx, tp, tm, te, pt, rfl, upd_same, hin.same s1, hq, fun H' hb hp => ⟨rfl, q x H' (fun b o eb => hb b o (s1 b o eb) (ne_of_none eb nx)) nx (hp.old fun a h => s1.free h)⟩⟩
section
variable {P : Program} {w : World} {K : PySem.W.Frag} {mg : Str → Option Value} {base : Heap}
theorem scMade : FnScope ["_law_parts"] ["_law_parts"] (defScope sMade) := ⟨rfl, rfl, rfl, by decide +kernel, rfl, by decide +kernel, by decide +kernel⟩
def spMade (C : Addr) : Sp := fun vs H Q _ => ∃ (a : Addr) (pt : Pt), vs = [.ref a] ∧ (∃ tp tm te, H a = some (.lst [.str (S pt.letters), .str (S pt.boxes), .ref tp, .ref tm, .ref te]) ∧ InAt H tp tm te pt) ∧ PartsQ pt ∧
  ∀ p H', Same H H' → H p = none → PrNew C H H' p (sortN pt.letters) (sortN pt.boxes) pt.places (pt.moves.map keptM) pt.ends → Q (.ref p) H'
theorem ok_made {f C : Addr} {fd : FuncData} {k : Nat} (F : Fun K "_law_made" "_law_made" sMade f fd) (D : Mkr P w K mg base C k) (hm : mg "Program" = some (.ref C)) : FnOk P w K mg base CX0 (k + 2) f fd ["_law_parts"] (spMade C) := by
  refine F.ok scMade (fun vs H Q E h => ?_) (fun cdv A outer s H vs Q E hr h => ?_)
  · obtain ⟨a, pt, rfl, _⟩ := h
    rfl
  · obtain ⟨a, pt, rfl, ⟨tp, tm, te, ha, hin⟩, hq, q⟩ := h
    refine ⟨_, pss_one (ps_ret (pe_prog D hr hm (pa_cons (pe_ix ix_list (pv 0) pe_int (fun _ _ => rfl)) (pa_cons (pe_ix ix_list (pv 0) pe_int (fun _ _ => rfl)) (pa_cons (pe_ix ix_list (pv 0) pe_int (fun _ _ => rfl)) (pa_cons (pe_ix ix_list (pv 0) pe_int (fun _ _ => rfl)) (pa_cons (pe_ix ix_list (pv 0) pe_int (fun _ _ => rfl)) pa_nil))))))), ?_⟩
    refine ⟨_, rfl, a, _, 0, _, rfl, rfl, SqL.of ha, atI_nat (j := 0) rfl, _, rfl, a, _, 1, _, rfl, rfl, SqL.of ha, atI_nat (j := 1) rfl, _, rfl, a, _, 2, _, rfl, rfl, SqL.of ha, atI_nat (j := 2) rfl, _, rfl, a, _, 3, _, rfl, rfl, SqL.of ha, atI_nat (j := 3) rfl, _, rfl, a, _, 4, _, rfl, rfl, SqL.of ha, atI_nat (j := 4) rfl, ?_⟩
    exact ⟨tp, tm, te, pt, rfl, hin, hq, fun p H' s' n' hp => q p H' s' n' hp⟩
end
end Tb

set_option Elab.async false
set_option linter.all false
set_option maxRecDepth 100000
set_option maxHeartbeats 4000000
/-! x == 'text', x an object of a class of one's own without an == of its own: never equal -/
namespace Tb
open PySem PySem.Spec PyProof.Rows L2 TL
section
variable {M : Model} {prog : Program} {w : World} {A : Around} {E : Value → Shared → Prop} {s : Shared} {K : PySem.W.Frag} {x C dx : Addr} {ox : Obj} {od : Option Obj} {t : Str} {u : Tok}
theorem entry_insS {Q : Fin → Shared → Prop} (hq : Q (.done (.ret .notImplemented)) s) : wpAny M A (Builtin.«object.__eq__» ⟨[.ref x, .str t u], []⟩) Q E s := by
  unfold Builtin.«object.__eq__»
  repeat (first | with_reducible refine wpAny_of_eq (rfl : isSame (.ref x) (.str t u) = pure false) ?_ | wp_step)
  exact hq
theorem strEq_ins : Meets (Builtin.«str.__eq__» ⟨[.str t u, .ref x], []⟩) (fun _ R s => s.heap.get? x = some (PySem.W.instObj C dx) ∧ R (.ok (.ret .notImplemented)) s) :=
  .of_wp fun prog w A R s h => by
    obtain ⟨hp, g, d, tk, os⟩ := s
    obtain ⟨hl, h⟩ := h
    wp_walk using wpAny_load hl
    exact ⟨_, rfl, h⟩
theorem call_objEqS {E : Value → Shared → Prop} {Q : Value → Shared → Prop} (X : K.In s.heap) (I : PySem.W.InstAt s.heap x ox C od) (hm : PySem.W.mroIn K C (.type "object") = some true) (hq : Q .notImplemented s) :
    wpAny (model prog w) A (call (.builtin "object.__eq__") [.ref x, .str t u]) Q E s :=
  wpAny_call (codeAny_call_builtin F.cmp_object.eq.plain F.cmpEntry_eq (PySem.W.check_slot F.cmpKind_eq F.cmpSplit_eq (I.type.andThen (PySem.W.looks_mroIn X hm)) (F.cmpArgs_eq _ _) (entry_insS hq)))
theorem sub_str : PySem.W.subIn K (.type "str") (.ref C) = some false := by
  have e : fastBuiltinMro "str" = some [.type "str", .type "object"] := by decide +kernel
  show (fastBuiltinMro "str").map (·.contains (.ref C)) = some false
  rw [e]
  first
    | rfl
    | simp
theorem rc_insS (hu : A.units < cLine) (X : K.In s.heap) (I : PySem.W.InstAt s.heap x ox C od) (hx : s.heap.get? x = some (PySem.W.instObj C dx)) (hm : PySem.W.mroIn K C (.type "object") = some true) (hs : PySem.W.findIn K (.ref C) "__eq__" = some (some (.builtin "object.__eq__"))) :
    SeqAt.RcAt A s (.ref x) (.str t u) false := fun prog w E Q h => by
  have one : wpAny (model prog w) A (tryCompare (.ref x) "__eq__" (.str t u)) (fun r s' => r = none ∧ s' = s) E s := by
    unfold tryCompare
    exact wpAny_bind (HN.ifBound_objEq X I hs (call_objEqS X I hm (wpAny_pure ⟨rfl, rfl⟩)))
  have two : wpAny (model prog w) A (tryCompare (.str t u) "__eq__" (.ref x)) (fun r s' => r = none ∧ s' = s) E s :=
    wpAny_tryCompare_declines (show s.TypeIs (.str t u) "str" from rfl) F.slot_str_eq_refl (call_meets F.slot_str_eq_refl (typeIs_str s t u) F.entry_str_eq (F.args_str_eq_2 _ _) strEq_ins ⟨hx, rfl, rfl, rfl⟩)
  simp only [richCompare, cmpInfo_Eq, oneThing_ref]
  refine wpAny_holding (wpAny_bind (wpAny_cRoomFor hu ?_))
  refine wpAny_bind (I.type.here ?_)
  refine wpAny_bind (wpAny_typeOf (show s.TypeIs (.str t u) "str" from rfl) ?_)
  split
  · refine wpAny_bind ((PySem.W.looks_subIn X sub_str).here ?_)
    simp only [Bool.false_eq_true, if_false, Bool.not_false, if_true]
    refine wpAny_bind (m := tryCompare (.ref x) _ (.str t u)) (wpAny_mono one (fun r s1 z => ?_) fun _ _ e => e)
    obtain ⟨z1, z2⟩ := z
    subst z1
    subst z2
    refine wpAny_bind (m := tryCompare (.str t u) _ (.ref x)) (wpAny_mono two (fun r s2 z => ?_) fun _ _ e => e)
    obtain ⟨z1, z2⟩ := z
    subst z1
    subst z2
    exact wpAny_bind (wpAny_rule (wpAny_bind (wpAny_of_eq (rfl : isSame (.ref x) (.str t u) = pure false) (wpAny_pure h))))
  · rename_i q
    exact absurd (by simp) q
end
/-- a == 'text': a text, or an object without an == of its own -/
def rEqRp (K : PySem.W.Frag) : R2 := fun x y H Q => (∃ a b, x = .str a ∧ y = .str b ∧ Q (.bl (decide (x = y))) H) ∨ (∃ a C dx fs t, x = .ref a ∧ y = .str t ∧ H a = some (.ins C dx fs) ∧ PySem.W.mroIn K C (.type "object") = some true ∧ PySem.W.findIn K (.ref C) "__eq__" = some (some (.builtin "object.__eq__")) ∧ Q (.bl false) H)
theorem op_eqRp {X : Cx} (hu : X.A.units + 1 < cLine) : OpR X (compareOp .Eq) (rEqRp X.K) := by
  intro pins s σ H x y v u Q I rx ry h
  rcases h with ⟨a, b, rfl, rfl, q⟩ | ⟨a, C, dx, fs, t, rfl, rfl, ha, hm, hs, q⟩
  · exact op_eq pins s σ H _ _ v u Q I rx ry ⟨rfl, q⟩
  · cases rx
    obtain ⟨tk, rfl⟩ := ry
    obtain ⟨mA, O, _⟩ := ins_get I.hok ha
    have hx : s.heap.get? a = some (PySem.W.instObj C dx) := O.1
    obtain ⟨od, J, _⟩ := O.look
    exact rc_insS (by omega) I.kIn J hx hm hs X.prog X.w X.xe _ ⟨.bl false, H, I, rfl, q⟩
end Tb

set_option Elab.async false
set_option linter.all false
set_option maxRecDepth 100000
set_option maxHeartbeats 4000000
namespace Tb
open PySem PySem.Spec PyProof.Rows L2 TL
theorem cutS_mid (cs : List Nat) (a b : Nat) (h : a ≤ b) (hb : b ≤ cs.length) : cutS (S cs) (some (a : Int)) (some (b : Int)) = S ((cs.drop a).take (b - a)) := by
  refine ext_tl ?_
  show ((cs.drop (HT.sIx (S cs).length 0 (some (a : Int)))).take (HT.sIx (S cs).length (S cs).length (some (b : Int)) - HT.sIx (S cs).length 0 (some (a : Int)))) = (cs.drop a).take (b - a)
  rw [HT.sIx_nat, HT.sIx_nat, len_S, Nat.min_eq_left hb, Nat.min_eq_left (Nat.le_trans h hb)]
/-! ### the parts of a filling -/
def pg : List Nat → List Nat → List (List Nat)
  | cur, [] => if cur = [] then [] else [cur]
  | cur, c :: r => if isCap c = true then (if cur = [] then [] else [cur]) ++ ([c] :: pg [] r) else pg (cur ++ [c]) r
def partsOf (f : List Nat) : List (List Nat) := pg [] f
theorem pg_cap {cur r : List Nat} {c : Nat} (h : isCap c = true) : pg cur (c :: r) = (if cur = [] then [] else [cur]) ++ ([c] :: pg [] r) := by
  rw [pg, if_pos h]
theorem pg_low {cur r : List Nat} {c : Nat} (h : isCap c = false) : pg cur (c :: r) = pg (cur ++ [c]) r := by
  rw [pg, if_neg (by rw [h]; exact Bool.false_ne_true)]
theorem pg_len : ∀ (r cur : List Nat), (pg cur r).length ≤ r.length * 2 + 1
  | [], cur => by
    rw [pg]
    split <;> simp
  | c :: r, cur => by
    rw [List.length_cons]
    by_cases h : isCap c = true
    · rw [pg_cap h, List.length_append, List.length_cons]
      have h1 := pg_len r []
      split <;> simp <;> omega
    · rw [pg_low (Bool.eq_false_iff.mpr h)]
      have h1 := pg_len r (cur ++ [c])
      omega
structure Rb where
  b : Nat
  a : Addr
  w : List Nat
  n : Nat
def kvR (r : List Rb) : List (Key × V) := r.map fun q => (Sum.inr (S [q.b]), V.ref q.a)
def findR (r : List Rb) (p : List Nat) : Option Rb := r.find? fun q => decide ([q.b] = p)
theorem val_kvR (p : List Nat) : ∀ r : List Rb, valV (kvR r) (Sum.inr (S p)) = (findR r p).map fun q => V.ref q.a
  | [] => rfl
  | q :: r => by
    unfold findR
    rw [List.find?_cons]
    show valV ((Sum.inr (S [q.b]), V.ref q.a) :: kvR r) _ = _
    by_cases e : [q.b] = p
    · rw [decide_eq_true e, valV_pos (by rw [e])]
      rfl
    · rw [decide_eq_false e, valV_neg (fun z => e (key_S.mp z)), val_kvR p r]
      rfl
theorem findR_mem {r : List Rb} {p : List Nat} {q : Rb} (h : findR r p = some q) : q ∈ r ∧ [q.b] = p := by
  unfold findR at h
  have h2 := List.find?_some (p := fun q : Rb => decide ([q.b] = p)) h
  exact ⟨List.mem_of_find?_eq_some h, of_decide_eq_true h2⟩
def pieceW (r : List Rb) (p : List Nat) : List Nat := match findR r p with | some q => q.w | none => p
def pieceN (r : List Rb) (p : List Nat) : Nat := match findR r p with | some q => q.n + 1 | none => 1
def fillW (r : List Rb) (parts : List (List Nat)) : List Nat := (parts.map (pieceW r)).flatten
def fillN (r : List Rb) (parts : List (List Nat)) : Nat := (parts.map (pieceN r)).sum
/-! ### a dict comprehension whose values are told by a relation (new objects) -/
section
variable {tk tv : TE} {vs : List Nat} {σ : L2.St} {H1 : Hp} {D : Addr} {Qd : Hp → Prop} {sl : Nat} {J : It} {n : Nat} {G : Hp → Prop} {Y : Nat → Hp → V → Hp → Prop}
theorem dc_relW {xs : List V} (kf : V → Key) (Rl : Hp → V → V → Prop) (hmono : ∀ H H' x v, (∃ kvs, H D = some (.dK kvs)) → But D H H' → Rl H x v → Rl H' x v)
    (w : Walk J n G Y) (hn : n = xs.length) (hY : ∀ i H x H', Y i H x H' → H' = H ∧ xs[i]? = some x) (hG : ∀ H', Same H1 H' → G H') (nD : H1 D = none) (hl : xs.length < sizeLine) (nd : (xs.map kf).Nodup)
    (hk : ∀ x ∈ xs, ∀ H' (R : VK), Same H1 H' → R (kV (kf x)) H' → tk ((wipe σ vs).set sl (some x)) H' R)
    (he : ∀ x ∈ xs, ∀ H' (R : VK), Same H1 H' → (∀ H'' v, Same H' H'' → Rl H'' x v → R v H'') → tv ((wipe σ vs).set sl (some x)) H' R)
    (hd : ∀ H' kvs, Same H1 H' → H' D = some (.dK kvs) → Paired (fun (kv : Key × V) x => kv.1 = kf x ∧ Rl H' x kv.2) kvs xs → Qd H') (hw : ∀ x, wipe ((wipe σ vs).set sl (some x)) vs = wipe σ vs := by intro _; rfl) :
    ∃ W : Nat → Nat → Hp → Prop, (∃ m, W 0 m (upd H1 D (.dK []))) ∧ ∀ i m H, W i m H →
      (J.stop i H ∧ Qd H) ∨ (J.go i H ∧ ∃ Nx : Hp → Prop, (∀ H', Nx H' → ∃ m', m' < m ∧ W (i + 1) m' H') ∧ ∀ x H', J.yld i H x H' → gName sl x (wipe σ vs) H' fun σ2 H2 => wipe σ2 vs = wipe σ vs ∧ tYes σ2 H2 fun b H3 =>
        if b = true then tk σ2 H3 fun y H4 => tv σ2 H4 fun z H5 => ∃ kvs k, y = kV k ∧ H5 D = some (.dK kvs) ∧ kvs.length < sizeLine ∧ Nx (upd H5 D (.dK (putK kvs k z))) else Nx H3) := by
  refine dc_it w (fun i H => Same H1 H ∧ ∃ kvs, H D = some (.dK kvs) ∧ Paired (fun (kv : Key × V) x => kv.1 = kf x ∧ Rl H x kv.2) kvs (xs.take i)) ⟨same_upd nD, [], upd_same, .nil⟩ (fun i H _ h => hG H h.1) ?_ ?_
  · rintro i x H H' hi ⟨s, kvs, e, hp⟩ y
    obtain ⟨rfl, hx⟩ := hY _ _ _ _ y
    have hm := List.mem_of_getElem? hx
    have et : xs.take (i + 1) = xs.take i ++ [x] := by
      rw [List.take_add_one, hx]
      rfl
    refine ⟨hw _, tYes_if (hk x hm _ _ s (he x hm _ _ s fun H2 v s2 hv => ?_))⟩
    have keys : ∀ {kvs : List (Key × V)} {l : List V} {Hx : Hp}, Paired (fun (kv : Key × V) x => kv.1 = kf x ∧ Rl Hx x kv.2) kvs l → kvs.map (·.1) = l.map kf := by
      intro kvs l Hx h
      induction h with
      | nil => rfl
      | cons h _ ih => rw [List.map_cons, List.map_cons, h.1, ih]
    have hno : kf x ∉ kvs.map (·.1) := fun z => by
      rw [keys hp] at z
      have h1 : ((xs.take (i + 1)).map kf).Nodup := ((List.take_sublist _ _).map _).nodup nd
      rw [et, List.map_append, List.nodup_append] at h1
      exact h1.2.2 _ z _ (List.mem_singleton.mpr rfl) rfl
    refine ⟨kvs, kf x, rfl, s2 _ _ e, ?_, fun b o eb => ?_, _, upd_same, ?_⟩
    · rw [Paired.length hp, List.length_take]
      exact Nat.lt_of_le_of_lt (Nat.min_le_right _ _) hl
    · rw [upd_ne (ne_of_none eb nD)]
      exact s2 _ _ (s _ _ eb)
    · rw [putK_end v hno, et]
      have b3 : But D H2 (upd H2 D (.dK (kvs ++ [(kf x, v)]))) := But.upd D H2 _
      refine (Paired.mono (fun kv y h => ⟨h.1, hmono _ _ _ _ ⟨kvs, e⟩ ((Same.but s2 D).trans b3) h.2⟩) hp).snoc ⟨rfl, hmono _ _ _ _ ⟨kvs, s2 _ _ e⟩ b3 hv⟩
  · rintro H ⟨s, kvs, e, hp⟩
    subst hn
    rw [List.take_length] at hp
    exact hd H kvs s e hp
end
/-- the parts of a move's fillings, box by box -/
def PtsAt (H : Hp) (kvs : List (Key × V)) (B : List Nat) (fl : Fil) : Prop := Paired (fun (kv : Key × V) b => kv.1 = Sum.inr (S [b]) ∧ ∃ a, kv.2 = .ref a ∧ H a = some (.lst (txs (partsOf ((getF fl [b]).getD []))))) kvs B
theorem PtsAt.same {H H' : Hp} (s : Same H H') {kvs : List (Key × V)} {B : List Nat} {fl : Fil} (h : PtsAt H kvs B fl) : PtsAt H' kvs B fl := Paired.mono (fun _ _ ⟨e, a, e2, h⟩ => ⟨e, a, e2, s _ _ h⟩) h
theorem keyV_S (c : List Nat) : keyV (.str (S c)) = Sum.inr (S c) := rfl
theorem sgs_keys {B : List Nat} (nd : B.Nodup) : ((sgs B).map keyV).Nodup := by
  unfold sgs
  rw [List.map_map]
  exact List.Pairwise.map _ (fun a b hab z => hab (by have := key_S.mp z; injection this)) nd
theorem str_item {B : List Nat} {i : Nat} {H H' : Hp} {x : V} (y : H' = H ∧ ∃ c, (S B).cps[i]? = some c ∧ x = .str ⟨#[c]⟩) : H' = H ∧ (sgs B)[i]? = some x := by
  obtain ⟨e, c, hc, rfl⟩ := y
  refine ⟨e, ?_⟩
  rw [show (S B).cps = B.toArray from rfl, List.getElem?_toArray] at hc
  unfold sgs
  rw [List.getElem?_map, hc]
  rfl
/-! ### what is told, as a function -/
abbrev Env := List (Nat × List Nat)
def getE (env : Env) (p : List Nat) : Option (List Nat) := (env.find? fun q => decide ([q.1] = p)).map (·.2)
def pieceE (env : Env) (p : List Nat) : List Nat := (getE env p).getD p
def fillE (env : Env) (parts : List (List Nat)) : List Nat := (parts.map (pieceE env)).flatten
def fil (fl : Fil) (b : Nat) : List Nat := (getF fl [b]).getD []
def stepE (ms : List Mv) (B : List Nat) (s : List Nat × Env) (a : Nat) : Option (List Nat × Env) := (findM ms s.1 a).map fun m => (m.to, B.map fun b => (b, fillE s.2 (partsOf (fil m.fl b))))
def runE (ms : List Mv) (B : List Nat) : List Nat × Env → List Nat → Option (List Nat × Env)
  | s, [] => some s
  | s, a :: r => (stepE ms B s a).bind fun s' => runE ms B s' r
theorem runE_app (ms : List Mv) (B : List Nat) : ∀ (xs ys : List Nat) (s : List Nat × Env), runE ms B s (xs ++ ys) = (runE ms B s xs).bind fun s' => runE ms B s' ys
  | [], ys, s => rfl
  | a :: r, ys, s => by
    show (stepE ms B s a).bind (fun s' => runE ms B s' (r ++ ys)) = ((stepE ms B s a).bind fun s' => runE ms B s' r).bind fun s' => runE ms B s' ys
    cases stepE ms B s a with
    | none => rfl
    | some s' => exact runE_app ms B r ys s'
def envOf (r : List Rb) : Env := r.map fun q => (q.b, q.w)
theorem get_env (p : List Nat) : ∀ r : List Rb, getE (envOf r) p = (findR r p).map (·.w)
  | [] => rfl
  | q :: r => by
    have ih := get_env p r
    unfold getE findR at *
    show (List.find? _ ((q.b, q.w) :: envOf r)).map _ = _
    rw [List.find?_cons, List.find?_cons]
    by_cases e : [q.b] = p
    · rw [decide_eq_true e]
      rfl
    · rw [decide_eq_false e]
      exact ih
theorem pieceW_E (r : List Rb) (p : List Nat) : pieceW r p = pieceE (envOf r) p := by
  unfold pieceW pieceE
  rw [get_env]
  cases findR r p <;> rfl
theorem fillW_E (r : List Rb) (parts : List (List Nat)) : fillW r parts = fillE (envOf r) parts := by
  unfold fillW fillE
  rw [List.map_congr_left fun p _ => pieceW_E r p]
/-! ### sizes -/
theorem pg_flat : ∀ (r cur : List Nat), (pg cur r).flatten = cur ++ r
  | [], cur => by
    rw [pg]
    split
    · rename_i h
      rw [h]
      rfl
    · simp
  | c :: r, cur => by
    by_cases h : isCap c = true
    · rw [pg_cap h, List.flatten_append, List.flatten_cons, pg_flat r []]
      split
      · rename_i h2
        rw [h2]
        rfl
      · simp
    · rw [pg_low (Bool.eq_false_iff.mpr h), pg_flat r (cur ++ [c])]
      simp
theorem parts_flat (f : List Nat) : (partsOf f).flatten = f := pg_flat f []
/-- cur holds no box -/
theorem pg_count {x : Nat} (hx : isCap x = true) : ∀ (r cur : List Nat), (∀ c ∈ cur, isCap c = false) → (pg cur r).count [x] = r.count x
  | [], cur, hc => by
    rw [pg]
    split
    · rfl
    · rename_i hne
      have : ([cur] : List (List Nat)).count [x] = 0 := by
        rw [List.count_eq_zero]
        intro z
        have z' := List.mem_singleton.mp z
        have := hc x (by rw [← z']; exact List.mem_singleton.mpr rfl)
        rw [hx] at this
        cases this
      rw [this]
      rfl
  | c :: r, cur, hc => by
    by_cases h : isCap c = true
    · rw [pg_cap h, List.count_append, List.count_cons, pg_count hx r [] (fun c hc => (nomatch hc)), List.count_cons]
      have h0 : (if cur = [] then ([] : List (List Nat)) else [cur]).count [x] = 0 := by
        split
        · rfl
        · rw [List.count_eq_zero]
          intro z
          have z' := List.mem_singleton.mp z
          have := hc x (by rw [← z']; exact List.mem_singleton.mpr rfl)
          rw [hx] at this
          cases this
      rw [h0]
      have : ([c] == [x]) = (c == x) := by simp
      rw [this]
      omega
    · have h' := Bool.eq_false_iff.mpr h
      rw [pg_low h', pg_count hx r (cur ++ [c]) (fun d hd => by
        rcases List.mem_append.mp hd with z | z
        · exact hc d z
        · rw [List.mem_singleton.mp z]; exact h'), List.count_cons]
      have : (c == x) = false := by
        rw [beq_eq_false_iff_ne]
        intro z
        rw [z, hx] at h'
        cases h'
      rw [this]
      rfl
theorem parts_count {x : Nat} (hx : isCap x = true) (f : List Nat) : (partsOf f).count [x] = f.count x := pg_count hx f [] (fun c hc => (nomatch hc))
theorem parts_len (f : List Nat) : (partsOf f).length ≤ 2 * f.length + 1 := by
  have := pg_len f []
  unfold partsOf
  omega
theorem fillN_app (r : List Rb) (a b : List (List Nat)) : fillN r (a ++ b) = fillN r a + fillN r b := by
  unfold fillN
  rw [List.map_append, List.sum_append]
theorem fillN_le : ∀ (r : List Rb) (L : List (List Nat)), (∀ q ∈ r, L.count [q.b] ≤ 1) → fillN r L ≤ L.length + (r.map (·.n)).sum
  | [], L, h0 => by
    clear h0
    have : fillN [] L = L.length := by
      unfold fillN
      induction L with
      | nil => rfl
      | cons p L ih =>
        rw [List.map_cons, List.sum_cons, ih, List.length_cons]
        show 1 + _ = _
        omega
    rw [this]
    exact Nat.le_add_right _ _
  | q :: r, L, h => by
    have ih := fillN_le r L fun q' hq' => h q' (List.mem_cons_of_mem _ hq')
    have key : fillN (q :: r) L ≤ fillN r L + q.n * L.count [q.b] := by
      clear ih h
      unfold fillN
      induction L with
      | nil => exact Nat.zero_le _
      | cons p L ihL =>
        rw [List.map_cons, List.sum_cons, List.map_cons, List.sum_cons, List.count_cons]
        have hp : pieceN (q :: r) p ≤ pieceN r p + (if (p == [q.b]) = true then q.n else 0) := by
          unfold pieceN findR
          rw [List.find?_cons]
          by_cases e : [q.b] = p
          · rw [decide_eq_true e, if_pos (by rw [beq_iff_eq]; exact e.symm)]
            show q.n + 1 ≤ _
            split <;> omega
          · rw [decide_eq_false e]
            exact Nat.le_add_right _ _
        rw [Nat.mul_add]
        have hm : q.n * (if (p == [q.b]) = true then 1 else 0) = (if (p == [q.b]) = true then q.n else 0) := by
          split
          · rw [Nat.mul_one]
          · rw [Nat.mul_zero]
        rw [hm]
        omega
    have h1 := h q List.mem_cons_self
    have h2 : q.n * L.count [q.b] ≤ q.n := by
      have := Nat.mul_le_mul_left q.n h1
      rw [Nat.mul_one] at this
      exact this
    rw [List.map_cons, List.sum_cons]
    omega
theorem fillW_le : ∀ (r : List Rb) (L : List (List Nat)), (∀ q ∈ r, L.count [q.b] ≤ 1) → (fillW r L).length ≤ L.flatten.length + (r.map (·.w.length)).sum
  | [], L, h0 => by
    clear h0
    have : fillW [] L = L.flatten := by
      unfold fillW
      induction L with
      | nil => rfl
      | cons p L ih => rw [List.map_cons, List.flatten_cons, ih, List.flatten_cons]; rfl
    rw [this]
    exact Nat.le_add_right _ _
  | q :: r, L, h => by
    have ih := fillW_le r L fun q' hq' => h q' (List.mem_cons_of_mem _ hq')
    have key : (fillW (q :: r) L).length ≤ (fillW r L).length + q.w.length * L.count [q.b] := by
      clear ih h
      unfold fillW
      induction L with
      | nil => exact Nat.zero_le _
      | cons p L ihL =>
        rw [List.map_cons, List.flatten_cons, List.map_cons, List.flatten_cons, List.count_cons, List.length_append, List.length_append]
        have hp : (pieceW (q :: r) p).length ≤ (pieceW r p).length + (if (p == [q.b]) = true then q.w.length else 0) := by
          unfold pieceW findR
          rw [List.find?_cons]
          by_cases e : [q.b] = p
          · rw [decide_eq_true e, if_pos (by rw [beq_iff_eq]; exact e.symm)]
            exact Nat.le_add_left _ _
          · rw [decide_eq_false e]
            exact Nat.le_add_right _ _
        rw [Nat.mul_add]
        have hm : q.w.length * (if (p == [q.b]) = true then 1 else 0) = (if (p == [q.b]) = true then q.w.length else 0) := by
          split
          · rw [Nat.mul_one]
          · rw [Nat.mul_zero]
        rw [hm]
        omega
    have h1 := h q List.mem_cons_self
    have h2 : q.w.length * L.count [q.b] ≤ q.w.length := by
      have := Nat.mul_le_mul_left q.w.length h1
      rw [Nat.mul_one] at this
      exact this
    rw [List.map_cons, List.sum_cons]
    omega
/-- all parts of all boxes, in a row -/
def allP (B : List Nat) (fl : Fil) : List (List Nat) := B.flatMap fun b => partsOf (fil fl b)
structure MvGood (B : List Nat) (m : Mv) : Prop where
  one : ∀ x ∈ B, ((B.map (fil m.fl)).flatten).count x ≤ 1
  len : (B.map (fil m.fl)).flatten.length ≤ 1000
  ti : (B.map (fil m.fl)).flatten.length ≤ 7 * B.length
theorem allP_count {fl : Fil} {x : Nat} (hx : isCap x = true) : ∀ B : List Nat, (allP B fl).count [x] = ((B.map (fil fl)).flatten).count x
  | [] => rfl
  | b :: B => by
    unfold allP
    rw [List.flatMap_cons, List.count_append, List.map_cons, List.flatten_cons, List.count_append, parts_count hx]
    have := allP_count (fl := fl) hx B
    unfold allP at this
    rw [this]
theorem allP_len {fl : Fil} : ∀ B : List Nat, (allP B fl).length ≤ 2 * ((B.map (fil fl)).flatten).length + B.length
  | [] => Nat.le_refl _
  | b :: B => by
    unfold allP
    rw [List.flatMap_cons, List.length_append, List.map_cons, List.flatten_cons, List.length_append, List.length_cons]
    have := allP_len (fl := fl) B
    unfold allP at this
    have h2 := parts_len (fil fl b)
    omega
theorem allP_flat {fl : Fil} : ∀ B : List Nat, (allP B fl).flatten = (B.map (fil fl)).flatten
  | [] => rfl
  | b :: B => by
    unfold allP
    rw [List.flatMap_cons, List.flatten_append, List.map_cons, List.flatten_cons, parts_flat]
    have := allP_flat (fl := fl) B
    unfold allP at this
    rw [this]
theorem fillE_app (env : Env) (a b : List (List Nat)) : fillE env (a ++ b) = fillE env a ++ fillE env b := by
  unfold fillE
  rw [List.map_append, List.flatten_append]
theorem sumE {fl : Fil} (env : Env) : ∀ B : List Nat, ((B.map fun b => (b, fillE env (partsOf (fil fl b)))).map (·.2.length)).sum = (fillE env (allP B fl)).length
  | [] => rfl
  | b :: B => by
    have := sumE (fl := fl) env B
    unfold allP at *
    rw [List.flatMap_cons, fillE_app, List.length_append, ← this]
    rfl
theorem sum_env (r : List Rb) : (r.map (·.w.length)).sum = ((envOf r).map (·.2.length)).sum := by
  unfold envOf
  rw [List.map_map]
  rfl
theorem fil_len {B : List Nat} {fl : Fil} {b : Nat} (hb : b ∈ B) : (fil fl b).length ≤ ((B.map (fil fl)).flatten).length := by
  induction B with
  | nil => exact (nomatch hb)
  | cons c B ih =>
    rw [List.map_cons, List.flatten_cons, List.length_append]
    rcases List.mem_cons.mp hb with e | e
    · rw [e]
      exact Nat.le_add_right _ _
    · exact Nat.le_trans (ih e) (Nat.le_add_left _ _)
/-- what the moves' dict keeps under a key; none of its dicts is the one at e -/
def CacheV (H : Hp) (ms : List Mv) (B : List Nat) (e : Addr) (c : List Nat) (a : Nat) (v : V) : Prop := match findM ms c a with
  | none => v = .non
  | some m => ∃ t d kv, v = .ref t ∧ H t = some (.tup [.str (S m.to), .ref d]) ∧ H d = some (.dK kv) ∧ PtsAt H kv B m.fl ∧ d ≠ e
theorem CacheV.but {H H' : Hp} {g x : Addr} {kvs : List (List Key × V)} (hg : H g = some (.dT kvs)) (s : But g H H') {ms : List Mv} {B c : List Nat} {a : Nat} {v : V} (h : CacheV H ms B x c a v) : CacheV H' ms B x c a v := by
  unfold CacheV at *
  cases e : findM ms c a with
  | none =>
    rw [e] at h
    exact h
  | some m =>
    rw [e] at h
    obtain ⟨t, d, kv, e1, h1, h2, h3, h4⟩ := h
    exact ⟨t, d, kv, e1, s _ _ h1 (ne_of h1 hg (by intro z; cases z)), s _ _ h2 (ne_of h2 hg (by intro z; cases z)), Paired.mono (fun _ _ ⟨e, a, e2, h⟩ => ⟨e, a, e2, s _ _ h (ne_of h hg (by intro z; cases z))⟩) h3, h4⟩
theorem CacheV.new {H : Hp} {x y : Addr} (n : H y = none) {ms : List Mv} {B c : List Nat} {a : Nat} {v : V} (h : CacheV H ms B x c a v) : CacheV H ms B y c a v := by
  unfold CacheV at *
  cases e : findM ms c a with
  | none =>
    rw [e] at h
    exact h
  | some m =>
    rw [e] at h
    obtain ⟨t, d, kv, e1, h1, h2, h3, _⟩ := h
    exact ⟨t, d, kv, e1, h1, h2, h3, ne_of_none h2 n⟩
theorem mkey_inj {c c' : List Nat} {a a' : Nat} (h : mkey c a = mkey c' a') : c = c' ∧ a = a' := by
  unfold mkey at h
  injection h with h1 h2
  injection h2 with h3 _
  have := key_S.mp h3
  injection this with h4 _
  exact ⟨key_S.mp h1, h4⟩
structure PgOk (B : List Nat) (ms : List Mv) (es : Fil) : Prop where
  nB : B.Nodup
  cB : ∀ x ∈ B, isCap x = true
  lB : B.length ≤ 6
  fl : ∀ m ∈ ms, ∀ q ∈ m.fl, q.2.length ≤ 1000
  good : ∀ m ∈ ms, MvGood B m
  en : ∀ c f, getF es c = some f → f.length ≤ 1000 ∧ ∀ x ∈ B, f.count x ≤ 1
  sg : ∀ m ∈ ms, ∀ q ∈ m.fl, ∀ c ∈ q.2, isCap c = true → c ∈ B
  esg : ∀ c f, getF es c = some f → ∀ x ∈ f, isCap x = true → x ∈ B
  eti : ∀ c f, getF es c = some f → f.length ≤ 4 * B.length + 3
def toldE (ms : List Mv) (B : List Nat) (es : Fil) (pl0 : List Nat) (t : List Nat) : Option (List Nat) := (runE ms B (pl0, B.map fun b => (b, [])) t).bind fun s => (getF es s.1).map fun f => fillE s.2 (partsOf f)
def optV : Option (List Nat) → V
  | none => .non
  | some x => .str (S x)
def envK (env : Env) : List (Key × V) := env.map fun q => (Sum.inr (S [q.1]), V.str (S q.2))
end Tb

set_option Elab.async false
set_option linter.all false
set_option maxRecDepth 100000
set_option maxHeartbeats 4000000
namespace Tb
open PySem PySem.Spec PyProof.Rows L2 TL
open PySem.Builtin PySem.Builtin.Str in
theorem find_S {f : List Nat} {b : Nat} (h : b ∈ f) : ∃ i : Nat, Txt.find (S f) (S [b]) = (i : Int) ∧ f[i]? = some b := by
  unfold Txt.find
  have h1 := StrLaws.found_one (S f) b
  rw [show decide (b ∈ (S f).cps.toList) = true from decide_eq_true h] at h1
  have h1' : (!(occurrences (S f) (S [b]) 0 (S f).length 1).isEmpty) = true := h1
  cases ho : occurrences (S f) (S [b]) 0 (S f).length 1 with
  | nil =>
    rw [ho] at h1'
    cases h1'
  | cons i r =>
    have hs := StrLaws.occ_spec (S f) (S [b]) 0 (S f).length 1 i (by rw [ho]; exact .head _)
    refine ⟨i, rfl, ?_⟩
    have e := strSub_of_subAt hs.2
    rw [strSub_mk] at e
    have e1 := congrArg tl e
    have e2 : (f.drop i).take (i + 1 - i) = [b] := e1
    rw [show i + 1 - i = 1 by omega] at e2
    cases hd : f.drop i with
    | nil =>
      rw [hd] at e2
      cases e2
    | cons x t =>
      rw [hd] at e2
      have hx : x = b := by
        injection e2
      have h3 := congrArg (fun l => l[0]?) hd
      have h4 : (f.drop i)[0]? = some x := h3
      rw [List.getElem?_drop] at h4
      rw [← hx]
      exact h4
/-! ### where the boxes of a filling stand -/
def cp : Nat → List Nat → List Nat
  | _, [] => []
  | o, c :: r => if isCap c = true then o :: cp (o + 1) r else cp (o + 1) r
theorem cp_mem {x : Nat} : ∀ {f : List Nat} {o : Nat}, x ∈ cp o f ↔ ∃ i c, f[i]? = some c ∧ isCap c = true ∧ x = o + i
  | [], o => ⟨fun h => (nomatch h), fun ⟨i, c, h, _⟩ => by rw [List.getElem?_nil] at h; cases h⟩
  | c :: r, o => by
    have ih := cp_mem (x := x) (f := r) (o := o + 1)
    have rest : (∃ i d, r[i]? = some d ∧ isCap d = true ∧ x = o + 1 + i) → ∃ i d, (c :: r)[i]? = some d ∧ isCap d = true ∧ x = o + i := fun ⟨i, d, h1, h2, h3⟩ => ⟨i + 1, d, h1, h2, by omega⟩
    by_cases h : isCap c = true
    · rw [cp, if_pos h, List.mem_cons]
      constructor
      · rintro (e | e)
        · exact ⟨0, c, rfl, h, by omega⟩
        · exact rest (ih.mp e)
      · rintro ⟨i, d, h1, h2, h3⟩
        cases i with
        | zero => exact .inl (by omega)
        | succ i => exact .inr (ih.mpr ⟨i, d, h1, h2, by omega⟩)
    · rw [cp, if_neg h]
      constructor
      · exact fun e => rest (ih.mp e)
      · rintro ⟨i, d, h1, h2, h3⟩
        cases i with
        | zero =>
          have e : c = d := Option.some.inj h1
          rw [e] at h
          exact absurd h2 h
        | succ i => exact ih.mpr ⟨i, d, h1, h2, by omega⟩
theorem cp_ge {x o : Nat} {f : List Nat} (h : x ∈ cp o f) : o ≤ x := by
  obtain ⟨i, _, _, _, e⟩ := cp_mem.mp h
  omega
theorem cp_lt : ∀ (f : List Nat) (o : Nat), (cp o f).Pairwise (· < ·)
  | [], _ => List.Pairwise.nil
  | c :: r, o => by
    have ih := cp_lt r (o + 1)
    by_cases h : isCap c = true
    · rw [cp, if_pos h]
      exact List.pairwise_cons.mpr ⟨fun x hx => cp_ge hx, ih⟩
    · rw [cp, if_neg h]
      exact ih
theorem cp_len : ∀ (f : List Nat) (o : Nat), (cp o f).length ≤ f.length
  | [], _ => Nat.le_refl _
  | c :: r, o => by
    have ih := cp_len r (o + 1)
    by_cases h : isCap c = true
    · rw [cp, if_pos h, List.length_cons, List.length_cons]
      omega
    · rw [cp, if_neg h, List.length_cons]
      omega
theorem cp_next : ∀ {g : List Nat} {o a : Nat} {rest : List Nat}, cp o g = a :: rest → ∃ low c r, g = low ++ c :: r ∧ a = o + low.length ∧ (∀ d ∈ low, isCap d = false) ∧ isCap c = true ∧ rest = cp (a + 1) r
  | [], _, _, _, h => nomatch h
  | c :: r, o, a, rest, h => by
    by_cases hc : isCap c = true
    · rw [cp, if_pos hc] at h
      injection h with h1 h2
      exact ⟨[], c, r, rfl, by rw [← h1]; rfl, fun d hd => (nomatch hd), hc, by rw [← h1]; exact h2.symm⟩
    · rw [cp, if_neg hc] at h
      obtain ⟨low, d, r', e, ea, hl, hd, hr⟩ := cp_next h
      refine ⟨c :: low, d, r', by rw [e]; rfl, by rw [List.length_cons]; omega, fun x hx => ?_, hd, hr⟩
      rcases List.mem_cons.mp hx with z | z
      · rw [z]
        exact Bool.eq_false_iff.mpr hc
      · exact hl x z
theorem cp_nil : ∀ {g : List Nat} {o : Nat}, cp o g = [] → ∀ d ∈ g, isCap d = false
  | [], _, _ => fun d hd => nomatch hd
  | c :: r, o, h => by
    by_cases hc : isCap c = true
    · rw [cp, if_pos hc] at h
      cases h
    · rw [cp, if_neg hc] at h
      intro d hd
      rcases List.mem_cons.mp hd with z | z
      · rw [z]
        exact Bool.eq_false_iff.mpr hc
      · exact cp_nil h d z
theorem pg_lows : ∀ {low : List Nat} (cur r : List Nat), (∀ d ∈ low, isCap d = false) → pg cur (low ++ r) = pg (cur ++ low) r
  | [], cur, r, _ => by rw [List.append_nil]; rfl
  | c :: low, cur, r, h => by
    rw [List.cons_append, pg_low (h c List.mem_cons_self), pg_lows (cur ++ [c]) r (fun d hd => h d (List.mem_cons_of_mem _ hd))]
    simp
theorem pg_next {low r : List Nat} {c : Nat} (h : ∀ d ∈ low, isCap d = false) (hc : isCap c = true) : pg [] (low ++ c :: r) = (if low = [] then [] else [low]) ++ ([c] :: pg [] r) := by
  rw [pg_lows [] _ h, List.nil_append, pg_cap hc]
theorem pg_last {g : List Nat} (h : ∀ d ∈ g, isCap d = false) : pg [] g = if g = [] then [] else [g] := by
  have := pg_lows [] [] h
  rw [List.append_nil, List.nil_append] at this
  rw [this, pg]
theorem once {f : List Nat} {c i j : Nat} (h : f.count c ≤ 1) (hi : f[i]? = some c) (hj : f[j]? = some c) : i = j := by
  have key : ∀ {i j : Nat}, f[i]? = some c → f[j]? = some c → i < j → False := fun {i j} hi hj hlt => by
    have e1 : f = f.take j ++ f.drop j := (List.take_append_drop j f).symm
    have m1 : c ∈ f.take j := by
      refine List.mem_of_getElem? (i := i) ?_
      rw [List.getElem?_take, if_pos hlt]
      exact hi
    have m2 : c ∈ f.drop j := by
      refine List.mem_of_getElem? (i := 0) ?_
      rw [List.getElem?_drop]
      exact hj
    have e2 := congrArg (List.count c) e1
    rw [List.count_append] at e2
    have := List.count_pos_iff.mpr m1
    have := List.count_pos_iff.mpr m2
    omega
  rcases Nat.lt_trichotomy i j with h1 | h1 | h1
  · exact (key hi hj h1).elim
  · exact h1
  · exact (key hj hi h1).elim
/-- the places that are found, in order, are those of the boxes -/
theorem found_cp {f B : List Nat} {ns : List Int} (nB : B.Nodup) (cB : ∀ x ∈ B, isCap x = true) (hs : ∀ c ∈ f, isCap c = true → c ∈ B) (h1 : ∀ x ∈ B, f.count x ≤ 1)
    (hp : ns.Perm ((B.filter fun b => decide (b ∈ f)).map fun b => Txt.find (S f) (S [b]))) (hl : ns.Pairwise (· ≤ ·)) : ns = (cp 0 f).map Int.ofNat := by
  have hB : ∀ b ∈ B.filter (fun b => decide (b ∈ f)), b ∈ B ∧ ∃ i : Nat, Txt.find (S f) (S [b]) = (i : Int) ∧ f[i]? = some b := fun b hb => by
    obtain ⟨h2, h3⟩ := List.mem_filter.mp hb
    exact ⟨h2, find_S (of_decide_eq_true h3)⟩
  have nd1 : ((B.filter fun b => decide (b ∈ f)).map fun b => Txt.find (S f) (S [b])).Nodup := by
    have nf : (B.filter fun b => decide (b ∈ f)).Nodup := List.filter_sublist.nodup nB
    refine List.pairwise_map.mpr (List.Pairwise.imp_of_mem (fun {a b} ha hb hab z => ?_) nf)
    obtain ⟨_, i, e1, e2⟩ := hB a ha
    obtain ⟨_, j, e3, e4⟩ := hB b hb
    rw [e1, e3] at z
    have z : i = j := by omega
    rw [z, e4] at e2
    exact hab (Option.some.inj e2).symm
  have nd2 : ((cp 0 f).map Int.ofNat).Nodup := by
    refine List.pairwise_map.mpr ((cp_lt f 0).imp fun {a b} h z => ?_)
    have z : (a : Int) = (b : Int) := z
    omega
  have perm : ((B.filter fun b => decide (b ∈ f)).map fun b => Txt.find (S f) (S [b])).Perm ((cp 0 f).map Int.ofNat) := by
    refine (List.perm_ext_iff_of_nodup nd1 nd2).mpr fun x => ?_
    constructor
    · intro hx
      obtain ⟨b, hb, rfl⟩ := List.mem_map.mp hx
      obtain ⟨hbB, i, e1, e2⟩ := hB b hb
      rw [e1]
      exact List.mem_map.mpr ⟨i, cp_mem.mpr ⟨i, b, e2, cB b hbB, by omega⟩, rfl⟩
    · intro hx
      obtain ⟨y, hy, rfl⟩ := List.mem_map.mp hx
      obtain ⟨i, c, e1, e2, e3⟩ := cp_mem.mp hy
      have hcf : c ∈ f := List.mem_of_getElem? e1
      have hcB := hs c hcf e2
      refine List.mem_map.mpr ⟨c, List.mem_filter.mpr ⟨hcB, decide_eq_true hcf⟩, ?_⟩
      obtain ⟨j, e4, e5⟩ := find_S hcf
      have : i = j := once (h1 c hcB) e1 e5
      show Txt.find (S f) (S [c]) = (y : Int)
      rw [e4]
      omega
  refine List.Perm.eq_of_pairwise (fun a b _ _ h1 h2 => Int.le_antisymm h1 h2) hl ?_ (hp.trans perm)
  refine List.pairwise_map.mpr ((cp_lt f 0).imp fun {a b} h => ?_)
  show (a : Int) ≤ (b : Int)
  omega
end Tb

set_option Elab.async false
set_option linter.all false
set_option maxRecDepth 100000
set_option maxHeartbeats 4000000
namespace Tb
open PySem PySem.Spec PyProof.Rows L2 TL
/-! ### a list comprehension with a test over anything that is walked -/
section
variable {te : TE} {tt : TT} {vs : List Nat} {σ : L2.St} {H1 : Hp} {D : Addr} {Qd : Hp → Prop} {sl : Nat} {J : It} {n : Nat} {G : Hp → Prop} {Y : Nat → Hp → V → Hp → Prop}
theorem lc_filtW {xs : List V} (keep : V → Bool) (g : V → V) (w : Walk J n G Y) (hn : n = xs.length) (hY : ∀ i H x H', Y i H x H' → H' = H ∧ xs[i]? = some x) (hG : ∀ H', Same H1 H' → G H') (nD : H1 D = none) (hl : xs.length < sizeLine)
    (ht : ∀ x ∈ xs, ∀ H' (R : Bool → Hp → Prop), Same H1 H' → R (keep x) H' → tt ((wipe σ vs).set sl (some x)) H' R)
    (he : ∀ x ∈ xs, keep x = true → ∀ H' (R : VK), Same H1 H' → (∀ H'', Same H' H'' → R (g x) H'') → te ((wipe σ vs).set sl (some x)) H' R)
    (hd : ∀ H', Same H1 H' → H' D = some (.lst ((xs.filter keep).map g)) → Qd H') (hw : ∀ x, wipe ((wipe σ vs).set sl (some x)) vs = wipe σ vs := by intro _; rfl) :
    ∃ W : Nat → Nat → Hp → Prop, (∃ m, W 0 m (upd H1 D (.lst []))) ∧ ∀ i m H, W i m H →
      (J.stop i H ∧ Qd H) ∨ (J.go i H ∧ ∃ Nx : Hp → Prop, (∀ H', Nx H' → ∃ m', m' < m ∧ W (i + 1) m' H') ∧ ∀ x H', J.yld i H x H' → gName sl x (wipe σ vs) H' fun σ2 H2 => wipe σ2 vs = wipe σ vs ∧ tt σ2 H2 fun b H3 =>
        if b = true then te σ2 H3 fun y H4 => ∃ acc, H4 D = some (.lst acc) ∧ acc.length < sizeLine ∧ Nx (upd H4 D (.lst (acc ++ [y]))) else Nx H3) := by
  refine lc_it w (fun i H => Same H1 H ∧ H D = some (.lst (((xs.take i).filter keep).map g))) ⟨same_upd nD, upd_same⟩ (fun i H _ h => hG H h.1) ?_ ?_
  · rintro i x H H' hi ⟨s, e⟩ y
    obtain ⟨rfl, hx⟩ := hY _ _ _ _ y
    have hm := List.mem_of_getElem? hx
    have et : xs.take (i + 1) = xs.take i ++ [x] := by
      rw [List.take_add_one, hx]
      rfl
    refine ⟨hw _, tif (k := keep x) (fun R r => ht x hm _ R s r) (fun hk => he x hm hk _ _ s fun H2 s2 => ⟨_, s2 _ _ e, ?_, fun b o eb => ?_, ?_⟩) (fun hk => ⟨s, ?_⟩)⟩
    · rw [List.length_map]
      refine Nat.lt_of_le_of_lt (List.length_filter_le _ _) ?_
      rw [List.length_take]
      exact Nat.lt_of_le_of_lt (Nat.min_le_right _ _) hl
    · rw [upd_ne (ne_of_none eb nD)]
      exact s2 _ _ (s _ _ eb)
    · rw [upd_same, et, List.filter_append, List.map_append]
      simp only [List.filter_cons, hk, if_true, List.filter_nil]
      rfl
    · rw [e, et, List.filter_append]
      simp [List.filter_cons, hk]
  · rintro H ⟨s, e⟩
    subst hn
    rw [List.take_length] at e
    exact hd H s e
end
end Tb

set_option Elab.async false
set_option linter.all false
set_option maxRecDepth 100000
set_option maxHeartbeats 4000000
namespace Tb
open PySem PySem.Spec PyProof.Rows L2 TL
theorem pe_find {X : Cx} {o e : Expr} {to te : TE} {apos pos : Pos} (ho : PE X o to) (he : PE X e te) (hs : starEach [e] X.env = [(false, eval e X.env)] := by rfl) (hbase : attributeBase o "find" X.env (eval o X.env) = eval o X.env := by rfl) (hline : (apos.endLine == pos.line) = true := by rfl) :
    PE X (.Call (.Attribute o "find" apos) [e] [] pos) (tM1 (fun x xs H Q => ∃ a b, x = .str a ∧ xs = [.str b] ∧ Q (.int (Txt.find a b)) H) to te) :=
  pe_m1 PySem.F.slot_str_find PySem.F.type_str_find mt_find ho he hs hbase hline
section
variable {P : Program} {w : World} {K : PySem.W.Frag} {mg : Str → Option Value} {base : Heap}
abbrev nPartsOf : List Str := ["filling", "boxes", "parts", "start", "at", "box"]
theorem scPartsOf : FnScope nPartsOf ["filling", "boxes"] (defScope sPartsOf) := ⟨rfl, rfl, rfl, by decide +kernel, rfl, by decide +kernel, by decide +kernel⟩
def spPartsOf : Sp := fun vs H Q _ => ∃ f B : List Nat, vs = [.str (S f), .str (S B)] ∧ f.length ≤ 1000 ∧ B.length ≤ 26 ∧ B.Nodup ∧ (∀ x ∈ B, isCap x = true) ∧ (∀ c ∈ f, isCap c = true → c ∈ B) ∧ (∀ x ∈ B, f.count x ≤ 1) ∧ New H (.lst (txs (partsOf f))) Q
theorem ok_partsOf {f : Addr} {fd : FuncData} {k : Nat} (F : Fun K "parts_of" "parts_of" sPartsOf f fd) (ms : mg "sorted" = none) (ml : mg "len" = none) : FnOk P w K mg base CX0 (k + 1) f fd ["filling", "boxes"] spPartsOf := by
  refine F.ok scPartsOf (fun vs H Q E h => ?_) (fun cdv A outer s H vs Q E hr h => ?_)
  · obtain ⟨cs, B, rfl, _⟩ := h
    rfl
  · obtain ⟨cs, B, rfl, hl, lB, nB, cB, hs, h1, q⟩ := h
    refine ⟨_, pss_cons (ps_set (i := 2) scPartsOf.nd rfl (.inl rfl) (pe_lstS pa_nil))
      (pss_cons (ps_set (i := 3) scPartsOf.nd rfl (.inl rfl) pe_int)
      (pss_cons (ps_for PassesOwn.never rfl (pi_list (pe_callB cr_sortedI (by rfl) ms (by decide +kernel) (pa_cons (pe_lc (own := [("box", 5)]) (g := gName 5) (tt := tTest (tOp (fun x y H Q => ∃ (c : Nat) (z : Str), x = .str ⟨#[c]⟩ ∧ y = .str z ∧ Q (.bl (decide (c ∈ z.cps.toList))) H) (tVar 5) (tVar 0))) (te := tM1 (fun x xs H Q => ∃ a b, x = .str a ∧ xs = [.str b] ∧ Q (.int (Txt.find a b)) H) (tVar 0) (tVar 5)) rfl scPartsOf.nd
            (pi_str (pv 1)) (blkOk_by (own := [("box", 5)]) (N := nPartsOf) (sc := defScope sPartsOf) (by decide +kernel)) (fun _ _ _ _ _ => pg_name (i := 5) scPartsOf.nd rfl (.inl rfl)) (fun _ _ _ _ _ => pts_one (pt_cmpR op_in_sign (pv 5) (pv 0) (by rfl))) (fun _ _ _ _ _ => pe_find (pv 0) (pv 5))) pa_nil))) (pg_name (i := 4) scPartsOf.nd rfl (.inl rfl))
          (C8.pss_cut (ps_if (pt_cmpR op_lt (pv 3) (pv 4) (nomark _)) (pss_one (ps_expr (pe_bm PySem.F.plainAttrs_list PySem.F.slot_list_append PySem.F.type_list_append mt_append (pv 2) (pa_cons (pe_slice sl_str (pv 0) (po_some (pv 3)) (po_some (pv 4))) pa_nil)))) pss_nil)
          (pss_cons (ps_expr (pe_bm PySem.F.plainAttrs_list PySem.F.slot_list_append PySem.F.type_list_append mt_append (pv 2) (pa_cons (pe_ix ix_str (pv 0) (pv 4) (fun _ _ => rfl)) pa_nil)))
          (pss_one (ps_set (i := 3) scPartsOf.nd rfl (.inl rfl) (pe_op op_add (pv 4) pe_int))))))
      (C8.pss_cut (ps_if (pt_cmpR op_lt (pv 3) (pe_callB call_len_str (by rfl) ml PySem.boot_len (pa_cons (pv 0) pa_nil)) (nomark _)) (pss_one (ps_expr (pe_bm PySem.F.plainAttrs_list PySem.F.slot_list_append PySem.F.type_list_append mt_append (pv 2) (pa_cons (pe_slice sl_str (pv 0) (po_some (pv 3)) po_none) pa_nil)))) pss_nil)
      (pss_one (ps_ret (pv 2)))))), ?_⟩
    have big : (10000 : Nat) ≤ sizeLine := by decide
    have lz : (S cs).length ≤ sizeLine := by
      rw [len_S]
      exact Nat.le_trans hl (by decide)
    refine ⟨Nat.zero_le _, fun p H1 s1 n1 e1 => ?_⟩
    refine ⟨_, rfl, S B, rfl, fun D nD => lc_filtW (xs := sgs B) (fun v => match v with | .str x => decide ((tl x).headD 0 ∈ cs) | _ => false) (fun v => match v with | .str x => .int (Txt.find (S cs) x) | _ => .non) walk_str (by unfold sgs; rw [List.length_map]; rfl) (fun i H x H' y => str_item y) (fun _ _ => trivial) nD ?_ ?_ ?_ ?_⟩
    · unfold sgs
      rw [List.length_map]
      exact small1000 (by omega)
    · intro x hx H' R s' r
      obtain ⟨b, hb, rfl⟩ := List.mem_map.mp hx
      exact ⟨_, rfl, _, rfl, b, _, rfl, rfl, _, rfl, r⟩
    · intro x hx _ H' R s' r
      obtain ⟨b, hb, rfl⟩ := List.mem_map.mp hx
      exact ⟨_, rfl, ⟨_, rfl⟩, _, rfl, _, _, rfl, rfl, r H' (fun _ _ e => e)⟩
    intro H2 s2 e2
    have ens : ((sgs B).filter fun v => match v with | .str x => decide ((tl x).headD 0 ∈ cs) | _ => false).map (fun v => match v with | .str x => .int (Txt.find (S cs) x) | _ => .non) = ((B.filter fun b => decide (b ∈ cs)).map fun b => Txt.find (S cs) (S [b])).map V.int := by
      unfold sgs
      rw [List.filter_map, List.map_map, List.map_map]
      rfl
    rw [ens] at e2
    refine ⟨D, _, rfl, SqL.of e2, fun ns a hpm hle na => ?_⟩
    have hns := found_cp nB cB hs h1 hpm hle
    subst hns
    have e3 : ∀ {b : Addr} {o : HO}, H1 b = some o → (upd H2 a (.lst (((cp 0 cs).map Int.ofNat).map V.int))) b = some o := fun {b o} e => by
      rw [upd_ne (ne_of_none (s2 _ _ e) na)]
      exact s2 _ _ e
    have s3 : Same H (upd H2 a (.lst (((cp 0 cs).map Int.ofNat).map V.int))) := fun b o e => e3 (s1 _ _ e)
    have ep3 := e3 e1
    have ea3 : (upd H2 a (.lst (((cp 0 cs).map Int.ofNat).map V.int))) a = some (.lst (((cp 0 cs).map Int.ofNat).map V.int)) := upd_same
    have nap : a ≠ p := fun z => by
      rw [z] at na
      rw [s2 _ _ e1] at na
      cases na
    generalize upd H2 a (.lst (((cp 0 cs).map Int.ofNat).map V.int)) = H3 at s3 ep3 ea3
    have lcp : (cp 0 cs).length ≤ cs.length := cp_len cs 0
    refine ⟨a, rfl, ⟨_, SqL.of ea3⟩, for_list (K := K) (a := a) (xs := ((cp 0 cs).map Int.ofNat).map V.int) (fun j σ H' => ∃ (v4 : Option V) (st : Nat) (done : List (List Nat)), σ = [some (.str (S cs)), some (.str (S B)), some (.ref p), some (num st), v4, none] ∧ But p H3 H' ∧ H' p = some (.lst (txs done)) ∧ st ≤ cs.length ∧ (cp 0 cs).drop j = cp st (cs.drop st) ∧ partsOf cs = done ++ pg [] (cs.drop st) ∧ done.length ≤ 2 * j)
      ⟨none, 0, [], rfl, But.refl _ _, ep3, Nat.zero_le _, rfl, rfl, Nat.le_refl _⟩ (fun j σ H' _ ⟨_, _, _, _, b, _⟩ => SqL.of (b _ _ ea3 nap)) ?_ ?_⟩
    · rintro j y σ H4 hj ⟨v4, st, done, rfl, b4, e4, hst, hcp, hpt, hdn⟩
      obtain ⟨at', hat, rfl⟩ : ∃ at', (cp 0 cs)[j]? = some at' ∧ y = num at' := by
        rw [List.getElem?_map, List.getElem?_map] at hj
        cases z : (cp 0 cs)[j]? with
        | none => rw [z] at hj; cases hj
        | some x => rw [z] at hj; exact ⟨x, rfl, (Option.some.inj hj).symm⟩
      have hj1 : j < cs.length := Nat.lt_of_lt_of_le (List.getElem?_eq_some_iff.mp hat).1 lcp
      have hd : (cp 0 cs).drop j = at' :: (cp 0 cs).drop (j + 1) := by
        obtain ⟨h5, h6⟩ := List.getElem?_eq_some_iff.mp hat
        rw [List.drop_eq_getElem_cons h5, h6]
      rw [hd] at hcp
      obtain ⟨low, c, r, eg, ea, hlow, hc, hr'⟩ := cp_next hcp.symm
      have lg := congrArg List.length eg
      rw [List.length_drop, List.length_append, List.length_cons] at lg
      have hat1 : at' < cs.length := by omega
      have hmid : (cs.drop st).take (at' - st) = low := by
        rw [eg, show at' - st = low.length by omega, List.take_left]
      have hcat : cs[at']? = some c := by
        have : (cs.drop st)[low.length]? = some c := by rw [eg, List.getElem?_append_right (Nat.le_refl _), Nat.sub_self]; rfl
        rw [List.getElem?_drop, ← ea] at this
        exact this
      have hrest : cs.drop (at' + 1) = r := by
        have h7 : (cs.drop st).drop (low.length + 1) = r := by
          rw [eg, List.drop_append]
          simp
        rw [List.drop_drop, show st + (low.length + 1) = at' + 1 by omega] at h7
        exact h7
      refine ⟨fun σ H' => ∃ done', σ = [some (.str (S cs)), some (.str (S B)), some (.ref p), some (num st), some (num at'), none] ∧ But p H3 H' ∧ H' p = some (.lst (txs done')) ∧ done' = done ++ (if low = [] then [] else [low]), ?_, ?_⟩
      · refine ⟨_, rfl, _, rfl, (st : Int), (at' : Int), rfl, rfl, _, rfl, ?_⟩
        by_cases hlt : st < at'
        · rw [decide_eq_true (show (st : Int) < (at' : Int) by omega)]
          refine iteT ⟨_, rfl, .inl ⟨rfl, _, SqL.of e4⟩, _, rfl, _, rfl, st, rfl, _, rfl, at', rfl, S cs, rfl, lz, p, _, _, rfl, rfl, e4, ?_, ?_⟩
          · unfold txs
            rw [List.length_map]
            omega
          · have hne : low ≠ [] := by
              intro z
              rw [z] at ea
              simp at ea
              omega
            refine ⟨done ++ [low], rfl, b4.trans (But.upd p _ _), ?_, by rw [if_neg hne]⟩
            rw [upd_same, cutS_mid cs st at' (by omega) (by omega), hmid]
            unfold txs
            rw [List.map_append]
            rfl
        · rw [decide_eq_false (show ¬ (st : Int) < (at' : Int) by omega)]
          have hnil : low = [] := List.length_eq_zero_iff.mp (by omega)
          exact iteF ⟨done, rfl, b4, e4, by rw [if_pos hnil, List.append_nil]⟩
      · rintro σ H5 ⟨done', rfl, b5, e5, hd'⟩
        have ld' : done'.length ≤ done.length + 1 := by
          rw [hd', List.length_append]
          split <;> simp
        refine ⟨_, rfl, .inl ⟨rfl, _, SqL.of e5⟩, _, rfl, _, rfl, S cs, (at' : Int), c, rfl, rfl, lz, atI_nat hcat, p, _, _, rfl, rfl, e5, ?_, ?_⟩
        · unfold txs
          rw [List.length_map]
          omega
        refine ⟨_, rfl, _, _, rfl, rfl, ?_⟩
        refine ⟨some (num at'), at' + 1, done' ++ [[c]], rfl, b5.trans (But.upd p _ _), ?_, by omega, ?_, ?_, ?_⟩
        · rw [upd_same]
          unfold txs
          rw [List.map_append]
          rfl
        · rw [hrest, ← hr']
        · rw [hpt, eg, pg_next hlow hc, hrest, hd']
          simp [List.append_assoc]
        · rw [List.length_append]
          show _ + 1 ≤ _
          omega
    · rintro σ H4 ⟨v4, st, done, rfl, b4, e4, hst, hcp, hpt, hdn⟩
      have lx : (((cp 0 cs).map Int.ofNat).map V.int).length = (cp 0 cs).length := by rw [List.length_map, List.length_map]
      rw [lx] at hcp hdn
      rw [List.drop_length] at hcp
      rw [pg_last (cp_nil hcp.symm)] at hpt
      have fin : ∀ H', But p H3 H' → H' p = some (.lst (txs (partsOf cs))) → Q (.ref p) H' := fun H' b e => q p H' (fun b' o eb => b b' o (s3 _ _ eb) (ne_of_none eb n1)) n1 e
      refine ⟨fun σ H' => σ = [some (.str (S cs)), some (.str (S B)), some (.ref p), some (num st), v4, none] ∧ But p H3 H' ∧ H' p = some (.lst (txs (partsOf cs))), ?_, ?_⟩
      · refine ⟨_, rfl, _, rfl, S cs, rfl, lz, (st : Int), _, rfl, rfl, _, rfl, ?_⟩
        rw [len_S]
        by_cases hlt : st < cs.length
        · rw [decide_eq_true (show (st : Int) < (cs.length : Int) by omega)]
          refine iteT ⟨_, rfl, .inl ⟨rfl, _, SqL.of e4⟩, _, rfl, _, rfl, st, rfl, S cs, rfl, lz, p, _, _, rfl, rfl, e4, ?_, ?_⟩
          · unfold txs
            rw [List.length_map]
            omega
          · have hne : cs.drop st ≠ [] := by
              intro z
              have := congrArg List.length z
              rw [List.length_drop] at this
              simp at this
              omega
            refine ⟨rfl, b4.trans (But.upd p _ _), ?_⟩
            rw [upd_same, cutS_drop, hpt, if_neg hne]
            unfold txs
            rw [List.map_append]
            rfl
        · rw [decide_eq_false (show ¬ (st : Int) < (cs.length : Int) by omega)]
          refine iteF ⟨rfl, b4, ?_⟩
          rw [hpt, if_pos (List.drop_eq_nil_of_le (by omega)), List.append_nil]
          exact e4
      · rintro σ H5 ⟨rfl, b5, e5⟩
        exact ⟨_, rfl, fin H5 b5 e5⟩
end
end Tb

set_option Elab.async false
set_option linter.all false
set_option maxRecDepth 100000
set_option maxHeartbeats 4000000
namespace Tb
open PySem PySem.Spec PyProof.Rows L2 TL
/-! ### ropes that are still texts: of at most 500 letters -/
/-- an expression that is never reached -/
def tNo : TE := fun _ _ _ => False
theorem pe_dead {X : Cx} {e : Expr} : PE X e tNo := ⟨fun _ _ _ _ _ _ h => h.elim⟩
section
variable {P : Program} {w : World} {K : PySem.W.Frag} {mg : Str → Option Value} {base : Heap}
abbrev nLenOf : List Str := ["rope"]
theorem scLenOf : FnScope nLenOf ["rope"] (defScope sLenOf) := ⟨rfl, rfl, rfl, by decide +kernel, rfl, by decide +kernel, by decide +kernel⟩
def spLenOf : Sp := fun vs H Q _ => ∃ c : List Nat, vs = [.str (S c)] ∧ c.length ≤ 1000 ∧ Q (num c.length) H
theorem small_S {c : List Nat} (h : c.length ≤ 1000) : (S c).length ≤ sizeLine := by
  rw [len_S]
  exact Nat.le_of_lt (small1000 h)
theorem ok_lenOf {f : Addr} {fd : FuncData} {k : Nat} (F : Fun K "length_of" "length_of" sLenOf f fd) (mi : mg "isinstance" = none) (ms : mg "str" = none) (ml : mg "len" = none) : FnOk P w K mg base CX0 (k + 1) f fd ["rope"] spLenOf := by
  refine F.ok scLenOf (fun vs H Q E h => ?_) (fun cdv A outer s H vs Q E hr h => ?_)
  · obtain ⟨c, rfl, _⟩ := h
    rfl
  · obtain ⟨c, rfl, hl, q⟩ := h
    refine ⟨_, pss_one (ps_ret (pe_ifExp (pt_val (pe_isStr (pv 0) mi (by rfl) ms (by rfl))) (pe_callB call_len_str (by rfl) ml PySem.boot_len (pa_cons (pv 0) pa_nil)) pe_dead)), ?_⟩
    refine ⟨_, rfl, true, isi_str _, true, rfl, iteT ⟨_, rfl, S c, rfl, small_S hl, ?_⟩⟩
    rw [len_S]
    exact q
abbrev nWith : List Str := ["text", "rope", "length"]
theorem scWith : FnScope nWith ["text", "rope", "length"] (defScope sWith) := ⟨rfl, rfl, rfl, by decide +kernel, rfl, by decide +kernel, by decide +kernel⟩
def spWith : Sp := fun vs H Q _ => ∃ (a b : List Nat) (n : Nat), vs = [.str (S a), .str (S b), num n] ∧ n ≤ 500 ∧ a.length + b.length ≤ 500 ∧ Q (.str (S (a ++ b))) H
theorem ok_with {f : Addr} {fd : FuncData} {k : Nat} (F : Fun K "_with_beginning" "_with_beginning" sWith f fd) (mi : mg "isinstance" = none) (ms : mg "str" = none) (mS : ∃ t, mg "SHORT" = some (.int 500 t)) : FnOk P w K mg base CX0 (k + 1) f fd ["text", "rope", "length"] spWith := by
  obtain ⟨tS, mS⟩ := mS
  refine F.ok scWith (fun vs H Q E h => ?_) (fun cdv A outer s H vs Q E hr h => ?_)
  · obtain ⟨a, b, n, rfl, _⟩ := h
    rfl
  · obtain ⟨a, b, n, rfl, hn, hl, q⟩ := h
    refine ⟨_, pss_cons (ps_if (pt_val (pe_isStr (pv 1) mi (by rfl) ms (by rfl))) (pss_one (ps_ret (pe_ifExp (pt_cmpR op_le (pv 2) (pe_glob (v := .int 500) (by rfl) mS ⟨_, rfl⟩) (nomark _)) (pe_op op_add_str (pv 0) (pv 1)) pe_dead))) pss_nil)
      (pss_cons ps_dead (pss_one ps_dead)), ?_⟩
    refine ⟨_, rfl, true, isi_str _, true, rfl, iteT ⟨_, rfl, (n : Int), 500, rfl, rfl, _, rfl, ?_⟩⟩
    rw [decide_eq_true (show (n : Int) ≤ 500 by omega)]
    refine iteT ⟨_, rfl, _, rfl, _, _, rfl, rfl, ?_, ?_⟩
    · rw [len_S, len_S]
      exact Nat.le_of_lt (small1000 (by omega))
    · rw [S_app]
      exact q
abbrev nPut : List Str := ["one", "two", "length"]
theorem scPut : FnScope nPut ["one", "two"] (defScope sPut) := ⟨rfl, rfl, rfl, by decide +kernel, rfl, by decide +kernel, by decide +kernel⟩
def spPut : Sp := fun vs H Q _ => ∃ (a b : List Nat), vs = [.str (S a), .str (S b)] ∧ a.length + b.length ≤ 500 ∧ Q (.str (S (a ++ b))) H
theorem eq_empty (a : List Nat) : decide (V.str (S a) = V.str (Str.ofString "")) = decide (a = []) := by
  rw [str_empty, decide_eq_decide]
  exact ⟨fun h => S_inj (V.str.inj h), fun h => by rw [h]⟩
theorem ok_put {f : Addr} {fd : FuncData} {k : Nat} (F : Fun K "put_together" "put_together" sPut f fd) (DL : Df P w K mg base (k + 1) "length_of" ["rope"] spLenOf) (DW : Df P w K mg base (k + 1) "_with_beginning" ["text", "rope", "length"] spWith) (mi : mg "isinstance" = none) (ms : mg "str" = none) : FnOk P w K mg base CX0 (k + 2) f fd ["one", "two"] spPut := by
  refine F.ok scPut (fun vs H Q E h => ?_) (fun cdv A outer s H vs Q E hr h => ?_)
  · obtain ⟨a, b, rfl, _⟩ := h
    rfl
  · obtain ⟨a, b, rfl, hl, q⟩ := h
    refine ⟨_, pss_cons (ps_if (pt_cmpR op_eq (pv 0) pe_str (nomark _)) (pss_one (ps_ret (pv 1))) pss_nil)
      (pss_cons (ps_if (pt_cmpR op_eq (pv 1) pe_str (nomark _)) (pss_one (ps_ret (pv 0))) pss_nil)
      (pss_cons (ps_set (i := 2) scPut.nd rfl (.inl rfl) (pe_op op_add (pe_df DL hr (pa_cons (pv 0) pa_nil)) (pe_df DL hr (pa_cons (pv 1) pa_nil))))
      (pss_cons (ps_if (pt_val (pe_isStr (pv 0) mi (by rfl) ms (by rfl))) (pss_one (ps_ret (pe_df DW hr (pa_cons (pv 0) (pa_cons (pv 1) (pa_cons (pv 2) pa_nil)))))) pss_nil)
      (pss_cons ps_dead (pss_cons ps_dead (pss_one ps_dead)))))), ?_⟩
    refine ⟨_, rfl, rfl, _, rfl, ?_⟩
    rw [eq_empty]
    by_cases ha : a = []
    · rw [decide_eq_true ha]
      rw [ha] at q
      exact iteT ⟨_, rfl, q⟩
    rw [decide_eq_false ha]
    refine iteF ⟨_, rfl, rfl, _, rfl, ?_⟩
    rw [eq_empty]
    by_cases hb : b = []
    · rw [decide_eq_true hb]
      rw [hb, List.append_nil] at q
      exact iteT ⟨_, rfl, q⟩
    rw [decide_eq_false hb]
    refine iteF ⟨_, rfl, a, rfl, by omega, _, rfl, b, rfl, by omega, _, _, rfl, rfl, ?_⟩
    refine ⟨_, rfl, true, isi_str _, true, rfl, iteT ⟨_, rfl, _, rfl, _, rfl, a, b, a.length + b.length, rfl, hl, hl, q⟩⟩
abbrev nRopeOf : List Str := ["ropes", "whole", "rope"]
theorem scRopeOf : FnScope nRopeOf ["ropes"] (defScope sRopeOf) := ⟨rfl, rfl, rfl, by decide +kernel, rfl, by decide +kernel, by decide +kernel⟩
def spRopeOf : Sp := fun vs H Q _ => ∃ (a : Addr) (ws : List (List Nat)), vs = [.ref a] ∧ H a = some (.lst (txs ws)) ∧ ws.flatten.length ≤ 500 ∧ Q (.str (S ws.flatten)) H
theorem ok_ropeOf {f : Addr} {fd : FuncData} {k : Nat} (F : Fun K "rope_of" "rope_of" sRopeOf f fd) (DP : Df P w K mg base (k + 2) "put_together" ["one", "two"] spPut) : FnOk P w K mg base CX0 (k + 3) f fd ["ropes"] spRopeOf := by
  refine F.ok scRopeOf (fun vs H Q E h => ?_) (fun cdv A outer s H vs Q E hr h => ?_)
  · obtain ⟨a, ws, rfl, _⟩ := h
    rfl
  · obtain ⟨a, ws, rfl, ha, hl, q⟩ := h
    refine ⟨_, pss_cons (ps_set (i := 1) scRopeOf.nd rfl (.inl rfl) pe_str)
      (pss_cons (ps_for PassesOwn.never rfl (pi_list (pv 0)) (pg_name (i := 2) scRopeOf.nd rfl (.inl rfl))
        (pss_one (ps_set (i := 1) scRopeOf.nd rfl (.inl rfl) (pe_df DP hr (pa_cons (pv 1) (pa_cons (pv 2) pa_nil))))))
      (pss_one (ps_ret (pv 1)))), ?_⟩
    refine ⟨_, rfl, a, rfl, ⟨_, SqL.of ha⟩, for_list (K := K) (a := a) (xs := txs ws) (fun j σ H' => ∃ v2, σ = [some (.ref a), some (.str (S (ws.take j).flatten)), v2] ∧ H' = H)
      ⟨none, by rw [str_empty]; rfl, rfl⟩ (fun j σ H' _ ⟨_, _, e⟩ => by rw [e]; exact SqL.of ha) ?_ ?_⟩
    · rintro j y σ H4 hj ⟨v2, rfl, rfl⟩
      obtain ⟨w, hw, rfl⟩ : ∃ w, ws[j]? = some w ∧ y = .str (S w) := by
        unfold txs at hj
        rw [List.getElem?_map] at hj
        cases z : ws[j]? with
        | none => rw [z] at hj; cases hj
        | some x => rw [z] at hj; exact ⟨x, rfl, (Option.some.inj hj).symm⟩
      have et : ws.take (j + 1) = ws.take j ++ [w] := by
        rw [List.take_add_one, hw]
        rfl
      have ef : (ws.take (j + 1)).flatten = (ws.take j).flatten ++ w := by rw [et]; simp
      have hlen : ((ws.take j).flatten ++ w).length ≤ 500 := by
        rw [← ef]
        have e1 : ws.flatten = (ws.take (j + 1)).flatten ++ (ws.drop (j + 1)).flatten := by
          rw [← List.flatten_append, List.take_append_drop]
        rw [e1, List.length_append] at hl
        omega
      rw [List.length_append] at hlen
      refine ⟨_, rfl, _, rfl, _, w, rfl, hlen, ?_⟩
      rw [← ef]
      exact ⟨_, rfl, rfl⟩
    · rintro σ H4 ⟨v2, rfl, rfl⟩
      have lx : (txs ws).length = ws.length := List.length_map _
      rw [lx, List.take_length]
      exact ⟨_, rfl, q⟩
abbrev nWritten : List Str := ["rope", "texts", "waiting", "piece"]
theorem scWritten : FnScope nWritten ["rope"] (defScope sWritten) := ⟨rfl, rfl, rfl, by decide +kernel, rfl, by decide +kernel, by decide +kernel⟩
def spWritten : Sp := fun vs H Q _ => ∃ c : List Nat, vs = [.str (S c)] ∧ c.length ≤ 1000 ∧ ∀ H', Same H H' → Q (.str (S c)) H'
theorem while_W {c : TT} {tb : TS} {D : Ends} {σ : L2.St} {H : Hp} (W : Nat → L2.St → Hp → Prop) (h0 : ∃ m, W m σ H)
    (hs : ∀ m σ H, W m σ H → c σ H fun b H1 => if b = true then tb { D with nx := fun σ' H' => ∃ m', m' < m ∧ W m' σ' H', ct := fun σ' H' => ∃ m', m' < m ∧ W m' σ' H', bk := D.nx } σ H1 else D.nx σ H1)
    (mono : ∀ σ H Q Q', (∀ b H1, Q b H1 → Q' b H1) → c σ H Q → c σ H Q') : tWhile c tb D σ H := by
  refine ⟨W, h0, fun m σ H w => mono σ H _ _ (fun b H1 q => ?_) (hs m σ H w)⟩
  cases b with
  | true => exact ⟨_, fun σ' H' z => z, q⟩
  | false => exact q
theorem ok_written {f : Addr} {fd : FuncData} {k : Nat} (F : Fun K "written" "written" sWritten f fd) (mi : mg "isinstance" = none) (ms : mg "str" = none) : FnOk P w K mg base CX0 (k + 1) f fd ["rope"] spWritten := by
  refine F.ok scWritten (fun vs H Q E h => ?_) (fun cdv A outer s H vs Q E hr h => ?_)
  · obtain ⟨c, rfl, _⟩ := h
    rfl
  · obtain ⟨c, rfl, hl, q⟩ := h
    refine ⟨_, pss_cons (ps_set (i := 1) scWritten.nd rfl (.inl rfl) (pe_lstS pa_nil))
      (pss_cons (ps_set (i := 2) scWritten.nd rfl (.inl rfl) (pe_lstS (pa_cons (pv 0) pa_nil)))
      (pss_cons (ps_while PassesOwn.never (pt_truth (pv 2) (fun _ => rfl))
        (pss_cons (ps_set (i := 3) scWritten.nd rfl (.inl rfl) (pe_bm0 PySem.F.plainAttrs_list PySem.F.slot_list_pop PySem.F.type_list_pop mt_pop (pv 2)))
        (pss_one (ps_if (pt_val (pe_isStr (pv 3) mi (by rfl) ms (by rfl)))
          (pss_one (ps_expr (pe_bm PySem.F.plainAttrs_list PySem.F.slot_list_append PySem.F.type_list_append mt_append (pv 1) (pa_cons (pv 3) pa_nil))))
          (pss_one ps_dead)))))
      (pss_one (ps_ret (pe_join pe_str (pv 1)))))), ?_⟩
    have big : (10000 : Nat) ≤ sizeLine := by decide
    refine ⟨Nat.zero_le _, fun t H1 s1 n1 e1 => ⟨_, rfl, by show 1 ≤ sizeLine; omega, fun g H2 s2 n2 e2 => ?_⟩⟩
    have ntg : t ≠ g := fun z => by rw [← z, e1] at n2; cases n2
    have nHg : H g = none := s1.free n2
    show tWhile (fun σ H0 Q => tVar 2 σ H0 fun x H' => ∃ k, TruV K x H' k ∧ Q k H') _ _ [some (.str (S c)), some (.ref t), some (.ref g), none] H2
    refine while_W (fun m σ H' => ∃ v3, σ = [some (.str (S c)), some (.ref t), some (.ref g), v3] ∧ Same H H' ∧ ((m = 1 ∧ H' t = some (.lst []) ∧ H' g = some (.lst [.str (S c)])) ∨ (m = 0 ∧ H' t = some (.lst [.str (S c)]) ∧ H' g = some (.lst []))))
      ⟨1, none, rfl, s1.trans s2, .inl ⟨rfl, s2 _ _ e1, e2⟩⟩ ?_ (fun σ H Q Q' m ⟨v, e, k, t, q⟩ => ⟨v, e, k, t, m _ _ q⟩)
    rintro m σ H3 ⟨v3, rfl, s3, ⟨rfl, et, eg⟩ | ⟨rfl, et, eg⟩⟩
    · refine ⟨_, rfl, true, .inl ⟨_, SqL.of eg, rfl⟩, iteT ⟨_, rfl, .inl ⟨rfl, _, SqL.of eg⟩, g, _, .str (S c), rfl, rfl, eg, rfl, ?_⟩⟩
      have s4 : Same H (upd H3 g (.lst ([V.str (S c)].dropLast))) := fun b o eb => by
        rw [upd_ne (ne_of_none eb nHg)]
        exact s3 _ _ eb
      have et4 : (upd H3 g (.lst ([V.str (S c)].dropLast))) t = some (.lst []) := by rw [upd_ne ntg]; exact et
      have eg4 : (upd H3 g (.lst ([V.str (S c)].dropLast))) g = some (.lst []) := upd_same
      generalize upd H3 g (.lst ([V.str (S c)].dropLast)) = H4 at s4 et4 eg4
      refine ⟨_, rfl, true, isi_str _, true, rfl, iteT ⟨_, rfl, .inl ⟨rfl, _, SqL.of et4⟩, _, rfl, t, _, _, rfl, rfl, et4, by show 0 < sizeLine; omega, ?_⟩⟩
      refine ⟨0, Nat.lt_succ_self _, _, rfl, fun b o eb => ?_, .inr ⟨rfl, upd_same, ?_⟩⟩
      · rw [upd_ne (ne_of_none eb n1)]
        exact s4 _ _ eb
      · rw [upd_ne ntg.symm]
        exact eg4
    · refine ⟨_, rfl, false, .inl ⟨_, SqL.of eg, rfl⟩, iteF ⟨⟨_, rfl⟩, _, rfl, _, t, [S c], rfl, rfl, .inl (SqL.of et), ?_, ?_⟩⟩
      · rw [str_empty, len_S]
        show (S c).length + 0 + _ ≤ _
        rw [len_S]
        show c.length + 0 + 1 * 0 ≤ _
        omega
      · have e : Txt.join (Str.ofString "") [S c] = S c := by
          have := join_S [] [c]
          rw [str_empty]
          rw [show ([S c] : List Str) = [c].map S from rfl, this]
          rfl
        rw [e]
        exact q H3 s3
end
end Tb

set_option Elab.async false
set_option linter.all false
set_option maxRecDepth 100000
set_option maxHeartbeats 4000000
namespace Tb
open PySem PySem.Spec PyProof.Rows L2 TL
/-! ### ropes of any length -/
abbrev sRope : Stmt := topS 8
abbrev sRpInit : Stmt := subS sRope 0
abbrev sRpPieces : Stmt := subS sRope 1
def ropeF (l : List Nat) (m : Addr) (r : List Nat) (n : Nat) : List (Str × V) := [("left", .str (S l)), ("middle", .ref m), ("right", .str (S r)), ("length", num n)]
theorem rf_l (l : List Nat) (m : Addr) (r : List Nat) (n : Nat) : (ropeF l m r n).lookup ("left" : Str) = some (.str (S l)) := rfl
theorem rf_m (l : List Nat) (m : Addr) (r : List Nat) (n : Nat) : (ropeF l m r n).lookup ("middle" : Str) = some (.ref m) := by
  show List.lookup _ (_ :: _) = _
  rw [List.lookup_cons, show (("middle" : Str) == "left") = false by decide +kernel]
  rfl
theorem rf_r (l : List Nat) (m : Addr) (r : List Nat) (n : Nat) : (ropeF l m r n).lookup ("right" : Str) = some (.str (S r)) := by
  show List.lookup _ (_ :: _ :: _) = _
  rw [List.lookup_cons, show (("right" : Str) == "left") = false by decide +kernel, List.lookup_cons, show (("right" : Str) == "middle") = false by decide +kernel]
  rfl
theorem rf_n (l : List Nat) (m : Addr) (r : List Nat) (n : Nat) : (ropeF l m r n).lookup ("length" : Str) = some (num n) := by
  show List.lookup _ (_ :: _ :: _ :: _) = _
  rw [List.lookup_cons, show (("length" : Str) == "left") = false by decide +kernel, List.lookup_cons, show (("length" : Str) == "middle") = false by decide +kernel, List.lookup_cons, show (("length" : Str) == "right") = false by decide +kernel]
  rfl
/-- v is a rope that tells w, made of n pieces, at most d deep -/
def RpN (CR : Addr) (H : Hp) : Nat → V → List Nat → Nat → Prop
  | 0, v, w, n => v = .str (S w) ∧ n = 1
  | d + 1, v, w, n => (v = .str (S w) ∧ n = 1) ∨ ∃ r dx m l rt vs, ∃ ps : List (List Nat × Nat), v = .ref r ∧ H r = some (.ins CR dx (ropeF l m rt w.length)) ∧ H m = some (.tup vs) ∧ Paired (fun v p => RpN CR H d v p.1 p.2) vs ps ∧ vs.length ≤ 2 ∧ w = l ++ (ps.map (·.1)).flatten ++ rt ∧ n = (ps.map (·.2)).sum + 3 ∧ n + 3 ≤ 4 * w.length
theorem RpN.succ {CR : Addr} {H : Hp} : ∀ {d : Nat} {v : V} {w : List Nat} {n : Nat}, RpN CR H d v w n → RpN CR H (d + 1) v w n
  | 0, v, w, n, h => .inl h
  | d + 1, v, w, n, h => by
    rcases h with h | ⟨r, dx, m, l, rt, vs, ps, e, h1, h2, h3, h4⟩
    · exact .inl h
    · exact .inr ⟨r, dx, m, l, rt, vs, ps, e, h1, h2, Paired.mono (fun v p z => RpN.succ z) h3, h4⟩
theorem RpN.le {CR : Addr} {H : Hp} {d e : Nat} {v : V} {w : List Nat} {n : Nat} (l : d ≤ e) (h : RpN CR H d v w n) : RpN CR H e v w n := by
  induction l with
  | refl => exact h
  | step _ ih => exact ih.succ
theorem RpN.keep {CR : Addr} {H H' : Hp} (k : ∀ b o, H b = some o → ((∃ xs, o = .tup xs) ∨ ∃ dx fs, o = .ins CR dx fs) → H' b = some o) : ∀ {d : Nat} {v : V} {w : List Nat} {n : Nat}, RpN CR H d v w n → RpN CR H' d v w n
  | 0, v, w, n, h => h
  | d + 1, v, w, n, h => by
    rcases h with h | ⟨r, dx, m, l, rt, vs, ps, e, h1, h2, h3, h4⟩
    · exact .inl h
    · exact .inr ⟨r, dx, m, l, rt, vs, ps, e, k _ _ h1 (.inr ⟨_, _, rfl⟩), k _ _ h2 (.inl ⟨_, rfl⟩), Paired.mono (fun v p z => RpN.keep k z) h3, h4⟩
def RpV (CR : Addr) (H : Hp) (v : V) (w : List Nat) (n : Nat) : Prop := ∃ d, RpN CR H d v w n
theorem RpV.keep {CR : Addr} {H H' : Hp} {v : V} {w : List Nat} {n : Nat} (k : ∀ b o, H b = some o → ((∃ xs, o = .tup xs) ∨ ∃ dx fs, o = .ins CR dx fs) → H' b = some o) : RpV CR H v w n → RpV CR H' v w n := fun ⟨d, h⟩ => ⟨d, h.keep k⟩
theorem RpV.same {CR : Addr} {H H' : Hp} {v : V} {w : List Nat} {n : Nat} (s : Same H H') (h : RpV CR H v w n) : RpV CR H' v w n := h.keep fun b o e _ => s b o e
theorem RpV.txt (CR : Addr) (H : Hp) (w : List Nat) : RpV CR H (.str (S w)) w 1 := ⟨0, rfl, rfl⟩
theorem RpV.cases {CR : Addr} {H : Hp} {v : V} {w : List Nat} {n : Nat} (h : RpV CR H v w n) : (v = .str (S w) ∧ n = 1) ∨ ∃ r dx m l rt vs, ∃ ps : List (List Nat × Nat), v = .ref r ∧ H r = some (.ins CR dx (ropeF l m rt w.length)) ∧ H m = some (.tup vs) ∧ Paired (fun v p => RpV CR H v p.1 p.2) vs ps ∧ vs.length ≤ 2 ∧ w = l ++ (ps.map (·.1)).flatten ++ rt ∧ n = (ps.map (·.2)).sum + 3 ∧ n + 3 ≤ 4 * w.length := by
  obtain ⟨d, h⟩ := h
  cases d with
  | zero => exact .inl h
  | succ d =>
    rcases h with h | ⟨r, dx, m, l, rt, vs, ps, e, h1, h2, h3, h4⟩
    · exact .inl h
    · exact .inr ⟨r, dx, m, l, rt, vs, ps, e, h1, h2, Paired.mono (fun v p z => ⟨d, z⟩) h3, h4⟩
theorem paired_depth {CR : Addr} {H : Hp} : ∀ {vs : List V} {ps : List (List Nat × Nat)}, Paired (fun v p => RpV CR H v p.1 p.2) vs ps → ∃ d, Paired (fun v p => RpN CR H d v p.1 p.2) vs ps
  | _, _, .nil => ⟨0, .nil⟩
  | _, _, .cons ⟨d, h⟩ t => by
    obtain ⟨e, t'⟩ := paired_depth t
    exact ⟨max d e, .cons (h.le (Nat.le_max_left _ _)) (Paired.mono (fun v p z => z.le (Nat.le_max_right _ _)) t')⟩
theorem RpV.obj {CR : Addr} {H : Hp} {r dx m : Addr} {l rt w : List Nat} {vs : List V} {ps : List (List Nat × Nat)} (h1 : H r = some (.ins CR dx (ropeF l m rt w.length))) (h2 : H m = some (.tup vs)) (h3 : Paired (fun v p => RpV CR H v p.1 p.2) vs ps) (h4 : vs.length ≤ 2) (h5 : w = l ++ (ps.map (·.1)).flatten ++ rt) (h6 : (ps.map (·.2)).sum + 3 + 3 ≤ 4 * w.length) : RpV CR H (.ref r) w ((ps.map (·.2)).sum + 3) := by
  obtain ⟨d, h3⟩ := paired_depth h3
  exact ⟨d + 1, .inr ⟨r, dx, m, l, rt, vs, ps, rfl, h1, h2, h3, h4, h5, rfl, h6⟩⟩
/-- how many pieces: by the length -/
theorem RpV.few {CR : Addr} {H : Hp} {v : V} {w : List Nat} {n : Nat} (h : RpV CR H v w n) : n ≤ 4 * w.length + 1 ∧ (w ≠ [] → n + 3 ≤ 4 * w.length) ∧ 1 ≤ n := by
  rcases h.cases with ⟨_, e⟩ | ⟨r, dx, m, l, rt, vs, ps, e, h1, h2, h3, h4, h5, h6, h7⟩
  · subst e
    refine ⟨by omega, fun hw => ?_, Nat.le_refl _⟩
    have := List.length_pos_iff.mpr hw
    omega
  · exact ⟨by omega, fun _ => h7, by omega⟩
structure RpTxt (K : PySem.W.Frag) (mg : Str → Option Value) (CR : Addr) : Prop where
  cl : Cls K CR
  nL : NoAttr K CR "left"
  nM : NoAttr K CR "middle"
  nR : NoAttr K CR "right"
  nN : NoAttr K CR "length"
  mgC : mg "Rope" = some (.ref CR)
  ha : PySem.W.findIn K (.ref CR) "__class__" = some (some (.builtin "object.__class__"))
  hn : PySem.W.specialIn K (.builtin "object.__class__") "__get__" = some (some (.builtin "getset_descriptor.__get__"))
  htk : PySem.W.takesIn K (.builtin "object.__class__") = some true
  hm : PySem.W.mroIn K CR (.type "object") = some true
  hk : PySem.W.kitOne K (.ref CR) (.type "str") = some false
  he : PySem.W.findIn K (.ref CR) "__eq__" = some (some (.builtin "object.__eq__"))
theorem RpTxt.isi {K : PySem.W.Frag} {mg : Str → Option Value} {CR : Addr} (T : RpTxt K mg CR) {H : Hp} {r dx : Addr} {fs : List (Str × V)} (h : H r = some (.ins CR dx fs)) : Isi K H (.ref r) "str" false := ⟨_, .base (.ins h T.cl T.ha T.hn T.htk T.hm), T.hk⟩
section
variable {P : Program} {w : World} {K : PySem.W.Frag} {mg : Str → Option Value} {base : Heap}
abbrev psRp : List Str := ["self", "left", "middle", "right", "length"]
theorem scRpInit : FnScope psRp psRp (defScope sRpInit) := ⟨rfl, rfl, rfl, by decide +kernel, rfl, by decide +kernel, by decide +kernel⟩
def spRpInit (CR : Addr) : Sp := fun vs H Q _ => ∃ (x dx m : Addr) (l r : List Nat) (n : Nat), vs = [.ref x, .str (S l), .ref m, .str (S r), num n] ∧ H x = some (.ins CR dx []) ∧ ∀ H', But x H H' → H' x = some (.ins CR dx (ropeF l m r n)) → Q .non H'
theorem ok_rpInit {f CR : Addr} {fd : FuncData} {k : Nat} (F : Fun K "__init__" "Rope.__init__" sRpInit f fd) (T : RpTxt K mg CR) : FnOk P w K mg base CX0 (k + 1) f fd psRp (spRpInit CR) := by
  refine F.ok scRpInit (fun vs H Q E h => ?_) (fun cdv A outer st H vs Q E hr h => ?_)
  · obtain ⟨x, dx, m, l, r, n, rfl, _⟩ := h
    rfl
  · obtain ⟨x, dx, m, l, r, n, rfl, hx, q⟩ := h
    refine ⟨_, pss_cons (ps_fld (pv 0) (pv 1) rfl) (pss_cons (ps_fld (pv 0) (pv 2) rfl) (pss_cons (ps_fld (pv 0) (pv 3) rfl) (pss_one (ps_fld (pv 0) (pv 4) rfl)))), ?_⟩
    refine ⟨_, rfl, _, rfl, x, CR, dx, [], rfl, hx, T.cl, T.nL, by show 0 < 1000; decide, ?_⟩
    have b1 : But x H (upd H x (.ins CR dx (putF "left" (.str (S l)) []))) := But.upd x H _
    have e1 : (upd H x (.ins CR dx (putF "left" (.str (S l)) []))) x = some (.ins CR dx [("left", .str (S l))]) := upd_same
    generalize upd H x (.ins CR dx (putF "left" (.str (S l)) [])) = H1 at b1 e1
    refine ⟨_, rfl, _, rfl, x, CR, dx, _, rfl, e1, T.cl, T.nM, by show 1 < 1000; decide, ?_⟩
    have b2 : But x H (upd H1 x (.ins CR dx (putF "middle" (.ref m) [("left", .str (S l))]))) := b1.trans (But.upd x H1 _)
    have e2 : (upd H1 x (.ins CR dx (putF "middle" (.ref m) [("left", .str (S l))]))) x = some (.ins CR dx [("left", .str (S l)), ("middle", .ref m)]) := by
      rw [upd_same, putF_end (show ("middle" : Str) ∉ (["left"] : List Str) by decide +kernel)]
      rfl
    generalize upd H1 x (.ins CR dx (putF "middle" (.ref m) [("left", .str (S l))])) = H2 at b2 e2
    refine ⟨_, rfl, _, rfl, x, CR, dx, _, rfl, e2, T.cl, T.nR, by show 2 < 1000; decide, ?_⟩
    have b3 : But x H (upd H2 x (.ins CR dx (putF "right" (.str (S r)) [("left", .str (S l)), ("middle", .ref m)]))) := b2.trans (But.upd x H2 _)
    have e3 : (upd H2 x (.ins CR dx (putF "right" (.str (S r)) [("left", .str (S l)), ("middle", .ref m)]))) x = some (.ins CR dx [("left", .str (S l)), ("middle", .ref m), ("right", .str (S r))]) := by
      rw [upd_same, putF_end (show ("right" : Str) ∉ (["left", "middle"] : List Str) by decide +kernel)]
      rfl
    generalize upd H2 x (.ins CR dx (putF "right" (.str (S r)) [("left", .str (S l)), ("middle", .ref m)])) = H3 at b3 e3
    refine ⟨_, rfl, _, rfl, x, CR, dx, _, rfl, e3, T.cl, T.nN, by show 3 < 1000; decide, ?_⟩
    refine q _ (b3.trans (But.upd x H3 _)) ?_
    rw [upd_same, putF_end (show ("length" : Str) ∉ (["left", "middle", "right"] : List Str) by decide +kernel)]
    rfl
/-- the class's making, proved -/
structure MkRp (P : Program) (w : World) (K : PySem.W.Frag) (mg : Str → Option Value) (base : Heap) (CR : Addr) (k : Nat) : Prop where
  ex : ∃ f fd, Mk K CR f ∧ FnOk P w K mg base CX0 k f fd psRp (spRpInit CR) ∧ Binds K fd psRp []
def tRope (CR : Addr) (t : TA) : TE := fun σ H Q => t σ H fun vs H1 => ∃ (m : Addr) (l r : List Nat) (n : Nat), vs = [.str (S l), .ref m, .str (S r), num n] ∧ ∀ x dx H', Same H1 H' → H1 x = none → H' x = some (.ins CR dx (ropeF l m r n)) → Q (.ref x) H'
theorem pe_rope {X : Cx} {CR : Addr} {k j : Nat} {e : Expr} {es : List Expr} {t : TA} {p pos : Pos} (D : MkRp X.prog X.w X.K X.mg X.base CR k) (hr : Room j X.A) (hm : X.mg "Rope" = some (.ref CR)) (ha : PA X (e :: es) t) (hk : k + 1 ≤ j := by omega) (hg : Gl X "Rope" := by rfl)
    (he : starEach (e :: es) X.env = (false, eval e X.env) :: starEach es X.env := by rfl) (hpl : (backTo pos (starEach es X.env)).any (·.1) = false := by rfl) :
    PE X (.Call (.Name "Rope" p) (e :: es) [] pos) (tRope CR t) := by
  obtain ⟨f, fd, M, F, b⟩ := D.ex
  refine PE.weak (pe_make M F (hr.mono hk) hg hm b .nil pass0 (PA.mono ha) (by decide) he hpl) fun σ H Q z => ⟨_, z, fun vs H1 ⟨m, l, r, n, ev, q⟩ x dx nx ndx ne => ?_⟩
  subst ev
  have s1 : Same H1 (upd (upd H1 dx (.own x)) x (.ins CR dx [])) := fun b o eb => by
    rw [upd_ne (ne_of_none eb nx), upd_ne (ne_of_none eb ndx)]
    exact eb
  exact ⟨x, dx, m, l, r, n, rfl, upd_same, fun H' hb hx => ⟨rfl, q x dx H' (fun b o eb => hb b o (s1 b o eb) (ne_of_none eb nx)) nx hx⟩⟩
theorem scRpPieces : FnScope ["self"] ["self"] (defScope sRpPieces) := ⟨rfl, rfl, rfl, by decide +kernel, rfl, by decide +kernel, by decide +kernel⟩
def spRpPieces (CR : Addr) : Sp := fun vs H Q _ => ∃ (x dx m : Addr) (l r : List Nat) (n : Nat) (us : List V), vs = [.ref x] ∧ H x = some (.ins CR dx (ropeF l m r n)) ∧ H m = some (.tup us) ∧ us.length ≤ 2 ∧ ∀ L H', Same H H' → H L = none → H' L = some (.lst ([.str (S l)] ++ us ++ [.str (S r)])) → Q (.ref L) H'
theorem ok_rpPieces {f CR : Addr} {fd : FuncData} {k : Nat} (F : Fun K "pieces" "Rope.pieces" sRpPieces f fd) (T : RpTxt K mg CR) : FnOk P w K mg base CX0 (k + 1) f fd ["self"] (spRpPieces CR) := by
  refine F.ok scRpPieces (fun vs H Q E h => ?_) (fun cdv A outer st H vs Q E hr h => ?_)
  · obtain ⟨x, dx, m, l, r, n, us, rfl, _⟩ := h
    rfl
  · obtain ⟨x, dx, m, l, r, n, us, rfl, hx, hm, hu, q⟩ := h
    refine ⟨_, pss_one (ps_ret (pe_lstS (pa_cons (pe_fld (pv 0) rfl) (StX.pa_star (pe_fld (pv 0) rfl) (pa_cons (pe_fld (pv 0) rfl) pa_nil))))), ?_⟩
    refine ⟨_, rfl, x, CR, dx, _, _, rfl, hx, T.cl, T.nL, rf_l _ _ _ _, _, rfl, x, CR, dx, _, _, rfl, hx, T.cl, T.nM, rf_m _ _ _ _, m, us, rfl, .inl (SqT.of hm), _, rfl, x, CR, dx, _, _, rfl, hx, T.cl, T.nR, rf_r _ _ _ _, ?_, fun L H' s' n' e' => q L H' s' n' ?_⟩
    · show (_ :: (us ++ _)).length ≤ _
      rw [List.length_cons, List.length_append]
      exact Nat.le_of_lt (small1000 (by show us.length + 1 + 1 ≤ 1000; omega))
    · rw [e']
      rfl
end
end Tb

set_option Elab.async false
set_option linter.all false
set_option maxRecDepth 100000
set_option maxHeartbeats 4000000
namespace Tb
open PySem PySem.Spec PyProof.Rows L2 TL
theorem small_G {c : List Nat} (h : c.length ≤ 1000000) : (S c).length ≤ sizeLine := by
  rw [len_S, sizeLine_eq]
  omega
theorem flat1 (w : List Nat) : ([(w, 0)].map (·.1)).flatten = w := by simp
section
variable {P : Program} {w : World} {K : PySem.W.Frag} {mg : Str → Option Value} {base : Heap}
def spLenG (CR : Addr) : Sp := fun vs H Q _ => ∃ (v : V) (c : List Nat) (n : Nat), vs = [v] ∧ RpV CR H v c n ∧ c.length ≤ 1000000 ∧ Q (num c.length) H
theorem ok_lenG {f CR : Addr} {fd : FuncData} {k : Nat} (F : Fun K "length_of" "length_of" sLenOf f fd) (T : RpTxt K mg CR) (mi : mg "isinstance" = none) (ms : mg "str" = none) (ml : mg "len" = none) : FnOk P w K mg base CX0 (k + 1) f fd ["rope"] (spLenG CR) := by
  refine F.ok scLenOf (fun vs H Q E h => ?_) (fun cdv A outer s H vs Q E hr h => ?_)
  · obtain ⟨v, c, n, rfl, _⟩ := h
    rfl
  · obtain ⟨v, c, n, rfl, hv, hl, q⟩ := h
    refine ⟨_, pss_one (ps_ret (pe_ifExp (pt_val (pe_isStr (pv 0) mi (by rfl) ms (by rfl))) (pe_callB call_len_str (by rfl) ml PySem.boot_len (pa_cons (pv 0) pa_nil)) (pe_fld (pv 0) rfl))), ?_⟩
    rcases hv.cases with ⟨rfl, _⟩ | ⟨r, dx, m, l, rt, us, ps, rfl, h1, _⟩
    · refine ⟨_, rfl, true, isi_str _, true, rfl, iteT ⟨_, rfl, S c, rfl, small_G hl, ?_⟩⟩
      rw [len_S]
      exact q
    · exact ⟨_, rfl, false, T.isi h1, false, rfl, iteF ⟨_, rfl, r, CR, dx, _, _, rfl, h1, T.cl, T.nN, rf_n _ _ _ _, q⟩⟩
def spWithG (CR : Addr) : Sp := fun vs H Q _ => ∃ (a c : List Nat) (v : V) (n : Nat), vs = [.str (S a), v, num (a.length + c.length)] ∧ RpV CR H v c n ∧ a ≠ [] ∧ c ≠ [] ∧ a.length + c.length ≤ 1000000 ∧ ∀ u k H', Same H H' → RpV CR H' u (a ++ c) k → Q u H'
theorem ok_withG {f CR : Addr} {fd : FuncData} {k : Nat} (F : Fun K "_with_beginning" "_with_beginning" sWith f fd) (T : RpTxt K mg CR) (MK : MkRp P w K mg base CR (k + 1)) (mi : mg "isinstance" = none) (ms : mg "str" = none) (ml : mg "len" = none) (mS : ∃ t, mg "SHORT" = some (.int 500 t)) : FnOk P w K mg base CX0 (k + 3) f fd ["text", "rope", "length"] (spWithG CR) := by
  obtain ⟨tS, mS⟩ := mS
  refine F.ok scWith (fun vs H Q E h => ?_) (fun cdv A outer s H vs Q E hr h => ?_)
  · obtain ⟨a, c, v, n, rfl, _⟩ := h
    rfl
  · obtain ⟨a, c, v, n, rfl, hv, ha, hc, hl, q⟩ := h
    have la : 1 ≤ a.length := List.length_pos_iff.mpr ha
    have lc : 1 ≤ c.length := List.length_pos_iff.mpr hc
    refine ⟨_, pss_cons (ps_if (pt_val (pe_isStr (pv 1) mi (by rfl) ms (by rfl))) (pss_one (ps_ret (pe_ifExp (pt_cmpR op_le (pv 2) (pe_glob (v := .int 500) (by rfl) mS ⟨_, rfl⟩) (nomark _)) (pe_op op_add_str (pv 0) (pv 1)) (pe_rope MK hr T.mgC (pa_cons (pv 0) (pa_cons (pe_tupS pa_nil) (pa_cons (pv 1) (pa_cons (pv 2) pa_nil)))))))) pss_nil)
      (pss_cons (ps_if (pt_cmpR op_le (pe_op op_add (pe_callB call_len_str (by rfl) ml PySem.boot_len (pa_cons (pv 0) pa_nil)) (pe_callB call_len_str (by rfl) ml PySem.boot_len (pa_cons (pe_fld (pv 1) rfl) pa_nil))) (pe_glob (v := .int 500) (by rfl) mS ⟨_, rfl⟩) (nomark _)) (pss_one (ps_ret (pe_rope MK hr T.mgC (pa_cons (pe_op op_add_str (pv 0) (pe_fld (pv 1) rfl)) (pa_cons (pe_fld (pv 1) rfl) (pa_cons (pe_fld (pv 1) rfl) (pa_cons (pv 2) pa_nil))))))) pss_nil)
      (pss_one (ps_ret (pe_rope MK hr T.mgC (pa_cons (pv 0) (pa_cons (pe_tupS (pa_cons (pv 1) pa_nil)) (pa_cons pe_str (pa_cons (pv 2) pa_nil)))))))), ?_⟩
    have big : (3000000 : Nat) < sizeLine := by rw [sizeLine_eq]; decide
    rcases hv.cases with ⟨rfl, rfl⟩ | ⟨r, dx, m, l, rt, us, ps, rfl, h1, h2, h3, h4, h5, h6, h7⟩
    · refine ⟨_, rfl, true, isi_str _, true, rfl, iteT ⟨_, rfl, ((a.length + c.length : Nat) : Int), 500, rfl, rfl, _, rfl, ?_⟩⟩
      by_cases hs : a.length + c.length ≤ 500
      · rw [decide_eq_true (show ((a.length + c.length : Nat) : Int) ≤ 500 by omega)]
        refine iteT ⟨_, rfl, _, rfl, _, _, rfl, rfl, ?_, ?_⟩
        · rw [len_S, len_S]
          omega
        · rw [S_app]
          exact q _ 1 H (fun _ _ e => e) (RpV.txt CR H _)
      · rw [decide_eq_false (show ¬ (((a.length + c.length : Nat) : Int) ≤ 500) by omega)]
        refine iteF ⟨_, rfl, Nat.zero_le _, fun m H1 s1 n1 e1 => ⟨_, rfl, _, rfl, m, a, c, a.length + c.length, rfl, fun x dx H2 s2 n2 e2 => ?_⟩⟩
        refine q _ _ H2 (s1.trans s2) (RpV.obj (ps := []) (dx := dx) (m := m) (l := a) (rt := c) (w := a ++ c) (vs := []) ?_ (s2 _ _ e1) .nil (by decide) (by simp) ?_)
        · rw [List.length_append]
          exact e2
        · rw [List.length_append]
          show 0 + 3 + 3 ≤ _
          omega
    · have lcl : c.length = l.length + (ps.map (·.1)).flatten.length + rt.length := by
        rw [h5, List.length_append, List.length_append]
      refine ⟨_, rfl, false, T.isi h1, false, rfl, iteF ?_⟩
      refine ⟨_, rfl, S a, rfl, small_G (by omega), _, rfl, r, CR, dx, _, _, rfl, h1, T.cl, T.nL, rf_l _ _ _ _, S l, rfl, small_G (by omega), _, _, rfl, rfl, _, 500, rfl, rfl, _, rfl, ?_⟩
      rw [len_S, len_S]
      by_cases hs : a.length + l.length ≤ 500
      · rw [decide_eq_true (show ((a.length : Nat) : Int) + ((l.length : Nat) : Int) ≤ 500 by omega)]
        refine iteT ⟨_, rfl, _, rfl, r, CR, dx, _, _, rfl, h1, T.cl, T.nL, rf_l _ _ _ _, _, _, rfl, rfl, by rw [len_S, len_S]; omega, _, rfl, r, CR, dx, _, _, rfl, h1, T.cl, T.nM, rf_m _ _ _ _, _, rfl, r, CR, dx, _, _, rfl, h1, T.cl, T.nR, rf_r _ _ _ _, _, rfl, m, a ++ l, rt, a.length + c.length, by rw [S_app], fun x dx' H2 s2 n2 e2 => ?_⟩
        refine q _ _ H2 s2 (RpV.obj (ps := ps) (dx := dx') (m := m) (l := a ++ l) (rt := rt) (w := a ++ c) (vs := us) ?_ (s2 _ _ h2) (Paired.mono (fun v p z => z.same s2) h3) h4 ?_ ?_)
        · rw [List.length_append (as := a) (bs := c)]
          exact e2
        · rw [h5]
          simp
        · rw [List.length_append]
          omega
      · rw [decide_eq_false (show ¬ (((a.length : Nat) : Int) + ((l.length : Nat) : Int) ≤ 500) by omega)]
        refine iteF ⟨_, rfl, _, rfl, by show 1 ≤ sizeLine; omega, fun m' H1 s1 n1 e1 => ⟨_, rfl, m', a, [], a.length + c.length, by rw [str_empty], fun x dx' H2 s2 n2 e2 => ?_⟩⟩
        have hv2 : RpV CR H2 (.ref r) c n := hv.same (s1.trans s2)
        refine q _ _ H2 (s1.trans s2) (RpV.obj (ps := [(c, n)]) (dx := dx') (m := m') (l := a) (rt := []) (w := a ++ c) (vs := [.ref r]) ?_ (s2 _ _ e1) (.cons hv2 .nil) (by show 1 ≤ 2; decide) (by simp) ?_)
        · rw [List.length_append]
          exact e2
        · rw [List.length_append]
          show n + 0 + 3 + 3 ≤ _
          omega
end
end Tb

set_option Elab.async false
set_option linter.all false
set_option maxRecDepth 100000
set_option maxHeartbeats 4000000
namespace Tb
open PySem PySem.Spec PyProof.Rows L2 TL
theorem sub_flatG {l m : List (List Nat)} (h : l.Sublist m) : l.flatten.Sublist m.flatten := by
  induction h with
  | slnil => exact .slnil
  | cons a _ ih =>
    rw [List.flatten_cons]
    exact ih.trans (List.sublist_append_right _ _)
  | cons_cons a _ ih =>
    rw [List.flatten_cons, List.flatten_cons]
    exact (List.Sublist.refl _).append ih
section
variable {P : Program} {w : World} {K : PySem.W.Frag} {mg : Str → Option Value} {base : Heap}
def spPutG (CR : Addr) : Sp := fun vs H Q _ => ∃ (v v' : V) (c c' : List Nat) (n n' : Nat), vs = [v, v'] ∧ RpV CR H v c n ∧ RpV CR H v' c' n' ∧ c.length + c'.length ≤ 1000000 ∧ ∀ u k H', Same H H' → RpV CR H' u (c ++ c') k → Q u H'
/-- is it the empty text? -/
theorem eq_none {CR : Addr} {K : PySem.W.Frag} {mg : Str → Option Value} (T : RpTxt K mg CR) {H : Hp} {v : V} {c : List Nat} {n : Nat} (h : RpV CR H v c n) {Q : V → Hp → Prop} (q : Q (.bl (decide (c = []))) H) : rEqRp K v (.str (Str.ofString "")) H Q := by
  rcases h.cases with ⟨rfl, rfl⟩ | ⟨r, dx, m, l, rt, us, ps, rfl, h1, h2, h3, h4, h5, h6, h7⟩
  · exact .inl ⟨_, _, rfl, rfl, by rw [eq_empty]; exact q⟩
  · have hc : c ≠ [] := fun z => by
      rw [z] at h7
      simp at h7
    rw [decide_eq_false hc] at q
    exact .inr ⟨r, CR, dx, _, _, rfl, rfl, h1, T.hm, T.he, q⟩
theorem ok_putG {f CR : Addr} {fd : FuncData} {k : Nat} (F : Fun K "put_together" "put_together" sPut f fd) (T : RpTxt K mg CR) (MK : MkRp P w K mg base CR (k + 1)) (DL : Df P w K mg base (k + 1) "length_of" ["rope"] (spLenG CR)) (DW : Df P w K mg base (k + 3) "_with_beginning" ["text", "rope", "length"] (spWithG CR)) (mi : mg "isinstance" = none) (ms : mg "str" = none) (ml : mg "len" = none) (mS : ∃ t, mg "SHORT" = some (.int 500 t)) : FnOk P w K mg base CX0 (k + 4) f fd ["one", "two"] (spPutG CR) := by
  obtain ⟨tS, mS⟩ := mS
  refine F.ok scPut (fun vs H Q E h => ?_) (fun cdv A outer s H vs Q E hr h => ?_)
  · obtain ⟨v, v', c, c', n, n', rfl, _⟩ := h
    rfl
  · obtain ⟨v, v', c, c', n, n', rfl, hv, hv', hl, q⟩ := h
    have hu := hu_of hr
    refine ⟨_, pss_cons (ps_if (pt_cmpR (op_eqRp hu) (pv 0) pe_str (nomark _)) (pss_one (ps_ret (pv 1))) pss_nil)
      (pss_cons (ps_if (pt_cmpR (op_eqRp hu) (pv 1) pe_str (nomark _)) (pss_one (ps_ret (pv 0))) pss_nil)
      (pss_cons (ps_set (i := 2) scPut.nd rfl (.inl rfl) (pe_op op_add (pe_df DL hr (pa_cons (pv 0) pa_nil)) (pe_df DL hr (pa_cons (pv 1) pa_nil))))
      (pss_cons (ps_if (pt_val (pe_isStr (pv 0) mi (by rfl) ms (by rfl))) (pss_one (ps_ret (pe_df DW hr (pa_cons (pv 0) (pa_cons (pv 1) (pa_cons (pv 2) pa_nil)))))) pss_nil)
      (pss_cons (ps_if (pt_not (pt_val (pe_isStr (pv 1) mi (by rfl) ms (by rfl)))) (pss_one (ps_ret (pe_rope MK hr T.mgC (pa_cons pe_str (pa_cons (pe_tupS (pa_cons (pv 0) (pa_cons (pv 1) pa_nil))) (pa_cons pe_str (pa_cons (pv 2) pa_nil))))))) pss_nil)
      (pss_cons (ps_if (pt_cmpR op_le (pe_op op_add (pe_callB call_len_str (by rfl) ml PySem.boot_len (pa_cons (pe_fld (pv 0) rfl) pa_nil)) (pe_callB call_len_str (by rfl) ml PySem.boot_len (pa_cons (pv 1) pa_nil))) (pe_glob (v := .int 500) (by rfl) mS ⟨_, rfl⟩) (nomark _)) (pss_one (ps_ret (pe_rope MK hr T.mgC (pa_cons (pe_fld (pv 0) rfl) (pa_cons (pe_fld (pv 0) rfl) (pa_cons (pe_op op_add_str (pe_fld (pv 0) rfl) (pv 1)) (pa_cons (pv 2) pa_nil))))))) pss_nil)
      (pss_one (ps_ret (pe_rope MK hr T.mgC (pa_cons pe_str (pa_cons (pe_tupS (pa_cons (pv 0) pa_nil)) (pa_cons (pv 1) (pa_cons (pv 2) pa_nil)))))))))))), ?_⟩
    have big : (3000000 : Nat) < sizeLine := by rw [sizeLine_eq]; decide
    refine ⟨_, rfl, ?_⟩
    dsimp only [tC]
    refine eq_none T hv ⟨_, rfl, ?_⟩
    by_cases hc : c = []
    · rw [decide_eq_true hc]
      subst hc
      exact iteT ⟨_, rfl, q _ _ H (fun _ _ e => e) hv'⟩
    rw [decide_eq_false hc]
    refine iteF ⟨_, rfl, ?_⟩
    dsimp only [tC]
    refine eq_none T hv' ⟨_, rfl, ?_⟩
    by_cases hc' : c' = []
    · rw [decide_eq_true hc']
      subst hc'
      refine iteT ⟨_, rfl, q _ n H (fun _ _ e => e) ?_⟩
      rw [List.append_nil]
      exact hv
    rw [decide_eq_false hc']
    have lc : 1 ≤ c.length := List.length_pos_iff.mpr hc
    have lc' : 1 ≤ c'.length := List.length_pos_iff.mpr hc'
    have f1 := hv.few.2.1 hc
    have f2 := hv'.few.2.1 hc'
    refine iteF ⟨_, rfl, v, c, n, rfl, hv, by omega, _, rfl, v', c', n', rfl, hv', by omega, _, _, rfl, rfl, ?_⟩
    have en : ((c.length : Nat) : Int) + ((c'.length : Nat) : Int) = ((c.length + c'.length : Nat) : Int) := by omega
    show gName 2 (.int (((c.length : Nat) : Int) + ((c'.length : Nat) : Int))) _ _ _
    rw [en]
    rcases hv.cases with ⟨rfl, rfl⟩ | ⟨r, dx, m, l, rt, us, ps, rfl, h1, h2, h3, h4, h5, h6, h7⟩
    · refine ⟨_, rfl, true, isi_str _, true, rfl, iteT ⟨_, rfl, _, rfl, _, rfl, c, c', v', n', rfl, hv', hc, hc', by omega, fun u k H' s' z => q u k H' s' z⟩⟩
    · have lcl : c.length = l.length + (ps.map (·.1)).flatten.length + rt.length := by
        rw [h5, List.length_append, List.length_append]
      refine ⟨_, rfl, false, T.isi h1, false, rfl, iteF ?_⟩
      rcases hv'.cases with ⟨rfl, rfl⟩ | ⟨r', dx', m', l', rt', us', ps', rfl, h1', _⟩
      · refine ⟨_, rfl, true, isi_str _, true, rfl, iteF ?_⟩
        refine ⟨_, rfl, r, CR, dx, _, _, rfl, h1, T.cl, T.nR, rf_r _ _ _ _, S rt, rfl, small_G (by omega), _, rfl, S c', rfl, small_G (by omega), _, _, rfl, rfl, _, 500, rfl, rfl, _, rfl, ?_⟩
        rw [len_S, len_S]
        by_cases hs : rt.length + c'.length ≤ 500
        · rw [decide_eq_true (show ((rt.length : Nat) : Int) + ((c'.length : Nat) : Int) ≤ 500 by omega)]
          refine iteT ⟨_, rfl, r, CR, dx, _, _, rfl, h1, T.cl, T.nL, rf_l _ _ _ _, _, rfl, r, CR, dx, _, _, rfl, h1, T.cl, T.nM, rf_m _ _ _ _, _, rfl, r, CR, dx, _, _, rfl, h1, T.cl, T.nR, rf_r _ _ _ _, _, rfl, _, _, rfl, rfl, by rw [len_S, len_S]; omega, _, rfl, m, l, rt ++ c', c.length + c'.length, by rw [S_app]; rfl, fun x dx' H2 s2 n2 e2 => ?_⟩
          refine q _ _ H2 s2 (RpV.obj (ps := ps) (dx := dx') (m := m) (l := l) (rt := rt ++ c') (w := c ++ c') (vs := us) ?_ (s2 _ _ h2) (Paired.mono (fun v p z => z.same s2) h3) h4 ?_ ?_)
          · rw [List.length_append (as := c) (bs := c')]
            exact e2
          · rw [h5]
            simp
          · rw [List.length_append]
            omega
        · rw [decide_eq_false (show ¬ (((rt.length : Nat) : Int) + ((c'.length : Nat) : Int) ≤ 500) by omega)]
          refine iteF ⟨_, rfl, by show 1 ≤ sizeLine; omega, fun m' H1 s1 n1 e1 => ⟨_, rfl, _, rfl, m', [], c', c.length + c'.length, by rw [str_empty]; rfl, fun x dx' H2 s2 n2 e2 => ?_⟩⟩
          refine q _ _ H2 (s1.trans s2) (RpV.obj (ps := [(c, n)]) (dx := dx') (m := m') (l := []) (rt := c') (w := c ++ c') (vs := [.ref r]) ?_ (s2 _ _ e1) (.cons (hv.same (s1.trans s2)) .nil) (by show 1 ≤ 2; decide) (by simp) ?_)
          · rw [List.length_append]
            exact e2
          · rw [List.length_append]
            show n + 0 + 3 + 3 ≤ _
            omega
      · refine ⟨_, rfl, false, T.isi h1', false, rfl, iteT ?_⟩
        refine ⟨_, rfl, _, rfl, by show 2 ≤ sizeLine; omega, fun m' H1 s1 n1 e1 => ⟨_, rfl, m', [], [], c.length + c'.length, by rw [str_empty]; rfl, fun x dx' H2 s2 n2 e2 => ?_⟩⟩
        refine q _ _ H2 (s1.trans s2) (RpV.obj (ps := [(c, n), (c', n')]) (dx := dx') (m := m') (l := []) (rt := []) (w := c ++ c') (vs := [.ref r, .ref r']) ?_ (s2 _ _ e1) (.cons (hv.same (s1.trans s2)) (.cons (hv'.same (s1.trans s2)) .nil)) (by show 2 ≤ 2; decide) (by simp) ?_)
        · rw [List.length_append]
          exact e2
        · rw [List.length_append]
          show n + (n' + 0) + 3 + 3 ≤ _
          omega
def RpVs (CR : Addr) (H : Hp) (vs : List V) (ws : List (List Nat)) : Prop := Paired (fun v c => ∃ n, RpV CR H v c n) vs ws
def spRopeOfG (CR : Addr) : Sp := fun vs H Q _ => ∃ (a : Addr) (us : List V) (ws : List (List Nat)), vs = [.ref a] ∧ H a = some (.lst us) ∧ RpVs CR H us ws ∧ ws.flatten.length ≤ 1000000 ∧ ∀ u k H', Same H H' → RpV CR H' u ws.flatten k → Q u H'
theorem ok_ropeOfG {f CR : Addr} {fd : FuncData} {k : Nat} (F : Fun K "rope_of" "rope_of" sRopeOf f fd) (DP : Df P w K mg base (k + 4) "put_together" ["one", "two"] (spPutG CR)) : FnOk P w K mg base CX0 (k + 5) f fd ["ropes"] (spRopeOfG CR) := by
  refine F.ok scRopeOf (fun vs H Q E h => ?_) (fun cdv A outer s H vs Q E hr h => ?_)
  · obtain ⟨a, us, ws, rfl, _⟩ := h
    rfl
  · obtain ⟨a, us, ws, rfl, ha, hus, hl, q⟩ := h
    refine ⟨_, pss_cons (ps_set (i := 1) scRopeOf.nd rfl (.inl rfl) pe_str)
      (pss_cons (ps_for PassesOwn.never rfl (pi_list (pv 0)) (pg_name (i := 2) scRopeOf.nd rfl (.inl rfl))
        (pss_one (ps_set (i := 1) scRopeOf.nd rfl (.inl rfl) (pe_df DP hr (pa_cons (pv 1) (pa_cons (pv 2) pa_nil))))))
      (pss_one (ps_ret (pv 1)))), ?_⟩
    refine ⟨_, rfl, a, rfl, ⟨_, SqL.of ha⟩, for_list (K := K) (a := a) (xs := us) (fun j σ H' => ∃ v1 v2 n, σ = [some (.ref a), some v1, v2] ∧ Same H H' ∧ RpV CR H' v1 (ws.take j).flatten n)
      ⟨_, none, 1, rfl, fun _ _ e => e, by rw [str_empty]; exact RpV.txt CR H []⟩ (fun j σ H' _ ⟨_, _, _, _, s, _⟩ => SqL.of (s _ _ ha)) ?_ ?_⟩
    · rintro j y σ H1 hj ⟨v1, v2, n, rfl, s1, hv1⟩
      obtain ⟨c, hc, n', hy⟩ := paired_get2 hus hj
      have et : ws.take (j + 1) = ws.take j ++ [c] := by
        rw [List.take_add_one, hc]
        rfl
      have ef : (ws.take (j + 1)).flatten = (ws.take j).flatten ++ c := by
        rw [et]
        simp
      have lf : (ws.take (j + 1)).flatten.length ≤ ws.flatten.length := (sub_flatG (List.take_sublist _ _)).length_le
      rw [ef, List.length_append] at lf
      refine ⟨_, rfl, _, rfl, v1, y, (ws.take j).flatten, c, n, n', rfl, hv1, hy.same s1, by omega, fun u k H2 s2 hu => ⟨u, _, k, rfl, s1.trans s2, by rw [ef]; exact hu⟩⟩
    · rintro σ H1 ⟨v1, v2, n, rfl, s1, hv1⟩
      rw [Paired.length hus, List.take_length] at hv1
      exact ⟨_, rfl, q _ n H1 s1 hv1⟩
end
end Tb

set_option Elab.async false
set_option linter.all false
set_option maxRecDepth 100000
set_option maxHeartbeats 4000000
namespace Tb
open PySem PySem.Spec PyProof.Rows L2 TL
/-! ### _law_filled -/
theorem _root_.L2.Rd.same {H H' : Hp} {a : Addr} {u : HO} (h : Rd H a u) (s : Same H H') : Rd H' a u := h.elim (fun h => .inl (s _ _ h)) fun ⟨o, h⟩ => .inr ⟨o, s _ _ h⟩
theorem dget_rd {H : Hp} {a : Addr} {kvs : List (Key × V)} {k : Key} (e : Rd H a (.dK kvs)) : DGet H a (kV k) (valV kvs k) := .inl ⟨kvs, k, e, rfl, rfl⟩
def getC (env : Env) (c : Nat) : Option (List Nat) := (env.find? fun q => decide (q.1 = c)).map (·.2)
def fillC (env : Env) (f : List Nat) : List Nat := (f.map fun c => (getC env c).getD [c]).flatten
theorem getC_cons (q : Nat × List Nat) (env : Env) (c : Nat) : getC (q :: env) c = if q.1 = c then some q.2 else getC env c := by
  unfold getC
  rw [List.find?_cons]
  by_cases e : q.1 = c
  · rw [if_pos e, decide_eq_true e]
    rfl
  · rw [if_neg e, decide_eq_false e]
theorem val_envK (c : Nat) : ∀ env : Env, valV (envK env) (Sum.inr (S [c])) = (getC env c).map fun x => V.str (S x)
  | [] => rfl
  | q :: env => by
    rw [getC_cons]
    show valV ((Sum.inr (S [q.1]), V.str (S q.2)) :: envK env) _ = _
    by_cases e : q.1 = c
    · rw [if_pos e, valV_pos (by rw [e])]
      rfl
    · rw [if_neg e, valV_neg (fun z => e (by have := key_S.mp z; injection this)), val_envK c env]
def filledV (env : Env) : V → V := fun v => match v with | .str x => .str (S ((getC env ((tl x).headD 0)).getD (tl x))) | _ => .non
section
variable {P : Program} {w : World} {K : PySem.W.Frag} {mg : Str → Option Value} {base : Heap}
abbrev nLFilled : List Str := ["_law_filling", "_law_texts", "_law_sign"]
theorem scLFilled : FnScope nLFilled ["_law_filling", "_law_texts"] (defScope sLFilled) := ⟨rfl, rfl, rfl, by decide +kernel, rfl, by decide +kernel, by decide +kernel⟩
def spLFilled : Sp := fun vs H Q _ => ∃ (f : List Nat) (d : Addr) (env : Env), vs = [.str (S f), .ref d] ∧ Rd H d (.dK (envK env)) ∧ f.length ≤ 1000000 ∧ (fillC env f).length ≤ 10000000 ∧ ∀ H', Same H H' → Q (.str (S (fillC env f))) H'
theorem ok_lfilled {f : Addr} {fd : FuncData} {k : Nat} (F : Fun K "_law_filled" "_law_filled" sLFilled f fd) : FnOk P w K mg base CX0 (k + 1) f fd ["_law_filling", "_law_texts"] spLFilled := by
  refine F.ok scLFilled (fun vs H Q E h => ?_) (fun cdv A outer s H vs Q E hr h => ?_)
  · obtain ⟨f, d, env, rfl, _⟩ := h
    rfl
  · obtain ⟨cs, d, env, rfl, hd, hl, hl2, q⟩ := h
    have hu := hu_of hr
    refine ⟨_, pss_one (ps_ret (pe_join pe_str (pe_lc (own := [("_law_sign", 2)]) (g := gName 2) (tt := tYes) (te := tIf (tB (tDIn (tVar 2) (tVar 1))) (tDGet (tVar 1) (tVar 2)) (tVar 2)) rfl scLFilled.nd (pi_str (pv 0)) (blkOk_by (own := [("_law_sign", 2)]) (N := nLFilled) (sc := defScope sLFilled) (by decide +kernel))
        (fun _ _ _ _ _ => pg_name (i := 2) scLFilled.nd rfl (.inl rfl)) (fun _ _ _ _ _ => pts_nil) (fun _ _ _ _ _ => pe_ifExp (pt_cmp (pc_din hu (pv 2) (pv 1))) (pe_dget hu (pv 1) (pv 2) (fun _ _ => rfl)) (pv 2))))), ?_⟩
    have big : (1000000 : Nat) < sizeLine := by rw [sizeLine_eq]; decide
    refine ⟨⟨_, rfl⟩, _, rfl, S cs, rfl, fun D nD => lc_mapW (xs := sgs cs) (filledV env) walk_str (by unfold sgs; rw [List.length_map]; rfl) (fun i H x H' y => str_item y) (fun _ _ => trivial) nD ?_ ?_ ?_⟩
    · unfold sgs
      rw [List.length_map]
      omega
    · intro x hx H' R s' r
      obtain ⟨c, hc, rfl⟩ := List.mem_map.mp hx
      have r' := r H' (fun _ _ e => e)
      have e1 : filledV env (.str (S [c])) = .str (S ((getC env c).getD [c])) := rfl
      rw [e1] at r'
      refine ⟨_, rfl, _, rfl, d, _, rfl, dget_rd (k := Sum.inr (S [c])) (hd.same s'), _, rfl, ?_⟩
      rw [val_envK]
      cases hg : getC env c with
      | some y =>
        rw [hg] at r'
        have hv : valV (envK env) (Sum.inr (S [c])) = some (.str (S y)) := by rw [val_envK, hg]; rfl
        exact iteT ⟨_, rfl, _, rfl, d, _, rfl, hv ▸ dget_rd (k := Sum.inr (S [c])) (hd.same s'), r'⟩
      | none =>
        rw [hg] at r'
        exact iteF ⟨_, rfl, r'⟩
    · intro H' s' e'
      have ey : (sgs cs).map (filledV env) = ((cs.map fun c => (getC env c).getD [c]).map S).map V.str := by
        unfold sgs
        simp only [List.map_map]
        rfl
      refine ⟨_, D, (cs.map fun c => (getC env c).getD [c]).map S, rfl, rfl, .inl (SqL.of (by rw [e', ey])), ?_, ?_⟩
      · rw [len_fil, str_empty, len_S]
        show (fillC env cs).length + _ * 0 ≤ _
        omega
      · rw [str_empty, join_fil]
        exact q H' s'
end
end Tb

set_option Elab.async false
set_option linter.all false
set_option maxRecDepth 100000
set_option maxHeartbeats 4000000
namespace Tb
open PySem PySem.Spec PyProof.Rows L2 TL
section
variable {P : Program} {w : World} {K : PySem.W.Frag} {mg : Str → Option Value} {base : Heap}
abbrev nLText : List Str := ["_law_source_here", "_law_letters", "_law_most", "_law_k"]
theorem scLText : FnScope nLText ["_law_source_here", "_law_letters", "_law_most"] (defScope sLText) := ⟨rfl, rfl, rfl, by decide +kernel, rfl, by decide +kernel, by decide +kernel⟩
/-- a drawn text of these signs -/
def spLText : Sp := fun vs H Q _ => ∃ (p : Addr) (n most : Nat) (zs : List Nat), vs = [.ref p, .str (S zs), num most] ∧ Src H p n ∧ n + 200 < 1000000 ∧ 0 < zs.length ∧ zs.length ≤ 1000 ∧ most ≤ 100 ∧
  ∀ H' (cs : List Nat), But p H H' → Src H' p (n + 110) → cs.length ≤ most → (∀ c ∈ cs, c ∈ zs) → Q (.str (S cs)) H'
theorem ok_ltext {f : Addr} {fd : FuncData} {k : Nat} (F : Fun K "_law_text" "_law_text" sLText f fd) (DD : Df P w K mg base (k + 1) "_law_draw" ["_law_source_here", "_law_many"] spDrawS) (DP : Df P w K mg base (k + 2) "_law_pick" ["_law_source_here", "_law_things"] (spPick K)) (mr : mg "range" = none) : FnOk P w K mg base CX0 (k + 3) f fd ["_law_source_here", "_law_letters", "_law_most"] spLText := by
  refine F.ok scLText (fun vs H Q E h => ?_) (fun cdv A outer s H vs Q E hr h => ?_)
  · obtain ⟨p, n, most, zs, rfl, _⟩ := h
    rfl
  · obtain ⟨p, n, most, zs, rfl, hp, hn, z0, hz, hm, q⟩ := h
    refine ⟨_, pss_one (ps_ret (pe_join pe_str (pe_lc (own := [("_law_k", 3)]) (g := gName 3) (tt := tYes) (te := tCall (spPick K) [] E0 (tCons (tVar 0) (tCons (tVar 1) tNil))) rfl scLText.nd
        (pi_range1 rfl mr (pa_cons (pe_df DD hr (pa_cons (pv 0) (pa_cons (pe_op op_add (pv 2) pe_int) pa_nil))) pa_nil)) (blkOk_by (own := [("_law_k", 3)]) (N := nLText) (sc := defScope sLText) (by decide +kernel))
        (fun _ _ _ _ _ => pg_name (i := 3) scLText.nd rfl (.inl rfl)) (fun _ _ _ _ _ => pts_nil) (fun _ _ _ _ _ => pe_df DP hr (pa_cons (pv 0) (pa_cons (pv 1) pa_nil)))))), ?_⟩
    refine ⟨⟨_, rfl⟩, _, rfl, _, rfl, _, _, rfl, rfl, p, most + 1, n, rfl, hp, by omega, by omega, by omega, fun m H2 hmm hb2 hs2 => ?_⟩
    refine ⟨m, rfl, by omega, by omega, fun D nD => ?_⟩
    have nDp := ne_src hs2 nD
    have hb12 := hb2
    refine lc_range (lo := 0) (n := (m : Int).toNat) (fun i H' => ∃ cs : List Nat, Src H' p (n + 1 + i) ∧ H' D = some (.lst (cs.map fun c => .str (S [c]))) ∧ cs.length = i ∧ (∀ c ∈ cs, c ∈ zs) ∧ But p H H') ?_ ?_ ?_
    · exact ⟨[], hs2.same (same_upd nD), upd_same, rfl, fun c hc => (nomatch hc), hb12.trans (Same.but (same_upd nD) p)⟩
    · rintro i H3 hi ⟨cs, hs3, eD, hl, hc, hb3⟩
      have hi' : i < m := by omega
      refine ⟨rfl, tYes_if ?_⟩
      refine ⟨_, rfl, _, rfl, p, n + 1 + i, hs3, by omega, .inr ⟨S zs, rfl, by rw [len_S]; exact z0, by rw [len_S]; exact Nat.le_of_lt (small1000 hz), by rw [len_S]; omega, fun c H4 hcm hb4 hs4 => ?_⟩⟩
      refine ⟨_, hb4 _ _ eD nDp, by rw [List.length_map]; exact small1000 (by omega), cs ++ [c], hs4.at (upd_ne nDp.symm), ?_, ?_, ?_, ?_⟩
      · rw [upd_same, List.map_append]
        rfl
      · rw [List.length_append, hl]
        rfl
      · intro x hx
        rcases List.mem_append.mp hx with h | h
        · exact hc x h
        · rw [List.mem_singleton.mp h]
          exact hcm
      · intro b o e ne
        have nb : b ≠ D := by
          intro z
          have e' := hb12 _ _ e ne
          rw [z, nD] at e'
          cases e'
        rw [upd_ne nb]
        exact hb4 _ _ (hb3 _ _ e ne) ne
    · rintro H3 ⟨cs, hs3, eD, hl, hc, hb3⟩
      have hl' : cs.length ≤ most := by omega
      refine ⟨_, D, cs.map fun c => S [c], rfl, rfl, .inl (SqL.of (by rw [eD, List.map_map]; rfl)), ?_, ?_⟩
      · rw [sum_ones, str_empty, len_S]
        show _ + _ * 0 ≤ _
        omega
      · rw [str_empty, join_signs]
        exact q H3 cs hb3 (hs3.le (by omega)) hl' hc
end
end Tb

set_option Elab.async false
set_option linter.all false
set_option maxRecDepth 100000
set_option maxHeartbeats 4000000
namespace Tb
open PySem PySem.Spec PyProof.Rows L2 TL
/-! ### a list of pairs over anything that is walked -/
section
variable {te : TE} {vs : List Nat} {σ : L2.St} {H1 : Hp} {D : Addr} {Qd : Hp → Prop} {sl : Nat} {J : It} {n : Nat} {G : Hp → Prop} {Y : Nat → Hp → V → Hp → Prop}
theorem lc_pairsW {xs : List V} (kf vf : V → V) (w : Walk J n G Y) (hn : n = xs.length) (hY : ∀ i H x H', Y i H x H' → H' = H ∧ xs[i]? = some x) (hG : ∀ H', Same H1 H' → G H') (nD : H1 D = none) (hl : xs.length < sizeLine)
    (he : ∀ x ∈ xs, ∀ H' (R : VK), Same H1 H' → New H' (.tup [kf x, vf x]) R → te ((wipe σ vs).set sl (some x)) H' R)
    (hd : ∀ H' ts, Same H1 H' → H' D = some (.lst (ts.map V.ref)) → Paired (fun t x => H' t = some (.tup [kf x, vf x])) ts xs → Qd H') (hw : ∀ x, wipe ((wipe σ vs).set sl (some x)) vs = wipe σ vs := by intro _; rfl) :
    ∃ W : Nat → Nat → Hp → Prop, (∃ m, W 0 m (upd H1 D (.lst []))) ∧ ∀ i m H, W i m H →
      (J.stop i H ∧ Qd H) ∨ (J.go i H ∧ ∃ Nx : Hp → Prop, (∀ H', Nx H' → ∃ m', m' < m ∧ W (i + 1) m' H') ∧ ∀ x H', J.yld i H x H' → gName sl x (wipe σ vs) H' fun σ2 H2 => wipe σ2 vs = wipe σ vs ∧ tYes σ2 H2 fun b H3 =>
        if b = true then te σ2 H3 fun y H4 => ∃ acc, H4 D = some (.lst acc) ∧ acc.length < sizeLine ∧ Nx (upd H4 D (.lst (acc ++ [y]))) else Nx H3) := by
  refine lc_it w (fun i H => Same H1 H ∧ ∃ ts, H D = some (.lst (ts.map V.ref)) ∧ Paired (fun t x => H t = some (.tup [kf x, vf x])) ts (xs.take i)) ⟨same_upd nD, [], upd_same, .nil⟩ (fun i H _ h => hG H h.1) ?_ ?_
  · rintro i x H H' hi ⟨s, ts, e, hp⟩ y
    obtain ⟨rfl, hx⟩ := hY _ _ _ _ y
    have hm := List.mem_of_getElem? hx
    have et : xs.take (i + 1) = xs.take i ++ [x] := by
      rw [List.take_add_one, hx]
      rfl
    refine ⟨hw x, tYes_if (he x hm _ _ s fun T H2 s2 nT eT => ?_)⟩
    have hlt : ts.length < sizeLine := by
      rw [Paired.length hp, List.length_take]
      exact Nat.lt_of_le_of_lt (Nat.min_le_right _ _) hl
    have nTD : T ≠ D := fun z => by
      rw [z, e] at nT
      cases nT
    refine ⟨_, s2 _ _ e, by rw [List.length_map]; exact hlt, fun b o eb => ?_, ts ++ [T], ?_, ?_⟩
    · rw [upd_ne (ne_of_none eb nD)]
      exact s2 _ _ (s _ _ eb)
    · rw [upd_same, List.map_append]
      rfl
    · rw [et]
      refine (Paired.mono (fun t z h => ?_) hp).snoc (by rw [upd_ne nTD]; exact eT)
      rw [upd_ne (ne_of h e (by intro z; cases z))]
      exact s2 _ _ h
  · rintro H ⟨s, ts, e, hp⟩
    subst hn
    rw [List.take_length] at hp
    exact hd H ts s e hp
end
/-! ### the two ways of filling are one -/
theorem getE_cap {env : Env} (hc : ∀ q ∈ env, isCap q.1 = true) {p : List Nat} (hp : ∀ c ∈ p, isCap c = false) : getE env p = none := by
  unfold getE
  have : env.find? (fun q => decide ([q.1] = p)) = none := by
    rw [List.find?_eq_none]
    intro q hq z
    have e := of_decide_eq_true z
    have h1 := hp q.1 (by rw [← e]; exact List.mem_singleton.mpr rfl)
    rw [hc q hq] at h1
    cases h1
  rw [this]
  rfl
theorem getE_one (env : Env) (c : Nat) : getE env [c] = getC env c := by
  unfold getE getC
  congr 2
  funext q
  rw [decide_eq_decide]
  exact ⟨fun h => by injection h, fun h => by rw [h]⟩
theorem fillC_low {env : Env} (hc : ∀ q ∈ env, isCap q.1 = true) : ∀ {p : List Nat}, (∀ c ∈ p, isCap c = false) → fillC env p = p
  | [], _ => rfl
  | c :: p, h => by
    unfold fillC
    rw [List.map_cons, List.flatten_cons, ← getE_one, getE_cap hc (fun d hd => by rw [List.mem_singleton.mp hd]; exact h c List.mem_cons_self)]
    have := fillC_low hc (fun d hd => h d (List.mem_cons_of_mem _ hd))
    unfold fillC at this
    rw [this]
    rfl
theorem fillC_app (env : Env) (a b : List Nat) : fillC env (a ++ b) = fillC env a ++ fillC env b := by
  unfold fillC
  rw [List.map_append, List.flatten_append]
theorem fill_pg {env : Env} (hc : ∀ q ∈ env, isCap q.1 = true) : ∀ (r cur : List Nat), (∀ c ∈ cur, isCap c = false) → fillE env (pg cur r) = cur ++ fillC env r
  | [], cur, h => by
    rw [pg]
    split
    · rename_i e
      rw [e]
      rfl
    · unfold fillE pieceE
      rw [List.map_cons, getE_cap hc h]
      simp [fillC]
  | c :: r, cur, h => by
    have e1 : fillC env (c :: r) = (getC env c).getD [c] ++ fillC env r := by
      unfold fillC
      rw [List.map_cons, List.flatten_cons]
    by_cases hcap : isCap c = true
    · rw [pg_cap hcap, fillE_app]
      have e2 : fillE env ([c] :: pg [] r) = (getC env c).getD [c] ++ fillE env (pg [] r) := by
        unfold fillE
        rw [List.map_cons, List.flatten_cons]
        unfold pieceE
        rw [getE_one]
      rw [e2, fill_pg hc r [] (fun c hc => (nomatch hc)), e1]
      have e3 : fillE env (if cur = [] then [] else [cur]) = cur := by
        split
        · rename_i e
          rw [e]
          rfl
        · unfold fillE pieceE
          rw [List.map_cons, getE_cap hc h]
          simp
      rw [e3]
      rfl
    · have hcap' := Bool.eq_false_iff.mpr hcap
      rw [pg_low hcap', fill_pg hc r (cur ++ [c]) (fun d hd => by
        rcases List.mem_append.mp hd with z | z
        · exact h d z
        · rw [List.mem_singleton.mp z]; exact hcap'), e1]
      have e4 : getC env c = none := by
        rw [← getE_one]
        exact getE_cap hc (fun d hd => by rw [List.mem_singleton.mp hd]; exact hcap')
      rw [e4]
      simp
theorem fill_same {env : Env} (hc : ∀ q ∈ env, isCap q.1 = true) (f : List Nat) : fillE env (partsOf f) = fillC env f := fill_pg hc f [] (fun c hc => (nomatch hc))
theorem fillE_len {env : Env} {L : List (List Nat)} (h : ∀ q ∈ env, L.count [q.1] ≤ 1) : (fillE env L).length ≤ L.flatten.length + (env.map (·.2.length)).sum := by
  have e : envOf (env.map fun q => (⟨q.1, 0, q.2, 0⟩ : Rb)) = env := by
    unfold envOf
    rw [List.map_map]
    exact List.map_id _
  have h1 := fillW_le (env.map fun q => (⟨q.1, 0, q.2, 0⟩ : Rb)) L (fun q hq => by
    obtain ⟨z, hz, rfl⟩ := List.mem_map.mp hq
    exact h z hz)
  rw [fillW_E, e, List.map_map] at h1
  exact h1
end Tb
namespace Tb
open PySem PySem.Spec PyProof.Rows L2 TL
theorem envK_nd {env : Env} {B : List Nat} (h : env.map (·.1) = B) (nd : B.Nodup) : ((envK env).map (·.1)).Nodup := by
  have e : (envK env).map (·.1) = B.map fun b => (Sum.inr (S [b]) : Key) := by
    rw [← h]
    unfold envK
    rw [List.map_map, List.map_map]
    rfl
  rw [e]
  exact List.Pairwise.map _ (fun a b hab z => hab (by have := key_S.mp z; injection this)) nd
theorem envK_keys (env : Env) : (envK env).map (fun kv => kV kv.1) = sgs (env.map (·.1)) := by
  unfold envK sgs
  rw [List.map_map, List.map_map]
  rfl
theorem pairs_env {K : PySem.W.Frag} {H : Hp} {vf : V → V} : ∀ {env : Env} {ts : List Addr}, Paired (fun t x => H t = some (.tup [id x, vf x])) ts (sgs (env.map (·.1))) → (∀ q ∈ env, vf (.str (S [q.1])) = .str (S q.2)) → Paired (fun p (kv : Key × V) => SqT K H p [kV kv.1, kv.2]) ts (envK env)
  | [], _, .nil, _ => .nil
  | q :: env, _, .cons h t, hv => by
    refine .cons (SqT.of ?_) (pairs_env t fun q hq => hv q (List.mem_cons_of_mem _ hq))
    rw [h, hv q List.mem_cons_self]
    rfl
theorem fil_count {B : List Nat} {fl : Fil} {b x : Nat} (hb : b ∈ B) : (fil fl b).count x ≤ ((B.map (fil fl)).flatten).count x := by
  induction B with
  | nil => exact (nomatch hb)
  | cons c B ih =>
    rw [List.map_cons, List.flatten_cons, List.count_append]
    rcases List.mem_cons.mp hb with e | e
    · rw [e]
      exact Nat.le_add_right _ _
    · exact Nat.le_trans (ih e) (Nat.le_add_left _ _)
def lawV (env : Env) (fl : Fil) : V → V := fun v => match v with | .str x => .str (S (fillC env (fil fl ((tl x).headD 0)))) | _ => .non
/-! ### drawn parts: the program and the law read alike -/
theorem fil_kept {fl : Fil} (h : Ones fl) (b : Nat) : fil (keptF fl) b = fil fl b := by
  unfold fil keptF
  have key : ∀ l : List Nat, getF ((l.map fun b => ([b], (getF fl [b]).getD [])).filter fun q => decide (q.2 ≠ [])) [b] = if b ∈ l ∧ (getF fl [b]).getD [] ≠ [] then some ((getF fl [b]).getD []) else none := by
    intro l
    induction l with
    | nil => rfl
    | cons x l ih =>
      rw [List.map_cons, List.filter_cons]
      by_cases hx : x = b
      · subst hx
        by_cases hne : (getF fl [x]).getD [] ≠ []
        · rw [if_pos (decide_eq_true hne), getF_cons, if_pos rfl, if_pos ⟨List.mem_cons_self, hne⟩]
        · rw [if_neg (fun z => hne (of_decide_eq_true z)), ih, if_neg (fun z => hne z.2), if_neg (fun z => hne z.2)]
      · have hx' : ¬ [x] = [b] := fun z => hx (by injection z)
        have hmem : (b ∈ x :: l) ↔ b ∈ l := ⟨fun z => (List.mem_cons.mp z).resolve_left fun e => hx e.symm, fun z => List.mem_cons_of_mem _ z⟩
        have hif : (if b ∈ x :: l ∧ (getF fl [b]).getD [] ≠ [] then some ((getF fl [b]).getD []) else none) = (if b ∈ l ∧ (getF fl [b]).getD [] ≠ [] then some ((getF fl [b]).getD []) else none) := by
          by_cases z : b ∈ l ∧ (getF fl [b]).getD [] ≠ []
          · rw [if_pos z, if_pos ⟨hmem.mpr z.1, z.2⟩]
          · rw [if_neg z, if_neg fun y => z ⟨hmem.mp y.1, y.2⟩]
        rw [hif]
        split
        · rw [getF_cons, if_neg hx', ih]
        · exact ih
  rw [key]
  by_cases hm : b ∈ sortN (fl.map fun q => q.1.headD 0)
  · by_cases hne : (getF fl [b]).getD [] ≠ []
    · rw [if_pos ⟨hm, hne⟩]
      rfl
    · rw [if_neg (fun z => hne z.2)]
      exact (Classical.not_not.mp hne).symm
  · rw [if_neg (fun z => hm z.1)]
    have hn : getF fl [b] = none := by
      refine getF_none fun z => ?_
      rw [heads_keys h] at z
      obtain ⟨x, hx, e⟩ := List.mem_map.mp z
      injection e with e _
      exact hm ((sortN_perm _).mem_iff.mpr (e ▸ hx))
    rw [hn]
theorem findM_kept (ms : List Mv) (c : List Nat) (a : Nat) : findM (ms.map keptM) c a = (findM ms c a).map keptM := by
  unfold findM
  rw [List.find?_map]
  rfl
theorem runE_kept {ms : List Mv} {B : List Nat} (h : ∀ m ∈ ms, Ones m.fl) : ∀ (t : List Nat) (s : List Nat × Env), runE (ms.map keptM) B s t = runE ms B s t
  | [], _ => rfl
  | a :: t, s => by
    have e : stepE (ms.map keptM) B s a = stepE ms B s a := by
      unfold stepE
      rw [findM_kept]
      cases hf : findM ms s.1 a with
      | none => rfl
      | some m =>
        have hm : m ∈ ms := by
          unfold findM at hf
          exact List.mem_of_find?_eq_some hf
        show some ((keptM m).to, B.map fun b => (b, fillE s.2 (partsOf (fil (keptF m.fl) b)))) = some (m.to, _)
        rw [List.map_congr_left fun b _ => by rw [fil_kept (h m hm)]]
        rfl
    show (stepE (ms.map keptM) B s a).bind _ = (stepE ms B s a).bind _
    rw [e]
    cases stepE ms B s a with
    | none => rfl
    | some s' => exact runE_kept h t s'
/-! ### what is sure of drawn parts -/
theorem getF_in {es : Fil} {c f : List Nat} (h : getF es c = some f) : (c, f) ∈ es := by
  unfold getF at h
  obtain ⟨q, h1, h2⟩ := Option.map_eq_some_iff.mp h
  have h3 := List.find?_some (p := fun q : List Nat × List Nat => decide (q.1 = c)) h1
  have h4 := List.mem_of_find?_eq_some h1
  have : q = (c, f) := Prod.ext (of_decide_eq_true h3) h2
  rw [← this]
  exact h4
theorem fils_of {fl : Fil} {bs : List Nat} (hk : fl.map (·.1) = bs.map fun b => [b]) (nd : bs.Nodup) : bs.map (fil fl) = fl.map (·.2) := by
  have nk : (fl.map (·.1)).Nodup := by
    rw [hk]
    exact List.Pairwise.map _ (fun a b hab z => hab (by injection z)) nd
  have e1 : fl.map (·.2) = fl.map fun q => (getF fl q.1).getD [] := List.map_congr_left fun q hq => by rw [getF_mem nk hq]; rfl
  have e2 : (fl.map fun q => (getF fl q.1).getD []) = (fl.map (·.1)).map fun k => (getF fl k).getD [] := by
    rw [List.map_map]
    rfl
  rw [e1, e2, hk, List.map_map]
  rfl
theorem GoodP.caps {pt : Pt} (g : GoodP pt) : ∀ x ∈ sortN pt.boxes, isCap x = true := fun x hx => decide_eq_true (g.bb x ((sortN_perm _).mem_iff.mp hx))
theorem GoodP.ndB {pt : Pt} (g : GoodP pt) : (sortN pt.boxes).Nodup := (sortN_perm _).nodup_iff.mpr g.bn
theorem flat_perm {a b : List Nat} (f : Nat → List Nat) (h : a.Perm b) : ((a.map f).flatten).Perm ((b.map f).flatten) := (h.map f).flatten
theorem GoodP.mvs {pt : Pt} (g : GoodP pt) : ∀ m ∈ pt.moves, MvGood (sortN pt.boxes) m := fun m hm => by
  obtain ⟨_, _, _, hk, hF⟩ := g.mv m hm
  have hp := flat_perm (fil m.fl) (sortN_perm pt.boxes)
  rw [fils_of hk g.bn] at hp
  refine ⟨fun x hx => ?_, ?_, ?_⟩
  · rw [hp.count_eq]
    exact hF.one x ((sortN_perm _).mem_iff.mp hx)
  · rw [hp.length_eq]
    exact Nat.le_trans hF.len (by decide)
  · rw [hp.length_eq, (sortN_perm _).length_eq]
    have h1 := hF.ti
    have h2 := congrArg List.length hk
    rw [List.length_map, List.length_map] at h2
    rw [List.length_map, h2] at h1
    omega
theorem GoodP.ones {pt : Pt} (g : GoodP pt) : ∀ m ∈ pt.moves, Ones m.fl := fun m hm q hq => by
  obtain ⟨_, _, _, hk, _⟩ := g.mv m hm
  have : q.1 ∈ pt.boxes.map fun b => [b] := by
    rw [← hk]
    exact List.mem_map.mpr ⟨q, hq, rfl⟩
  obtain ⟨b, _, e⟩ := List.mem_map.mp this
  exact ⟨b, e.symm⟩
theorem GoodP.ends {pt : Pt} (g : GoodP pt) : ∀ c f, getF pt.ends c = some f → f.length ≤ 1000 ∧ ∀ x ∈ sortN pt.boxes, f.count x ≤ 1 := fun c f h => by
  obtain ⟨_, hF⟩ := g.en _ (getF_in h)
  have h1 := hF.len
  rw [show [f].flatten = f by simp] at h1
  refine ⟨Nat.le_trans h1 (by decide), fun x hx => ?_⟩
  have h2 := hF.one x ((sortN_perm _).mem_iff.mp hx)
  rw [show [f].flatten = f by simp] at h2
  exact h2
theorem GoodP.pg {pt : Pt} (g : GoodP pt) : PgOk (sortN pt.boxes) (pt.moves.map keptM) pt.ends where
  nB := g.ndB
  cB := g.caps
  lB := by rw [(sortN_perm _).length_eq]; exact g.b6
  fl := fun m hm q hq => by
    obtain ⟨m0, hm0, rfl⟩ := List.mem_map.mp hm
    obtain ⟨_, _, _, hk, hF⟩ := g.mv m0 hm0
    have hq' : q ∈ (sortN (m0.fl.map fun q => q.1.headD 0)).map fun b => ([b], (getF m0.fl [b]).getD []) := (List.mem_filter.mp hq).1
    obtain ⟨b, hb, rfl⟩ := List.mem_map.mp hq'
    have hb' := (sortN_perm _).mem_iff.mp hb
    have hbb : b ∈ pt.boxes := by
      obtain ⟨z, hz, e⟩ := List.mem_map.mp hb'
      have : z.1 ∈ pt.boxes.map fun b => [b] := by
        rw [← hk]
        exact List.mem_map.mpr ⟨z, hz, rfl⟩
      obtain ⟨b2, h2, e2⟩ := List.mem_map.mp this
      rw [← e2] at e
      rw [← show b2 = b from e]
      exact h2
    have h3 := fil_len (fl := m0.fl) hbb
    rw [fils_of hk g.bn] at h3
    exact Nat.le_trans h3 (Nat.le_trans hF.len (by decide))
  good := fun m hm => by
    obtain ⟨m0, hm0, rfl⟩ := List.mem_map.mp hm
    have h := g.mvs m0 hm0
    have e : (sortN pt.boxes).map (fil (keptM m0).fl) = (sortN pt.boxes).map (fil m0.fl) := List.map_congr_left fun b _ => fil_kept (g.ones m0 hm0) b
    exact ⟨by rw [e]; exact h.one, by rw [e]; exact h.len, by rw [e]; exact h.ti⟩
  en := g.ends
  sg := fun m hm q hq c hc hcap => by
    obtain ⟨m0, hm0, rfl⟩ := List.mem_map.mp hm
    obtain ⟨_, _, _, hk, hF⟩ := g.mv m0 hm0
    have hq' : q ∈ (sortN (m0.fl.map fun q => q.1.headD 0)).map fun b => ([b], (getF m0.fl [b]).getD []) := (List.mem_filter.mp hq).1
    obtain ⟨b, hb, rfl⟩ := List.mem_map.mp hq'
    have hc' : c ∈ (getF m0.fl [b]).getD [] := hc
    cases hg : getF m0.fl [b] with
    | none => rw [hg] at hc'; exact nomatch hc'
    | some f =>
      rw [hg] at hc'
      have hin := getF_in hg
      rcases hF.sg f (List.mem_map.mpr ⟨_, hin, rfl⟩) c hc' with h | h
      · have : 65 ≤ c ∧ c ≤ 90 := of_decide_eq_true hcap
        omega
      · exact (sortN_perm _).mem_iff.mpr h
  esg := fun c f h x hx hcap => by
    obtain ⟨_, hF⟩ := g.en _ (getF_in h)
    rcases hF.sg f (List.mem_singleton.mpr rfl) x hx with h1 | h1
    · have : 65 ≤ x ∧ x ≤ 90 := of_decide_eq_true hcap
      omega
    · exact (sortN_perm _).mem_iff.mpr h1
  eti := fun c f h => by
    obtain ⟨_, hF⟩ := g.en _ (getF_in h)
    have h1 := hF.ti
    rw [show [f].flatten = f by simp] at h1
    rw [(sortN_perm _).length_eq]
    have h2 : [f].length = 1 := rfl
    omega
/-- the program tells what the law's own reading tells -/
theorem told_same {pt : Pt} (g : GoodP pt) (pl0 t : List Nat) : toldE (pt.moves.map keptM) (sortN pt.boxes) pt.ends pl0 t = toldE pt.moves (sortN pt.boxes) pt.ends pl0 t := by
  unfold toldE
  rw [runE_kept g.ones]
end Tb

set_option Elab.async false
set_option linter.all false
set_option maxRecDepth 100000
set_option maxHeartbeats 4000000
namespace Tb
open PySem PySem.Spec PyProof.Rows L2 TL
/-! ### the class Steps: its fields, what it keeps -/
def stF (p : Addr) (B : List Nat) (g : Addr) : List (Str × V) := [("_program", .ref p), ("_boxes", .str (S B)), ("_moves", .ref g)]
theorem sf_p (p : Addr) (B : List Nat) (g : Addr) : (stF p B g).lookup ("_program" : Str) = some (.ref p) := rfl
theorem sf_b (p : Addr) (B : List Nat) (g : Addr) : (stF p B g).lookup ("_boxes" : Str) = some (.str (S B)) := by
  show List.lookup _ (_ :: _) = _
  rw [List.lookup_cons, show (("_boxes" : Str) == "_program") = false by decide +kernel]
  rfl
theorem sf_m (p : Addr) (B : List Nat) (g : Addr) : (stF p B g).lookup ("_moves" : Str) = some (.ref g) := by
  show List.lookup _ (_ :: _ :: _) = _
  rw [List.lookup_cons, show (("_moves" : Str) == "_program") = false by decide +kernel, List.lookup_cons, show (("_moves" : Str) == "_boxes") = false by decide +kernel]
  rfl
theorem lookup_no {fs : List (Str × V)} {m : Str} (h : (fs.map (·.1)).contains m = false) : fs.lookup m = none := by
  induction fs with
  | nil => rfl
  | cons q r ih =>
    rw [List.map_cons, List.contains_cons, Bool.or_eq_false_iff] at h
    rw [List.lookup_cons]
    rw [h.1]
    exact ih h.2
theorem sf_no (p : Addr) (B : List Nat) (g : Addr) {m : Str} (h : (["_program", "_boxes", "_moves"] : List Str).contains m = false) : (stF p B g).lookup m = none := lookup_no h
/-- a program whose dict of moves is not the one at g -/
structure PrNe (C : Addr) (H : Hp) (p g : Addr) (L B : List Nat) (places : List (List Nat)) (ms : List Mv) (es : Fil) : Prop where
  ob : ∃ dx pl mv en kk, H p = some (.ins C dx (flds L B pl mv en)) ∧ H pl = some (.tup (txs places)) ∧ H mv = some (.dT kk) ∧ Paired (MvAt H) kk ms ∧ H en = some (.dK (fkv es)) ∧ mv ≠ g
section
variable {C : Addr} {H H' : Hp} {p g : Addr} {L B : List Nat} {places : List (List Nat)} {ms : List Mv} {es : Fil}
theorem PrNe.at (h : PrNe C H p g L B places ms es) : PrAt C H p L B places ms es := by
  obtain ⟨dx, pl, mv, en, kk, h1, h2, h3, h4, h5, _⟩ := h.ob
  exact ⟨dx, pl, mv, en, kk, h1, h2, h3, h4, h5⟩
theorem PrNe.same (s : Same H H') (h : PrNe C H p g L B places ms es) : PrNe C H' p g L B places ms es := by
  obtain ⟨dx, pl, mv, en, kk, h1, h2, h3, h4, h5, h6⟩ := h.ob
  exact ⟨dx, pl, mv, en, kk, s _ _ h1, s _ _ h2, s _ _ h3, Paired.mono (fun _ _ z => z.same s) h4, s _ _ h5, h6⟩
theorem PrNe.but {kvs : List (List Key × V)} (hg : H g = some (.dT kvs)) (s : But g H H') (h : PrNe C H p g L B places ms es) : PrNe C H' p g L B places ms es := by
  obtain ⟨dx, pl, mv, en, kk, h1, h2, h3, h4, h5, h6⟩ := h.ob
  refine ⟨dx, pl, mv, en, kk, s _ _ h1 (ne_of h1 hg (by intro z; cases z)), s _ _ h2 (ne_of h2 hg (by intro z; cases z)), s _ _ h3 h6, Paired.mono (fun kv m z => ?_) h4, s _ _ h5 (ne_of h5 hg (by intro z; cases z)), h6⟩
  obtain ⟨e, t, d, a, b, c⟩ := z
  exact ⟨e, t, d, a, s _ _ b (ne_of b hg (by intro z; cases z)), s _ _ c (ne_of c hg (by intro z; cases z))⟩
theorem PrAt.ne (hg : H g = none) (h : PrAt C H p L B places ms es) : PrNe C H p g L B places ms es := by
  obtain ⟨dx, pl, mv, en, kk, h1, h2, h3, h4, h5⟩ := h.ob
  exact ⟨dx, pl, mv, en, kk, h1, h2, h3, h4, h5, ne_of_none h3 hg⟩
end
def CacheS (H : Hp) (ms : List Mv) (B : List Nat) (c : List Nat) (a : Nat) (v : V) : Prop := match findM ms c a with
  | none => v = .non
  | some m => ∃ t d kv, v = .ref t ∧ H t = some (.tup [.str (S m.to), .ref d]) ∧ H d = some (.dK kv) ∧ PtsAt H kv B m.fl
theorem CacheS.but {H H' : Hp} {g : Addr} {kvs : List (List Key × V)} (hg : H g = some (.dT kvs)) (s : But g H H') {ms : List Mv} {B c : List Nat} {a : Nat} {v : V} (h : CacheS H ms B c a v) : CacheS H' ms B c a v := by
  unfold CacheS at *
  cases e : findM ms c a with
  | none =>
    rw [e] at h
    exact h
  | some m =>
    rw [e] at h
    obtain ⟨t, d, kv, e1, h1, h2, h3⟩ := h
    exact ⟨t, d, kv, e1, s _ _ h1 (ne_of h1 hg (by intro z; cases z)), s _ _ h2 (ne_of h2 hg (by intro z; cases z)), Paired.mono (fun _ _ ⟨e, a, e2, h⟩ => ⟨e, a, e2, s _ _ h (ne_of h hg (by intro z; cases z))⟩) h3⟩
theorem CacheS.same {H H' : Hp} (s : Same H H') {ms : List Mv} {B c : List Nat} {a : Nat} {v : V} (h : CacheS H ms B c a v) : CacheS H' ms B c a v := by
  unfold CacheS at *
  cases e : findM ms c a with
  | none =>
    rw [e] at h
    exact h
  | some m =>
    rw [e] at h
    obtain ⟨t, d, kv, e1, h1, h2, h3⟩ := h
    exact ⟨t, d, kv, e1, s _ _ h1, s _ _ h2, h3.same s⟩
structure StAt (CS C : Addr) (H : Hp) (s p g : Addr) (L B : List Nat) (places : List (List Nat)) (ms : List Mv) (es : Fil) (n : Nat) : Prop where
  ob : ∃ dx kvs, H s = some (.ins CS dx (stF p B g)) ∧ PrNe C H p g L B places ms es ∧ H g = some (.dT kvs) ∧ kvs.length ≤ n ∧ ∀ c a v, valV kvs (mkey c a) = some v → CacheS H ms B c a v
section
variable {CS C : Addr} {H H' : Hp} {s p g : Addr} {L B : List Nat} {places : List (List Nat)} {ms : List Mv} {es : Fil} {n : Nat}
theorem StAt.same (z : Same H H') (h : StAt CS C H s p g L B places ms es n) : StAt CS C H' s p g L B places ms es n := by
  obtain ⟨dx, kvs, h1, h2, h3, h4, h5⟩ := h.ob
  exact ⟨dx, kvs, z _ _ h1, h2.same z, z _ _ h3, h4, fun c a v e => (h5 c a v e).same z⟩
theorem StAt.le {m : Nat} (h : StAt CS C H s p g L B places ms es n) (l : n ≤ m) : StAt CS C H s p g L B places ms es m := by
  obtain ⟨dx, kvs, h1, h2, h3, h4, h5⟩ := h.ob
  exact ⟨dx, kvs, h1, h2, h3, Nat.le_trans h4 l, h5⟩
end
structure StTxt (K : PySem.W.Frag) (mg : Str → Option Value) (CS : Addr) : Prop where
  cl : Cls K CS
  nP : NoAttr K CS "_program"
  nB : NoAttr K CS "_boxes"
  nM : NoAttr K CS "_moves"
  mgC : mg "Steps" = some (.ref CS)
theorem PgOk.fill (G : PgOk B ms es) {m : Mv} (hm : m ∈ ms) {b : Nat} (hb : b ∈ B) : (fil m.fl b).length ≤ 1000 ∧ (∀ c ∈ fil m.fl b, isCap c = true → c ∈ B) ∧ ∀ x ∈ B, (fil m.fl b).count x ≤ 1 := by
  refine ⟨?_, ?_, fun x hx => Nat.le_trans (fil_count hb) ((G.good m hm).one x hx)⟩
  · unfold fil
    cases hg : getF m.fl [b] with
    | none => exact Nat.zero_le _
    | some f => exact G.fl m hm _ (getF_in hg)
  · intro c hc hcap
    unfold fil at hc
    cases hg : getF m.fl [b] with
    | none => rw [hg] at hc; exact nomatch hc
    | some f => rw [hg] at hc; exact G.sg m hm _ (getF_in hg) c hc hcap
section
variable {P : Program} {w : World} {K : PySem.W.Frag} {mg : Str → Option Value} {base : Heap}
abbrev nCheck : List Str := ["program", "text", "letters", "sign"]
theorem scCheck : FnScope nCheck ["program", "text"] (defScope sCheck) := ⟨rfl, rfl, rfl, by decide +kernel, rfl, by decide +kernel, by decide +kernel⟩
def spCheck (C : Addr) : Sp := fun vs H Q _ => ∃ (p : Addr) (t L B : List Nat) (places : List (List Nat)) (ms : List Mv) (es : Fil), vs = [.ref p, .str (S t)] ∧ PrAt C H p L B places ms es ∧ (∀ c ∈ t, c ∈ L) ∧ Q .non H
theorem ok_check {f C : Addr} {fd : FuncData} {k : Nat} (F : Fun K "check_text" "check_text" sCheck f fd) (T : PrTxt K mg C) (DL : Prp P w K mg base C (k + 1) "letters" (getSp C "_letters")) (mi : mg "isinstance" = none) (ms' : mg "str" = none) : FnOk P w K mg base CX0 (k + 3) f fd ["program", "text"] (spCheck C) := by
  refine F.ok scCheck (fun vs H Q E h => ?_) (fun cdv A outer s H vs Q E hr h => ?_)
  · obtain ⟨p, t, L, B, places, ms, es, rfl, _⟩ := h
    rfl
  · obtain ⟨p, t, L, B, places, ms, es, rfl, hp, ht, q⟩ := h
    obtain ⟨dx, pl, mv, en, kk, h1, h2, h3, h4, h5⟩ := id hp.ob
    refine ⟨_, pss_cons (ps_if (pt_not (pt_val (pe_isStr (pv 1) mi (by rfl) ms' (by rfl)))) (pss_one ps_dead) pss_nil)
      (pss_cons (ps_set (i := 2) scCheck.nd rfl (.inl rfl) (pe_prp DL T.cl hr (pv 0)))
      (pss_one (ps_for PassesOwn.never rfl (pi_str (pv 1)) (pg_name (i := 3) scCheck.nd rfl (.inl rfl))
        (pss_one (ps_if (pt_cmpR op_notIn_sign (pv 3) (pv 2) (by rfl)) (pss_one ps_dead) pss_nil))))), ?_⟩
    refine ⟨_, rfl, true, isi_str _, true, rfl, iteF ⟨_, rfl, p, dx, _, rfl, h1, p, dx, _, _, rfl, h1, fl_l _ _ _ _ _, ?_⟩⟩
    refine ⟨_, rfl, S t, rfl, for_it (walk_str (z := S t)) (fun j σ H' => ∃ v3, σ = [some (.ref p), some (.str (S t)), some (.str (S L)), v3] ∧ H' = H) ⟨none, rfl, rfl⟩ (fun _ _ _ _ _ => trivial) ?_ ?_⟩
    · rintro j x σ H2 H2' hj ⟨v3, rfl, e⟩ ⟨rfl, c, hc, rfl⟩
      have hc' : t[j]? = some c := by
        rw [show (S t).cps = t.toArray from rfl, List.getElem?_toArray] at hc
        exact hc
      refine ⟨_, rfl, _, rfl, c, S L, rfl, rfl, _, rfl, ?_⟩
      rw [decide_eq_true (show c ∈ (S L).cps.toList from ht c (List.mem_of_getElem? hc'))]
      exact iteF ⟨_, rfl, e⟩
    · rintro σ H2 ⟨v3, rfl, rfl⟩
      exact q
/-! ### filled -/
abbrev nFilled : List Str := ["fillings", "ropes", "box", "parts", "part"]
theorem scFilled : FnScope nFilled ["fillings", "ropes"] (defScope sFilled) := ⟨rfl, rfl, rfl, by decide +kernel, rfl, by decide +kernel, by decide +kernel⟩
abbrev blkF : Scope := { kind := ScopeKind.function, names := [(Str.ofString ".0", NameKind.local), (Str.ofString "box", NameKind.local), (Str.ofString "parts", NameKind.local), (Str.ofString "rope_of", NameKind.globalImplicit), (Str.ofString "ropes", NameKind.cell)], isGenerator := false, isCoroutine := false }
def spFilled : Sp := fun vs H Q _ => ∃ (fa ra : Addr) (kvs : List (Key × V)) (fl : Fil) (B : List Nat) (env : Env), vs = [.ref fa, .ref ra] ∧ H fa = some (.dK kvs) ∧ PtsAt H kvs B fl ∧ H ra = some (.dK (envK env)) ∧ B.Nodup ∧ B.length ≤ 26 ∧ (∀ b ∈ B, (fil fl b).length ≤ 1000) ∧ (∀ b ∈ B, (fillE env (partsOf (fil fl b))).length ≤ 500) ∧
  ∀ d H', Same H H' → H d = none → H' d = some (.dK (envK (B.map fun b => (b, fillE env (partsOf (fil fl b)))))) → Q (.ref d) H'
theorem rd_lock {H H' : Hp} {b d : Addr} {ks ls : List (Key × V)} {o : Obj} (hb : H b = some (.dK ks)) (hd : H d = some (.dK ls)) (s : Same (L2.upd H d (.frz o (.dK ls))) H') : Rd H' b (.dK ks) := by
  by_cases z : b = d
  · rw [z, hd] at hb
    injection hb with hb
    injection hb with hb
    rw [z, ← hb]
    exact .inr ⟨o, s _ _ upd_same⟩
  · exact .inl (s _ _ (by rw [upd_ne z]; exact hb))
def pieceEV (env : Env) : V → V := fun v => match v with | .str x => .str (S (pieceE env (tl x))) | _ => .non
theorem val_envKL (p : List Nat) : ∀ env : Env, valV (envK env) (Sum.inr (S p)) = (getE env p).map fun x => V.str (S x)
  | [] => rfl
  | q :: env => by
    have ih := val_envKL p env
    unfold getE at *
    rw [List.find?_cons]
    show valV ((Sum.inr (S [q.1]), V.str (S q.2)) :: envK env) _ = _
    by_cases e : [q.1] = p
    · rw [decide_eq_true e, valV_pos (by rw [e])]
      rfl
    · rw [decide_eq_false e, valV_neg (fun z => e (key_S.mp z)), ih]
theorem pieces_txs (env : Env) (ps : List (List Nat)) : (txs ps).map (pieceEV env) = txs (ps.map (pieceE env)) := by
  unfold txs
  rw [List.map_map, List.map_map]
  rfl
theorem ok_filled {f : Addr} {fd : FuncData} {k : Nat} (F : Fun K "filled" "filled" sFilled f fd) (DR : Df P w K mg base (k + 3) "rope_of" ["ropes"] spRopeOf) : FnOk P w K mg base CX0 (k + 4) f fd ["fillings", "ropes"] spFilled := by
  refine F.ok scFilled (fun vs H Q E h => ?_) (fun cdv A outer s H vs Q E hr h => ?_)
  · obtain ⟨fa, ra, kvs, fl, B, env, rfl, _⟩ := h
    rfl
  · obtain ⟨fa, ra, kvs, fl, B, env, rfl, hf, hpt, hra, nB, lB, hl, h500, q⟩ := h
    have hu := hu_of hr
    refine ⟨_, pss_one (ps_ret (pe_lock (pe_dc (own := [("box", 2), ("parts", 3)]) (g := gTup K 2 (gCons (gName 2) (gCons (gName 3) gNil))) (tt := tYes) (tk := tVar 2) (tv := tCall spRopeOf [] E0 (tCons (tLc (iList K (tVar 3)) (gName 4) tYes (tDGet2 (tVar 1) (tVar 4) (tVar 4)) [4]) tNil)) rfl scFilled.nd (pi_items (pv 0)) (blkOk_by (own := [("box", 2), ("parts", 3)]) (N := nFilled) (sc := defScope sFilled) (by decide +kernel))
      (fun _ _ _ _ _ => pg_tup rfl (pgs_cons (pg_name (i := 2) scFilled.nd rfl (.inl rfl)) (pgs_cons (pg_name (i := 3) scFilled.nd rfl (.inl rfl)) pgs_nil))) (fun _ _ _ _ _ => pts_nil) (fun _ _ _ _ _ => pv 2)
      (fun _ _ _ _ _ => pe_df DR hr (pa_cons (pe_lc (own := [("part", 4)]) (g := gName 4) (tt := tYes) (te := tDGet2 (tVar 1) (tVar 4) (tVar 4)) rfl scFilled.nd (pi_list (pv 3)) (blkOk_by (own := [("part", 4)]) (N := nFilled) (sc := blkF) (by decide +kernel)) (fun _ _ _ _ _ => pg_name (i := 4) scFilled.nd rfl (.inl rfl)) (fun _ _ _ _ _ => pts_nil) (fun _ _ _ _ _ => pe_dget2 hu (pv 1) (pv 4) (pv 4) ⟨rfl, rfl, rfl, rfl⟩)) pa_nil))))), ?_⟩
    refine ⟨fa, _, hf, trivial, fun od => ⟨_, rfl, fa, od, kvs, rfl, upd_same, fun D nD => ?_⟩⟩
    have nDf : D ≠ fa := fun z => by rw [z, upd_same] at nD; cases nD
    have hfl : (upd H fa (.frz od (.dK kvs))) fa = some (.frz od (.dK kvs)) := upd_same
    have bl : But fa H (upd H fa (.frz od (.dK kvs))) := But.upd fa H _
    have hpl : PtsAt (upd H fa (.frz od (.dK kvs))) kvs B fl := Paired.mono (fun _ _ ⟨e, a, e2, h⟩ => ⟨e, a, e2, bl _ _ h (ne_of h hf (by intro z; cases z))⟩) hpt
    have rdr : ∀ H', Same (upd H fa (.frz od (.dK kvs))) H' → Rd H' ra (.dK (envK env)) := fun H' s' => rd_lock hra hf s'
    generalize hHl : upd H fa (.frz od (.dK kvs)) = Hl at nD hfl hpl rdr
    have lkv : kvs.length = B.length := Paired.length hpl
    refine dc_it walk_items (fun i Hc => Same Hl Hc ∧ Hc D = some (.dK (envK ((B.take i).map fun b => (b, fillE env (partsOf (fil fl b)))))))
      ⟨same_upd nD, upd_same⟩ (fun i Hc _ h => h.1 _ _ hfl) ?_ ?_
    · rintro i x Hc Hc' hi ⟨sc, eD⟩ ⟨T1, x1, x2, rfl, nT, rfl, hx1, hx2⟩
      have hx1 : (kvs[i]?.map fun z => kV z.1) = some x1 := hx1
      have hx2 : kvs[i]?.map Prod.snd = some x2 := hx2
      obtain ⟨kv1, hkv⟩ : ∃ z, kvs[i]? = some z := ⟨kvs[i], List.getElem?_eq_getElem hi⟩
      obtain ⟨b, hb, ek, pa, ev, hpa⟩ := paired_get2 hpl hkv
      rw [hkv] at hx1 hx2
      have e1 : x1 = .str (S [b]) := by
        have := (Option.some.inj hx1).symm
        rw [this]
        show kV kv1.1 = _
        rw [ek]
        rfl
      have e2x : x2 = .ref pa := by
        have := (Option.some.inj hx2).symm
        rw [this]
        show kv1.2 = _
        rw [ev]
      subst e1 e2x
      have hbB : b ∈ B := List.mem_of_getElem? hb
      have etb : B.take (i + 1) = B.take i ++ [b] := by
        rw [List.take_add_one, hb]
        rfl
      have hnew : b ∉ B.take i := fun z => by
        have h6 : (B.take (i + 1)).Nodup := (List.take_sublist _ _).nodup nB
        rw [etb, List.nodup_append] at h6
        exact h6.2.2 b z b (List.mem_singleton.mpr rfl) rfl
      have sm := same_upd (o := .tup [.str (S [b]), .ref pa]) nT
      have slm := sc.trans sm
      refine ⟨T1, _, rfl, SqT.of upd_same, rfl, _, _, rfl, _, _, rfl, rfl, rfl, tYes_if ⟨_, rfl, ?_⟩⟩
      have hpa' := slm _ _ hpa
      have eD1 := sm _ _ eD
      generalize upd Hc T1 (.tup [.str (S [b]), .ref pa]) = Hm at sm slm hpa' eD1
      refine ⟨_, rfl, pa, rfl, ⟨_, SqL.of hpa'⟩, fun D2 nD2 => lc_mapW (xs := txs (partsOf (fil fl b))) (pieceEV env) walk_list rfl (fun i H x H' y => ⟨y.1, y.2⟩) (fun H' s' => SqL.of (s' _ _ hpa')) nD2 ?_ ?_ ?_⟩
      · unfold txs
        rw [List.length_map]
        have h6 := parts_len (fil fl b)
        have h7 := hl b hbB
        have big : (10000 : Nat) < sizeLine := by decide
        omega
      · intro x hx H' R s' r
        obtain ⟨p, hpm, rfl⟩ := List.mem_map.mp hx
        refine ⟨_, rfl, ra, rfl, .inl ⟨_, (rdr _ (slm.trans s'))⟩, _, rfl, _, rfl, _, dget_rd (k := Sum.inr (S p)) (rdr _ (slm.trans s')), ?_⟩
        rw [val_envKL]
        have r' := r H' (fun _ _ e => e)
        have e1 : pieceEV env (.str (S p)) = ((getE env p).map fun x => V.str (S x)).getD (.str (S p)) := by
          show V.str (S ((getE env p).getD p)) = _
          cases getE env p <;> rfl
        rw [e1] at r'
        exact r'
      · intro H' s' e'
        rw [pieces_txs] at e'
        refine ⟨D2, _, rfl, e', h500 b hbB, ?_⟩
        have hkn : (Sum.inr (S [b]) : Key) ∉ (envK ((B.take i).map fun b => (b, fillE env (partsOf (fil fl b))))).map (·.1) := fun z => by
          unfold envK at z
          rw [List.map_map, List.map_map] at z
          obtain ⟨q', hq', e⟩ := List.mem_map.mp z
          have e' := key_S.mp (show (Sum.inr (S [q']) : Key) = Sum.inr (S [b]) from e)
          injection e' with e' _
          exact hnew (e' ▸ hq')
        refine ⟨_, Sum.inr (S [b]), rfl, s' _ _ eD1, ?_, fun b' o eb => ?_, ?_⟩
        · unfold envK
          rw [List.length_map, List.length_map, List.length_take]
          exact small1000 (by omega)
        · rw [upd_ne (ne_of_none eb nD)]
          exact s' _ _ (slm _ _ eb)
        · rw [upd_same, putK_end _ hkn, etb]
          unfold envK
          rw [List.map_append, List.map_append]
          rfl
    · rintro Hc ⟨sc, eD⟩
      rw [lkv, List.take_length] at eD
      have hcf := sc _ _ hfl
      have sH : Same H (upd Hc fa (.dK kvs)) := same_unlock hf (by rw [hHl]; exact sc)
      have nHD : H D = none := by
        rw [← hHl, upd_ne nDf] at nD
        exact nD
      exact ⟨hcf, q D _ sH nHD (by rw [upd_ne nDf]; exact eD)⟩
end
end Tb

set_option Elab.async false
set_option linter.all false
set_option maxRecDepth 100000
set_option maxHeartbeats 4000000
namespace Tb
open PySem PySem.Spec PyProof.Rows L2 TL
section
variable {P : Program} {w : World} {K : PySem.W.Frag} {mg : Str → Option Value} {base : Heap}
/-! ### the methods of Steps -/
abbrev nStInit : List Str := ["self", "program"]
theorem scStInit : FnScope nStInit ["self", "program"] (defScope sStInit) := ⟨rfl, rfl, rfl, by decide +kernel, rfl, by decide +kernel, by decide +kernel⟩
def spStInit (CS C : Addr) : Sp := fun vs H Q _ => ∃ (s dx p : Addr) (L B : List Nat) (places : List (List Nat)) (ms : List Mv) (es : Fil), vs = [.ref s, .ref p] ∧ H s = some (.ins CS dx []) ∧ PrAt C H p L B places ms es ∧
  ∀ g H', But s H H' → H g = none → StAt CS C H' s p g L B places ms es 0 → Q .non H'
theorem ok_stInit {f CS C : Addr} {fd : FuncData} {k : Nat} (F : Fun K "__init__" "Steps.__init__" sStInit f fd) (T : PrTxt K mg C) (U : StTxt K mg CS) (DB : Prp P w K mg base C (k + 1) "boxes" (getSp C "_boxes")) : FnOk P w K mg base CX0 (k + 3) f fd ["self", "program"] (spStInit CS C) := by
  refine F.ok scStInit (fun vs H Q E h => ?_) (fun cdv A outer st H vs Q E hr h => ?_)
  · obtain ⟨s, dx, p, L, B, places, ms, es, rfl, _⟩ := h
    rfl
  · obtain ⟨s, dx, p, L, B, places, ms, es, rfl, hs, hp, q⟩ := h
    obtain ⟨dx', pl, mv, en, kk, h1, h2, h3, h4, h5⟩ := id hp.ob
    refine ⟨_, pss_cons (ps_fld (pv 0) (pv 1) rfl) (pss_cons (ps_fld (pv 0) (pe_prp DB T.cl hr (pv 1)) rfl) (pss_one (ps_fld (pv 0) pe_newT rfl))), ?_⟩
    refine ⟨_, rfl, _, rfl, s, CS, dx, [], rfl, hs, U.cl, U.nP, by show 0 < 1000; decide, ?_⟩
    have b1 : But s H (upd H s (.ins CS dx (putF "_program" (.ref p) []))) := But.upd s H _
    have e1 : (upd H s (.ins CS dx (putF "_program" (.ref p) []))) s = some (.ins CS dx [("_program", .ref p)]) := upd_same
    generalize upd H s (.ins CS dx (putF "_program" (.ref p) [])) = H1 at b1 e1
    have nps : ∀ {b : Addr} {o : HO}, H b = some o → o ≠ .ins CS dx [] → b ≠ s := fun e n => ne_of e hs n
    have hps : p ≠ s := nps h1 (by intro z; injection z with _ _ z; cases z)
    refine ⟨_, rfl, p, dx', _, rfl, b1 _ _ h1 hps, p, dx', _, _, rfl, b1 _ _ h1 hps, fl_b _ _ _ _ _, ?_⟩
    refine ⟨_, rfl, s, CS, dx, _, rfl, e1, U.cl, U.nB, by show 1 < 1000; decide, ?_⟩
    have b2 : But s H (upd H1 s (.ins CS dx (putF "_boxes" (.str (S B)) [("_program", .ref p)]))) := b1.trans (But.upd s H1 _)
    have e2 : (upd H1 s (.ins CS dx (putF "_boxes" (.str (S B)) [("_program", .ref p)]))) s = some (.ins CS dx [("_program", .ref p), ("_boxes", .str (S B))]) := by
      rw [upd_same, putF_end (show ("_boxes" : Str) ∉ (["_program"] : List Str) by decide +kernel)]
      rfl
    generalize upd H1 s (.ins CS dx (putF "_boxes" (.str (S B)) [("_program", .ref p)])) = H2 at b2 e2
    refine fun g H3 s3 n3 e3 => ⟨_, rfl, s, CS, dx, _, rfl, s3 _ _ e2, U.cl, U.nM, by show 2 < 1000; decide, ?_⟩
    have ngs : g ≠ s := fun z => by rw [z, e2] at n3; cases n3
    have nH : H g = none := (b2).free (l := g) e2 n3
    have b4 : But s H (upd H3 s (.ins CS dx (putF "_moves" (.ref g) [("_program", .ref p), ("_boxes", .str (S B))]))) := (b2.trans (Same.but s3 s)).trans (But.upd s H3 _)
    refine q g _ b4 nH ⟨dx, [], ?_, ?_, ?_, Nat.le_refl _, fun c a v z => nomatch z⟩
    · rw [upd_same, putF_end (show ("_moves" : Str) ∉ (["_program", "_boxes"] : List Str) by decide +kernel)]
      rfl
    · refine ⟨dx', pl, mv, en, kk, b4 _ _ h1 hps, b4 _ _ h2 (nps h2 (by intro z; cases z)), b4 _ _ h3 (nps h3 (by intro z; cases z)), Paired.mono (fun kv m z => ?_) h4, b4 _ _ h5 (nps h5 (by intro z; cases z)), ne_of_none h3 nH⟩
      obtain ⟨e, t, d, a, b, c⟩ := z
      exact ⟨e, t, d, a, b4 _ _ b (nps b (by intro z; cases z)), b4 _ _ c (nps c (by intro z; cases z))⟩
    · rw [upd_ne ngs]
      exact e3
abbrev nStMip : List Str := ["self", "place", "letter", "found", "target", "fillings", "box"]
theorem scStMip : FnScope nStMip ["self", "place", "letter"] (defScope sStMip) := ⟨rfl, rfl, rfl, by decide +kernel, rfl, by decide +kernel, by decide +kernel⟩
def spStMip (CS C : Addr) : Sp := fun vs H Q _ => ∃ (s p g : Addr) (c : List Nat) (a : Nat) (L B : List Nat) (places : List (List Nat)) (ms : List Mv) (es : Fil) (n : Nat), vs = [.ref s, .str (S c), .str (S [a])] ∧ StAt CS C H s p g L B places ms es n ∧ PgOk B ms es ∧
  match findM ms c a with
  | none => ∀ H', Same H H' → Q .non H'
  | some m => ∀ t d kvs H', Same H H' → H' t = some (.tup [.str (S m.to), .ref d]) → H' d = some (.dK kvs) → PtsAt H' kvs B m.fl → Q (.ref t) H'
theorem ok_stMip {f CS C : Addr} {fd : FuncData} {k : Nat} (F : Fun K "_move_in_parts" "Steps._move_in_parts" sStMip f fd) (T : PrTxt K mg C) (U : StTxt K mg CS) (DM : Mth P w K mg base C (k + 1) "move" ["place", "letter"] (spMove C)) (DP : Df P w K mg base (k + 1) "parts_of" ["filling", "boxes"] spPartsOf) :
    FnOk P w K mg base CX0 (k + 2) f fd ["self", "place", "letter"] (spStMip CS C) := by
  refine F.ok scStMip (fun vs H Q E h => ?_) (fun cdv A outer st H vs Q E hr h => ?_)
  · obtain ⟨s, p, g, c, a, L, B, places, ms, es, n, rfl, _⟩ := h
    rfl
  · obtain ⟨s, p, g, c, a, L, B, places, ms, es, n, rfl, hst, G, q⟩ := h
    have hu := hu_of hr
    obtain ⟨dxs, kvs0, hs, hp, hg0, hlen, hcache⟩ := id hst.ob
    refine ⟨_, pss_cons (ps_set (i := 3) scStMip.nd rfl (.inl rfl) (pe_mth DM T.cl hr (pe_fld (pv 0) rfl) (pa_cons (pv 1) (pa_cons (pv 2) pa_nil))))
      (pss_cons (ps_if (pt_cmpR op_isN (pv 3) pe_non (nomark _)) (pss_one (ps_ret pe_non)) pss_nil)
      (pss_cons (ps_asg (pv 3) (pg_tup rfl (pgs_cons (pg_name (i := 4) scStMip.nd rfl (.inl rfl)) (pgs_cons (pg_name (i := 5) scStMip.nd rfl (.inr rfl)) pgs_nil))))
      (pss_one (ps_ret (pe_tupS (pa_cons (pv 4) (pa_cons (pe_dc (own := [("box", 6)]) (g := gName 6) (tt := tYes) (tk := tVar 6) (tv := tCall spPartsOf [] E0 (tCons (tDGet2 (tVar 5) (tVar 6) (tC (.str ""))) (tCons (tFld K (tVar 0) "_boxes") tNil))) rfl scStMip.nd (pi_str (pe_fld (pv 0) rfl)) (blkOk_by (own := [("box", 6)]) (N := nStMip) (sc := defScope sStMip) (by decide +kernel))
          (fun _ _ _ _ _ => pg_name (i := 6) scStMip.nd rfl (.inl rfl)) (fun _ _ _ _ _ => pts_nil) (fun _ _ _ _ _ => pv 6) (fun _ _ _ _ _ => pe_df DP hr (pa_cons (pe_dget2 hu (pv 5) (pv 6) pe_str ⟨rfl, rfl, rfl, rfl⟩) (pa_cons (pe_fld (pv 0) rfl) pa_nil)))) pa_nil))))))), ?_⟩
    obtain ⟨dx, pl, mv, en, kk, h1, h2, h3, h4, h5, hne⟩ := id hp.ob
    refine ⟨_, rfl, s, CS, dxs, _, _, rfl, hs, U.cl, U.nP, sf_p _ _ _, p, dx, _, rfl, h1, fl_no _ _ _ _ _ (by decide +kernel), _, rfl, _, rfl, p, c, a, L, B, places, ms, es, rfl, hp.at, ?_⟩
    cases hf : findM ms c a with
    | none =>
      rw [hf] at q
      exact fun H' s' => ⟨_, rfl, rfl, _, rfl, iteT (q H' s')⟩
    | some m =>
      rw [hf] at q
      intro t d H2 s2 n2 n3 e2 e3
      have hmm : m ∈ ms := by
        unfold findM at hf
        exact List.mem_of_find?_eq_some hf
      refine ⟨_, rfl, rfl, _, rfl, iteF ⟨_, rfl, t, _, rfl, SqT.of e2, rfl, _, _, rfl, _, _, rfl, rfl, ?_⟩⟩
      refine ⟨_, rfl, _, rfl, s, CS, dxs, _, _, rfl, s2 _ _ hs, U.cl, U.nB, sf_b _ _ _, S B, rfl, fun D nD => ?_⟩
      refine dc_relW (xs := sgs B) keyV (fun H x v => ∃ b a, x = .str (S [b]) ∧ v = .ref a ∧ H a = some (.lst (txs (partsOf ((getF m.fl [b]).getD []))))) ?_ walk_str (by unfold sgs; rw [List.length_map]; rfl) (fun i H x H' y => str_item y) (fun _ _ => trivial) nD ?_ (sgs_keys G.nB) ?_ ?_ ?_
      · rintro H H' x v ⟨kvs, eD⟩ hb ⟨b, a', e1, e2', e3'⟩
        exact ⟨b, a', e1, e2', hb _ _ e3' (ne_of e3' eD (by intro z; cases z))⟩
      · unfold sgs
        rw [List.length_map]
        have := G.lB
        exact small1000 (by omega)
      · intro x hx H' R s' r
        obtain ⟨b, hb, rfl⟩ := List.mem_map.mp hx
        exact ⟨_, rfl, r⟩
      · intro x hx H' R s' r
        obtain ⟨b, hb, rfl⟩ := List.mem_map.mp hx
        refine ⟨_, rfl, d, rfl, .inl ⟨_, .inl (s' _ _ e3)⟩, _, rfl, _, DGet.k (k := Sum.inr (S [b])) (s' _ _ e3), ?_⟩
        rw [val_fkv]
        have ev : ((getF m.fl [b]).map fun f => V.str (S f)).getD (.str (Str.ofString "")) = .str (S ((getF m.fl [b]).getD [])) := by
          rw [str_empty]
          cases getF m.fl [b] <;> rfl
        rw [ev]
        obtain ⟨g1, g2, g3⟩ := G.fill hmm hb
        refine ⟨_, rfl, s, CS, dxs, _, _, rfl, s' _ _ (s2 _ _ hs), U.cl, U.nB, sf_b _ _ _, _, B, rfl, g1, by have := G.lB; omega, G.nB, G.cB, g2, g3, fun a' H'' s'' n'' e'' => r H'' _ s'' ⟨b, a', rfl, rfl, e''⟩⟩
      · intro H' kvs s' e' hpair
        refine ⟨by show 2 ≤ sizeLine; decide, fun t' H3 s3 n4 e4 => q t' D kvs H3 (s2.trans (s'.trans s3)) e4 (s3 _ _ e') ?_⟩
        have h6 := paired_map (m := B) (g := fun c => V.str (S [c])) hpair
        refine Paired.mono (fun kv b h => ?_) h6
        obtain ⟨e, b', a', hb', ha, hl⟩ := h
        have : b' = b := by
          injection hb' with z
          have := S_inj z
          injection this with h _
          exact h.symm
        subst this
        exact ⟨e, a', ha, s3 _ _ hl⟩
abbrev nStMove : List Str := ["self", "place", "letter", "key"]
theorem scStMove : FnScope nStMove ["self", "place", "letter"] (defScope sStMove) := ⟨rfl, rfl, rfl, by decide +kernel, rfl, by decide +kernel, by decide +kernel⟩
def spStMove (CS C : Addr) : Sp := fun vs H Q _ => ∃ (s p g : Addr) (c : List Nat) (a : Nat) (L B : List Nat) (places : List (List Nat)) (ms : List Mv) (es : Fil) (n : Nat), vs = [.ref s, .str (S c), .str (S [a])] ∧ StAt CS C H s p g L B places ms es n ∧ PgOk B ms es ∧ n < 1000000 ∧
  match findM ms c a with
  | none => ∀ H', But g H H' → StAt CS C H' s p g L B places ms es (n + 1) → Q .non H'
  | some m => ∀ t d kvs H', But g H H' → StAt CS C H' s p g L B places ms es (n + 1) → H' t = some (.tup [.str (S m.to), .ref d]) → H' d = some (.dK kvs) → PtsAt H' kvs B m.fl → Q (.ref t) H'
theorem ok_stMove {f CS C : Addr} {fd : FuncData} {k : Nat} (F : Fun K "move" "Steps.move" sStMove f fd) (U : StTxt K mg CS) (DM : Mth P w K mg base CS (k + 2) "_move_in_parts" ["place", "letter"] (spStMip CS C)) :
    FnOk P w K mg base CX0 (k + 3) f fd ["self", "place", "letter"] (spStMove CS C) := by
  refine F.ok scStMove (fun vs H Q E h => ?_) (fun cdv A outer st H vs Q E hr h => ?_)
  · obtain ⟨s, p, g, c, a, L, B, places, ms, es, n, rfl, _⟩ := h
    rfl
  · obtain ⟨s, p, g, c, a, L, B, places, ms, es, n, rfl, hst, G, hn, q⟩ := h
    have hu := hu_of hr
    obtain ⟨dxs, kvs, hs, hp, hg, hlen, hcache⟩ := id hst.ob
    refine ⟨_, pss_cons (ps_set (i := 3) scStMove.nd rfl (.inl rfl) (pe_tupS (pa_cons (pv 1) (pa_cons (pv 2) pa_nil))))
      (C8.pss_cut (ps_if (pt_cmp (pc_dnotin hu (pv 3) (pe_fld (pv 0) rfl))) (pss_one (ps_dput hu (pe_fld (pv 0) rfl) (pv 3) (pe_mth DM U.cl hr (pv 0) (pa_cons (pv 1) (pa_cons (pv 2) pa_nil))) rfl)) pss_nil)
      (pss_one (ps_ret (pe_dget hu (pe_fld (pv 0) rfl) (pv 3) (fun _ _ => rfl))))), ?_⟩
    refine ⟨_, rfl, _, rfl, by show 2 ≤ sizeLine; decide, fun kT H4 s4 n4 e4 => ?_⟩
    have e4' : H4 kT = some (.tup ((mkey c a).map kV)) := e4
    have hst4 := hst.same s4
    have hg4 := s4 _ _ hg
    have hs4 := s4 _ _ hs
    have small : kvs.length < sizeLine := by
      have big : (1000000 : Nat) < sizeLine := by rw [sizeLine_eq]; decide
      omega
    have hc4 : ∀ c a v, valV kvs (mkey c a) = some v → CacheS H4 ms B c a v := fun c a v z => (hcache c a v z).same s4
    have hsg : s ≠ g := ne_of hs hg (by intro z; cases z)
    refine ⟨fun σ H' => ∃ (kvs' : List (List Key × V)) (v : V), σ = [some (.ref s), some (.str (S c)), some (.str (S [a])), some (.ref kT)] ∧ But g H4 H' ∧ H' g = some (.dT kvs') ∧ kvs'.length ≤ n + 1 ∧
          (∀ c a v, valV kvs' (mkey c a) = some v → CacheS H' ms B c a v) ∧ valV kvs' (mkey c a) = some v, ?_, ?_⟩
    · refine ⟨_, rfl, _, rfl, s, CS, dxs, _, _, rfl, hs4, U.cl, U.nM, sf_m _ _ _, g, _, rfl, DGet.t (k := mkey c a) hg4 e4', _, rfl, ?_⟩
      cases e : valV kvs (mkey c a) with
      | some v => exact iteF ⟨kvs, v, rfl, But.refl g H4, hg4, by omega, hc4, e⟩
      | none =>
        refine iteT ?_
        have put : ∀ (v : V) (H5 : Hp), Same H4 H5 → CacheS H5 ms B c a v → ∃ (kvs' : List (List Key × V)) (v' : V), [some (V.ref s), some (.str (S c)), some (.str (S [a])), some (.ref kT)] = [some (V.ref s), some (.str (S c)), some (.str (S [a])), some (.ref kT)] ∧ But g H4 (upd H5 g (.dT (putK kvs (mkey c a) v))) ∧ (upd H5 g (.dT (putK kvs (mkey c a) v))) g = some (.dT kvs') ∧ kvs'.length ≤ n + 1 ∧
            (∀ c1 a1 v1, valV kvs' (mkey c1 a1) = some v1 → CacheS (upd H5 g (.dT (putK kvs (mkey c a) v))) ms B c1 a1 v1) ∧ valV kvs' (mkey c a) = some v' := by
          intro v H5 s5 hv
          have b5 : But g H5 (upd H5 g (.dT (putK kvs (mkey c a) v))) := But.upd g H5 _
          refine ⟨_, v, rfl, (Same.but s5 g).trans b5, upd_same, ?_, ?_, ?_⟩
          · rw [putK_end v (valV_not e), List.length_append]
            show _ + 1 ≤ _
            omega
          · intro c' a' v' z
            rw [valV_put] at z
            by_cases e' : mkey c' a' = mkey c a
            · rw [if_pos e'] at z
              obtain ⟨rfl, rfl⟩ := mkey_inj e'
              rw [← Option.some.inj z]
              exact hv.but (s5 _ _ hg4) b5
            · rw [if_neg e'] at z
              exact (hc4 c' a' v' z).but hg4 ((Same.but s5 g).trans b5)
          · rw [valV_put, if_pos rfl]
        refine ⟨_, rfl, s, dxs, _, rfl, hs4, sf_no _ _ _ (by decide +kernel), _, rfl, _, rfl, s, p, g, c, a, L, B, places, ms, es, n, rfl, hst4, G, ?_⟩
        cases hf : findM ms c a with
        | none =>
          intro H5 s5
          refine ⟨_, rfl, s, CS, dxs, _, _, rfl, s5 _ _ hs4, U.cl, U.nM, sf_m _ _ _, _, rfl, g, _, rfl, DPut.t (k := mkey c a) (s5 _ _ hg4) (s5 _ _ e4') small, put .non H5 s5 ?_⟩
          unfold CacheS
          rw [hf]
        | some m =>
          intro t' pd kv H5 s5 e5 e6 hpts
          refine ⟨_, rfl, s, CS, dxs, _, _, rfl, s5 _ _ hs4, U.cl, U.nM, sf_m _ _ _, _, rfl, g, _, rfl, DPut.t (k := mkey c a) (s5 _ _ hg4) (s5 _ _ e4') small, put (.ref t') H5 s5 ?_⟩
          unfold CacheS
          rw [hf]
          exact ⟨t', pd, kv, rfl, e5, e6, hpts⟩
    · rintro σ H5 ⟨kvs', v, rfl, b5, hg5, lk', hc5, hv⟩
      have e5' : H5 kT = some (.tup ((mkey c a).map kV)) := b5 _ _ e4' (ne_of e4' hg4 (by intro z; cases z))
      have hs5 : H5 s = some (.ins CS dxs (stF p B g)) := b5 _ _ hs4 hsg
      have hb : But g H H5 := (Same.but s4 g).trans b5
      have hst5 : StAt CS C H5 s p g L B places ms es (n + 1) := ⟨dxs, kvs', hs5, (hp.same s4).but hg4 b5, hg5, lk', hc5⟩
      have hcv := hc5 c a v hv
      refine ⟨_, rfl, s, CS, dxs, _, _, rfl, hs5, U.cl, U.nM, sf_m _ _ _, _, rfl, g, v, rfl, hv ▸ DGet.t (k := mkey c a) hg5 e5', ?_⟩
      unfold CacheS at hcv
      cases hf : findM ms c a with
      | none =>
        rw [hf] at hcv q
        subst hcv
        exact q H5 hb hst5
      | some m =>
        rw [hf] at hcv q
        obtain ⟨tt, pd, kv, rfl, htt, hpd, hpts⟩ := hcv
        exact q tt pd kv H5 hb hst5 htt hpd hpts
end
end Tb

set_option Elab.async false
set_option linter.all false
set_option maxRecDepth 100000
set_option maxHeartbeats 4000000
namespace Tb
open PySem PySem.Spec PyProof.Rows L2 TL
theorem sum_le {env : Env} {q : Nat × List Nat} (h : q ∈ env) : q.2.length ≤ (env.map (·.2.length)).sum := by
  induction env with
  | nil => exact nomatch h
  | cons x env ih =>
    rw [List.map_cons, List.sum_cons]
    rcases List.mem_cons.mp h with e | e
    · rw [e]
      exact Nat.le_add_right _ _
    · exact Nat.le_trans (ih e) (Nat.le_add_left _ _)
section
variable {ms : List Mv} {B : List Nat} {es : Fil}
def nextE (env : Env) (B : List Nat) (fl : Fil) : Env := B.map fun b => (b, fillE env (partsOf (fil fl b)))
theorem nextE_keys (env : Env) (B : List Nat) (fl : Fil) : (nextE env B fl).map (·.1) = B := by
  unfold nextE
  rw [List.map_map]
  exact List.map_id _
theorem step_tight (G : PgOk B ms es) {m : Mv} (hm : m ∈ ms) {env : Env} (hk : env.map (·.1) = B) : ((nextE env B m.fl).map (·.2.length)).sum ≤ (env.map (·.2.length)).sum + 7 * B.length := by
  unfold nextE
  rw [sumE]
  have hg := G.good m hm
  have h1 := fillE_len (env := env) (L := allP B m.fl) (fun q hq => by
    have hb : q.1 ∈ B := by
      rw [← hk]
      exact List.mem_map.mpr ⟨q, hq, rfl⟩
    rw [allP_count (G.cB _ hb)]
    exact hg.one _ hb)
  rw [allP_flat] at h1
  have := hg.ti
  omega
theorem mem_next {env : Env} {b : Nat} {fl : Fil} (hb : b ∈ B) : (b, fillE env (partsOf (fil fl b))) ∈ nextE env B fl := List.mem_map.mpr ⟨b, hb, rfl⟩
theorem end_tight (G : PgOk B ms es) {c f : List Nat} (h : getF es c = some f) {env : Env} (hk : env.map (·.1) = B) : (fillE env (partsOf f)).length ≤ (env.map (·.2.length)).sum + f.length := by
  have h1 := fillE_len (env := env) (L := partsOf f) (fun q hq => by
    have hb : q.1 ∈ B := by
      rw [← hk]
      exact List.mem_map.mpr ⟨q, hq, rfl⟩
    rw [parts_count (G.cB _ hb)]
    exact (G.en _ _ h).2 _ hb)
  rw [parts_flat] at h1
  omega
end
section
variable {X : Cx} {C : Addr} {k j : Nat} {nm : Str} {sp : Sp} {o : Expr} {to : TE}
theorem pe_mthZ {apos pos : Pos} {pl : Sem Bool} (D : Mth X.prog X.w X.K X.mg X.base C k nm [] sp) (c : Cls X.K C) (hr : Room j X.A) (he : PE X o to) (hk : k ≤ j := by omega)
    (ht : eval (.Call (.Attribute o nm apos) [] [] pos) X.env = (do
      let ov ← eval o X.env
      standAt apos.atName
      let (f, first) ← holding [ov] (getMethod ov nm pl)
      callWith pos f first (backTo pos (starEach [] X.env)) (backToKw pos (keywordEach [] X.env))) := by rfl) :
    PE X (.Call (.Attribute o nm apos) [] [] pos) (tMeth C nm sp [] E0 to tNil) := by
  obtain ⟨f, fd, hm, F, b⟩ := D.ex
  exact pe_meth0 he c hm F (hr.mono hk) b .nil pass0 ht
end
section
variable {P : Program} {w : World} {K : PySem.W.Frag} {mg : Str → Option Value} {base : Heap}
abbrev nStFirst : List Str := ["self", "box"]
theorem scStFirst : FnScope nStFirst ["self"] (defScope sStFirst) := ⟨rfl, rfl, rfl, by decide +kernel, rfl, by decide +kernel, by decide +kernel⟩
def spStFirst (CS C : Addr) : Sp := fun vs H Q _ => ∃ (s p g : Addr) (L B pl0 : List Nat) (places : List (List Nat)) (ms : List Mv) (es : Fil) (n : Nat), vs = [.ref s] ∧ StAt CS C H s p g L B (pl0 :: places) ms es n ∧ PgOk B ms es ∧
  ∀ T d H', Same H H' → H d = none → H' T = some (.tup [.str (S pl0), .ref d]) → H' d = some (.dK (envK (B.map fun b => (b, [])))) → Q (.ref T) H'
theorem start_eq (B : List Nat) : ((sgs B).filter fun _ => true).map (fun x => (keyV x, V.str (Str.ofString ""))) = envK (B.map fun b => (b, [])) := by
  rw [List.filter_eq_self.mpr (fun _ _ => rfl), str_empty]
  unfold sgs envK
  simp only [List.map_map]
  rfl
theorem ok_stFirst {f CS C : Addr} {fd : FuncData} {k : Nat} (F : Fun K "first" "Steps.first" sStFirst f fd) (T : PrTxt K mg C) (U : StTxt K mg CS) (DP : Prp P w K mg base C (k + 1) "places" (getSp C "_places")) : FnOk P w K mg base CX0 (k + 3) f fd ["self"] (spStFirst CS C) := by
  refine F.ok scStFirst (fun vs H Q E h => ?_) (fun cdv A outer st H vs Q E hr h => ?_)
  · obtain ⟨s, p, g, L, B, pl0, places, ms, es, n, rfl, _⟩ := h
    rfl
  · obtain ⟨s, p, g, L, B, pl0, places, ms, es, n, rfl, hst, G, q⟩ := h
    have hu := hu_of hr
    obtain ⟨dxs, kvs, hs, hp, hg, hlen, hcache⟩ := id hst.ob
    obtain ⟨dx, pl, mv, en, kk, h1, h2, h3, h4, h5, hne⟩ := id hp.ob
    refine ⟨_, pss_one (ps_ret (pe_tupS (pa_cons (pe_ix ix_tup (pe_prp DP T.cl hr (pe_fld (pv 0) rfl)) pe_int (fun _ _ => rfl)) (pa_cons (pe_dc (own := [("box", 1)]) (g := gName 1) (tt := tYes) (tk := tVar 1) (tv := tC (.str "")) rfl scStFirst.nd (pi_str (pe_fld (pv 0) rfl)) (blkOk_by (own := [("box", 1)]) (N := nStFirst) (sc := defScope sStFirst) (by decide +kernel))
      (fun _ _ _ _ _ => pg_name (i := 1) scStFirst.nd rfl (.inl rfl)) (fun _ _ _ _ _ => pts_nil) (fun _ _ _ _ _ => pv 1) (fun _ _ _ _ _ => pe_str)) pa_nil)))), ?_⟩
    refine ⟨_, rfl, s, CS, dxs, _, _, rfl, hs, U.cl, U.nP, sf_p _ _ _, p, dx, _, rfl, h1, p, dx, _, _, rfl, h1, fl_p _ _ _ _ _, pl, _, 0, _, rfl, rfl, SqT.of h2, atI_nat rfl, ?_⟩
    refine ⟨_, rfl, s, CS, dxs, _, _, rfl, hs, U.cl, U.nB, sf_b _ _ _, S B, rfl, fun D nD => ?_⟩
    refine dc_mapW (xs := sgs B) (fun _ => true) keyV (fun _ => V.str (Str.ofString "")) walk_str (by unfold sgs; rw [List.length_map]; rfl) (fun i H x H' y => str_item y) (fun _ _ => trivial) nD ?_ (by rw [List.filter_eq_self.mpr (fun _ _ => rfl)]; exact sgs_keys G.nB) (fun x hx H' R s' r => r) ?_ ?_ ?_
    · unfold sgs
      rw [List.length_map]
      exact small1000 (by have := G.lB; omega)
    · intro x hx _ H' R s' r'
      obtain ⟨b, hb, rfl⟩ := List.mem_map.mp hx
      exact ⟨_, rfl, r'⟩
    · intro x hx _ H' R s' r'
      exact r' H' (fun _ _ e => e)
    · intro H' s' e'
      rw [start_eq] at e'
      exact ⟨by show 2 ≤ sizeLine; decide, fun t' H3 s3 n4 e4 => q t' D H3 (s'.trans s3) nD e4 (s3 _ _ e')⟩
abbrev nStBehind : List Str := ["self", "state", "text", "place", "ropes", "letter", "found", "fillings"]
theorem scStBehind : FnScope nStBehind ["self", "state", "text"] (defScope sStBehind) := ⟨rfl, rfl, rfl, by decide +kernel, rfl, by decide +kernel, by decide +kernel⟩
def spStBehind (CS C : Addr) : Sp := fun vs H Q _ => ∃ (s p g : Addr) (L B : List Nat) (places : List (List Nat)) (ms : List Mv) (es : Fil) (n : Nat) (t : List Nat), StAt CS C H s p g L B places ms es n ∧ PgOk B ms es ∧ n + t.length < 1000000 ∧
  ((vs = [.ref s, .non, .str (S t)] ∧ Q .non H) ∨ ∃ (T d : Addr) (c : List Nat) (env : Env), vs = [.ref s, .ref T, .str (S t)] ∧ H T = some (.tup [.str (S c), .ref d]) ∧ H d = some (.dK (envK env)) ∧ env.map (·.1) = B ∧ (env.map (·.2.length)).sum + t.length * (7 * B.length) ≤ 500 ∧
    match runE ms B (c, env) t with
    | none => ∀ H', But g H H' → StAt CS C H' s p g L B places ms es (n + t.length) → Q .non H'
    | some z => ∀ T' d' H', But g H H' → StAt CS C H' s p g L B places ms es (n + t.length) → H' T' = some (.tup [.str (S z.1), .ref d']) → H' d' = some (.dK (envK z.2)) → z.2.map (·.1) = B → (z.2.map (·.2.length)).sum ≤ (env.map (·.2.length)).sum + t.length * (7 * B.length) → Q (.ref T') H')
theorem ok_stBehind {f CS C : Addr} {fd : FuncData} {k : Nat} (F : Fun K "behind" "Steps.behind" sStBehind f fd) (U : StTxt K mg CS) (DM : Mth P w K mg base CS (k + 3) "move" ["place", "letter"] (spStMove CS C)) (DF : Df P w K mg base (k + 4) "filled" ["fillings", "ropes"] spFilled) : FnOk P w K mg base CX0 (k + 5) f fd ["self", "state", "text"] (spStBehind CS C) := by
  refine F.ok scStBehind (fun vs H Q E h => ?_) (fun cdv A outer st H vs Q E hr h => ?_)
  · obtain ⟨s, p, g, L, B, places, ms, es, n, t, _, _, _, ⟨rfl, _⟩ | ⟨_, _, _, _, rfl, _⟩⟩ := h <;> rfl
  · obtain ⟨s, p, g, L, B, places, ms, es, n, t, hst, G, hn, h⟩ := h
    have hu := hu_of hr
    refine ⟨_, pss_cons (ps_if (pt_cmpR op_isN (pv 1) pe_non (nomark _)) (pss_one (ps_ret pe_non)) pss_nil)
      (pss_cons (ps_asg (pv 1) (pg_tup rfl (pgs_cons (pg_name (i := 3) scStBehind.nd rfl (.inl rfl)) (pgs_cons (pg_name (i := 4) scStBehind.nd rfl (.inl rfl)) pgs_nil))))
      (pss_cons (ps_for PassesOwn.never rfl (pi_str (pv 2)) (pg_name (i := 5) scStBehind.nd rfl (.inl rfl))
        (pss_cons (ps_set (i := 6) scStBehind.nd rfl (.inl rfl) (pe_mth DM U.cl hr (pv 0) (pa_cons (pv 3) (pa_cons (pv 5) pa_nil))))
        (pss_cons (ps_if (pt_cmpR op_isN (pv 6) pe_non (nomark _)) (pss_one (ps_ret pe_non)) pss_nil)
        (pss_cons (ps_asg (pv 6) (pg_tup rfl (pgs_cons (pg_name (i := 3) scStBehind.nd rfl (.inl rfl)) (pgs_cons (pg_name (i := 7) scStBehind.nd rfl (.inl rfl)) pgs_nil))))
        (pss_one (ps_set (i := 4) scStBehind.nd rfl (.inl rfl) (pe_df DF hr (pa_cons (pv 7) (pa_cons (pv 4) pa_nil)))))))))
      (pss_one (ps_ret (pe_tupS (pa_cons (pv 3) (pa_cons (pv 4) pa_nil))))))), ?_⟩
    rcases h with ⟨rfl, q⟩ | ⟨T, d, c, env, rfl, hT, hd, hk, hsum, q⟩
    · exact ⟨_, rfl, rfl, _, rfl, iteT q⟩
    refine ⟨_, rfl, rfl, _, rfl, iteF ⟨_, rfl, T, _, rfl, SqT.of hT, rfl, _, _, rfl, _, _, rfl, rfl, ?_⟩⟩
    refine ⟨_, rfl, S t, rfl, for_it (walk_str (z := S t)) (fun j σ H' => ∃ (c' : List Nat) (d' : Addr) (env' : Env) (v5 v6 v7 : Option V),
        σ = [some (.ref s), some (.ref T), some (.str (S t)), some (.str (S c')), some (.ref d'), v5, v6, v7] ∧ But g H H' ∧ StAt CS C H' s p g L B places ms es (n + j) ∧
        runE ms B (c, env) (t.take j) = some (c', env') ∧ H' d' = some (.dK (envK env')) ∧ env'.map (·.1) = B ∧ (env'.map (·.2.length)).sum ≤ (env.map (·.2.length)).sum + j * (7 * B.length))
      ⟨c, d, env, none, none, none, rfl, But.refl g H, hst, rfl, hd, hk, Nat.le_add_right _ _⟩ (fun _ _ _ _ _ => trivial) ?_ ?_⟩
    · rintro j x σ H3 H3' hj ⟨c', d', env', v5, v6, v7, rfl, b3, hst3, hrun, hd3, hk3, hsum3⟩ ⟨rfl, a, ha, rfl⟩
      have ha' : t[j]? = some a := by
        rw [show (S t).cps = t.toArray from rfl, List.getElem?_toArray] at ha
        exact ha
      have hjt : j < t.length := (List.getElem?_eq_some_iff.mp ha').1
      have etake : t.take (j + 1) = t.take j ++ [a] := by
        rw [List.take_add_one, ha']
        rfl
      have erun : runE ms B (c, env) (t.take (j + 1)) = stepE ms B (c', env') a := by
        rw [etake, runE_app, hrun]
        show (stepE ms B (c', env') a).bind (fun s' => some s') = _
        cases stepE ms B (c', env') a <;> rfl
      have hmul : (j + 1) * (7 * B.length) ≤ t.length * (7 * B.length) := Nat.mul_le_mul_right _ hjt
      have hmul2 : (j + 1) * (7 * B.length) = j * (7 * B.length) + 7 * B.length := Nat.succ_mul _ _
      refine ⟨_, rfl, s, ?_⟩
      obtain ⟨dxs, kvs, hs, hp, hg, hlen, hcache⟩ := id hst3.ob
      refine ⟨dxs, _, rfl, hs, sf_no _ _ _ (by decide +kernel), _, rfl, _, rfl, s, p, g, c', a, L, B, places, ms, es, n + j, rfl, hst3, G, by omega, ?_⟩
      have hd3g : d' ≠ g := ne_of hd3 hg (by intro z; cases z)
      cases hf : findM ms c' a with
      | none =>
        intro H4 b4 hst4
        refine ⟨_, rfl, rfl, _, rfl, iteT ?_⟩
        have hnone : runE ms B (c, env) t = none := by
          have e1 : t = t.take (j + 1) ++ t.drop (j + 1) := (List.take_append_drop _ _).symm
          rw [e1, runE_app, erun]
          unfold stepE
          rw [hf]
          rfl
        rw [hnone] at q
        exact q H4 (b3.trans b4) (hst4.le (by omega))
      | some m =>
        intro tt fa kv H4 b4 hst4 htt hfa hpts
        have hmm : m ∈ ms := by
          unfold findM at hf
          exact List.mem_of_find?_eq_some hf
        refine ⟨_, rfl, rfl, _, rfl, iteF ⟨_, rfl, tt, _, rfl, SqT.of htt, rfl, _, _, rfl, _, _, rfl, rfl, ?_⟩⟩
        have hst' := step_tight G hmm hk3
        refine ⟨_, rfl, _, rfl, fa, d', kv, m.fl, B, env', rfl, hfa, hpts, b4 _ _ hd3 hd3g, G.nB, by have := G.lB; omega, fun b hb => (G.fill hmm hb).1, fun b hb => ?_, fun d2 H5 s5 n5 e5 => ?_⟩
        · have := sum_le (mem_next (env := env') (fl := m.fl) hb)
          have this : (fillE env' (partsOf (fil m.fl b))).length ≤ _ := this
          omega
        · refine ⟨m.to, d2, nextE env' B m.fl, _, _, _, rfl, (b3.trans b4).trans (Same.but s5 g), (hst4.same s5).le (by omega), ?_, e5, nextE_keys _ _ _, by omega⟩
          rw [erun]
          unfold stepE
          rw [hf]
          rfl
    · rintro σ H3 ⟨c', d', env', v5, v6, v7, rfl, b3, hst3, hrun, hd3, hk3, hsum3⟩
      have lsz : (S t).cps.size = t.length := rfl
      rw [lsz] at hrun hsum3 hst3
      rw [List.take_length] at hrun
      rw [hrun] at q
      exact ⟨_, rfl, _, rfl, by show 2 ≤ sizeLine; decide, fun T' H4 s4 n4 e4 => q T' d' H4 (b3.trans (Same.but s4 g)) (hst3.same s4) e4 (s4 _ _ hd3) hk3 hsum3⟩
end
end Tb

set_option Elab.async false
set_option linter.all false
set_option maxRecDepth 100000
set_option maxHeartbeats 4000000
namespace Tb
open PySem PySem.Spec PyProof.Rows L2 TL
theorem rf_no (l : List Nat) (m : Addr) (r : List Nat) (n : Nat) : (ropeF l m r n).lookup ("pieces" : Str) = none := by
  show List.lookup _ (_ :: _ :: _ :: _ :: []) = _
  rw [List.lookup_cons, show (("pieces" : Str) == "left") = false by decide +kernel, List.lookup_cons, show (("pieces" : Str) == "middle") = false by decide +kernel, List.lookup_cons, show (("pieces" : Str) == "right") = false by decide +kernel, List.lookup_cons, show (("pieces" : Str) == "length") = false by decide +kernel]
  rfl
theorem snoc_orG {α : Type} : ∀ l : List α, l = [] ∨ ∃ a x, l = a ++ [x]
  | [] => .inl rfl
  | y :: r => .inr (by
    rcases snoc_orG r with e | ⟨a, x, e⟩
    · exact ⟨[], y, by rw [e]; rfl⟩
    · exact ⟨y :: a, x, by rw [e]; rfl⟩)
theorem paired_unsnocG {α β : Type} {F : α → β → Prop} : ∀ {a : List α} {b : List β} {x : α} {y : β}, Paired F (a ++ [x]) (b ++ [y]) → Paired F a b ∧ F x y
  | [], [], _, _, .cons h _ => ⟨.nil, h⟩
  | [], _ :: b, _, _, .cons _ t => by
    have := Paired.length t
    simp at this
  | _ :: a, [], _, _, .cons _ t => by
    have := Paired.length t
    simp at this
  | _ :: as, _ :: bs, _, _, .cons h t => ⟨.cons h (paired_unsnocG t).1, (paired_unsnocG t).2⟩
theorem paired_appG {α β : Type} {F : α → β → Prop} : ∀ {a c : List α} {b d : List β}, Paired F a b → Paired F c d → Paired F (a ++ c) (b ++ d)
  | _, _, _, _, .nil, h => h
  | _, _, _, _, .cons h t, k => .cons h (paired_appG t k)
theorem paired_revG {α β : Type} {F : α → β → Prop} : ∀ {a : List α} {b : List β}, Paired F a b → Paired F a.reverse b.reverse
  | _, _, .nil => .nil
  | _, _, .cons h t => by
    rw [List.reverse_cons, List.reverse_cons]
    exact paired_appG (paired_revG t) (.cons h .nil)
theorem sum_revG (l : List Nat) : l.reverse.sum = l.sum := List.sum_reverse l
/-- what a stack of ropes tells, its top first -/
def stkW (ps : List (List Nat × Nat)) : List Nat := (ps.reverse.map (·.1)).flatten
def stkN (ps : List (List Nat × Nat)) : Nat := (ps.map (·.2)).sum
theorem stkN_le {CR : Addr} {H : Hp} : ∀ {vs : List V} {ps : List (List Nat × Nat)}, Paired (fun v p => RpV CR H v p.1 p.2) vs ps → vs.length ≤ stkN ps
  | _, _, .nil => Nat.zero_le _
  | _, _, .cons (b := p) h t => by
    have h1 := stkN_le t
    have h2 := h.few.2.2
    unfold stkN at h1 ⊢
    rw [List.length_cons, List.map_cons, List.sum_cons]
    omega
section
variable {P : Program} {w : World} {K : PySem.W.Frag} {mg : Str → Option Value} {base : Heap}
def spWrittenG (CR : Addr) : Sp := fun vs H Q _ => ∃ (v : V) (c : List Nat) (n : Nat), vs = [v] ∧ RpV CR H v c n ∧ c.length ≤ 1000000 ∧ ∀ H', Same H H' → Q (.str (S c)) H'
theorem ok_writtenG {f CR : Addr} {fd : FuncData} {k : Nat} (F : Fun K "written" "written" sWritten f fd) (T : RpTxt K mg CR) (MP : Mth P w K mg base CR (k + 1) "pieces" [] (spRpPieces CR)) (mi : mg "isinstance" = none) (ms : mg "str" = none) : FnOk P w K mg base CX0 (k + 2) f fd ["rope"] (spWrittenG CR) := by
  refine F.ok scWritten (fun vs H Q E h => ?_) (fun cdv A outer s H vs Q E hr h => ?_)
  · obtain ⟨v, c, n, rfl, _⟩ := h
    rfl
  · obtain ⟨v, c, n, rfl, hv, hl, q⟩ := h
    refine ⟨_, pss_cons (ps_set (i := 1) scWritten.nd rfl (.inl rfl) (pe_lstS pa_nil))
      (pss_cons (ps_set (i := 2) scWritten.nd rfl (.inl rfl) (pe_lstS (pa_cons (pv 0) pa_nil)))
      (pss_cons (ps_while PassesOwn.never (pt_truth (pv 2) (fun _ => rfl))
        (pss_cons (ps_set (i := 3) scWritten.nd rfl (.inl rfl) (pe_bm0 PySem.F.plainAttrs_list PySem.F.slot_list_pop PySem.F.type_list_pop mt_pop (pv 2)))
        (pss_one (ps_if (pt_val (pe_isStr (pv 3) mi (by rfl) ms (by rfl)))
          (pss_one (ps_expr (pe_bm PySem.F.plainAttrs_list PySem.F.slot_list_append PySem.F.type_list_append mt_append (pv 1) (pa_cons (pv 3) pa_nil))))
          (pss_one (ps_expr (pe_bm PySem.F.plainAttrs_list PySem.F.slot_list_extend PySem.F.type_list_extend mt_extend (pv 2) (pa_cons (pe_revL (pe_mthZ MP T.cl hr (pv 3))) pa_nil))))))))
      (pss_one (ps_ret (pe_join pe_str (pv 1)))))), ?_⟩
    have big : (16000000 : Nat) < sizeLine := by rw [sizeLine_eq]; decide
    refine ⟨Nat.zero_le _, fun t H1 s1 n1 e1 => ⟨_, rfl, by show 1 ≤ sizeLine; omega, fun g H2 s2 n2 e2 => ?_⟩⟩
    have ntg : t ≠ g := fun z => by rw [← z, e1] at n2; cases n2
    have nHg : H g = none := s1.free n2
    have hn := hv.few.1
    show tWhile (fun σ H0 Q => tVar 2 σ H0 fun x H' => ∃ k, TruV K x H' k ∧ Q k H') _ _ [some v, some (.ref t), some (.ref g), none] H2
    refine while_W (fun m σ H' => ∃ v3, ∃ done : List (List Nat), ∃ (stk : List V) (ps : List (List Nat × Nat)), σ = [some v, some (.ref t), some (.ref g), v3] ∧ Same H H' ∧ H' t = some (.lst (txs done)) ∧ H' g = some (.lst stk) ∧ Paired (fun v p => RpV CR H' v p.1 p.2) stk ps ∧ c = done.flatten ++ stkW ps ∧ m = stkN ps ∧ done.length + stkN ps ≤ n)
      ⟨n, none, [], [v], [(c, n)], rfl, s1.trans s2, s2 _ _ e1, e2, .cons ((hv.same s1).same s2) .nil, by unfold stkW; simp, by unfold stkN; simp, by unfold stkN; simp⟩ ?_ (fun σ H Q Q' m ⟨v, e, k, t, q⟩ => ⟨v, e, k, t, m _ _ q⟩)
    rintro m σ H3 ⟨v3, done, stk, ps, rfl, s3, et, eg, hps, hc, hm, hb⟩
    have lst := stkN_le hps
    rcases snoc_orG stk with e | ⟨stk', u, e⟩
    · subst e
      have eps : ps = [] := List.eq_nil_of_length_eq_zero (Paired.length hps).symm
      subst eps
      have hc : c = done.flatten := by
        rw [hc]
        unfold stkW
        simp
      refine ⟨_, rfl, false, .inl ⟨_, SqL.of eg, rfl⟩, iteF ?_⟩
      refine ⟨⟨_, rfl⟩, _, rfl, _, t, done.map S, rfl, rfl, .inl (SqL.of (by rw [et]; unfold txs; rw [List.map_map]; rfl)), ?_, ?_⟩
      · rw [len_fil, str_empty, len_S, ← hc]
        show c.length + _ * 0 ≤ _
        omega
      · rw [str_empty, join_fil, ← hc]
        exact q H3 s3
    · subst e
      rcases snoc_orG ps with e | ⟨ps', p, e⟩
      · subst e
        have := Paired.length hps
        simp at this
      subst e
      obtain ⟨hps', hu⟩ := paired_unsnocG hps
      have eN : stkN (ps' ++ [p]) = stkN ps' + p.2 := by
        unfold stkN
        simp
      have eW : stkW (ps' ++ [p]) = p.1 ++ stkW ps' := by
        unfold stkW
        simp
      have edl : (stk' ++ [u]).dropLast = stk' := List.dropLast_concat
      refine ⟨_, rfl, true, .inl ⟨_, SqL.of eg, by simp⟩, iteT ⟨_, rfl, .inl ⟨rfl, _, SqL.of eg⟩, g, _, u, rfl, rfl, eg, by simp, ?_⟩⟩
      rw [edl]
      have s4 : Same H (upd H3 g (.lst stk')) := fun b o eb => by
        rw [upd_ne (ne_of_none eb nHg)]
        exact s3 _ _ eb
      have et4 : (upd H3 g (.lst stk')) t = some (.lst (txs done)) := by rw [upd_ne ntg]; exact et
      have eg4 : (upd H3 g (.lst stk')) g = some (.lst stk') := upd_same
      have kp : ∀ {v : V} {w : List Nat} {n : Nat}, RpV CR H3 v w n → RpV CR (upd H3 g (.lst stk')) v w n := fun z => z.keep fun b o e ho => by
        rw [upd_ne (fun c => by rw [c, eg] at e; cases e; rcases ho with ⟨_, z⟩ | ⟨_, _, z⟩ <;> cases z)]
        exact e
      have hps4 : Paired (fun v p => RpV CR (upd H3 g (.lst stk')) v p.1 p.2) stk' ps' := Paired.mono (fun v p z => kp z) hps'
      have hu4 := kp hu
      generalize upd H3 g (.lst stk') = H4 at s4 et4 eg4 hps4 hu4
      have hp1 := hu4.few.2.2
      have nHt : H t = none := n1
      rcases hu4.cases with ⟨rfl, e1'⟩ | ⟨r, dx, m', l, rt, us, qs, rfl, h1, h2, h3, h4, h5, h6, h7⟩
      · refine ⟨_, rfl, true, isi_str _, true, rfl, iteT ⟨_, rfl, .inl ⟨rfl, _, SqL.of et4⟩, _, rfl, t, _, _, rfl, rfl, et4, ?_, ?_⟩⟩
        · unfold txs
          rw [List.length_map]
          omega
        have kp5 : ∀ {v : V} {w : List Nat} {n : Nat}, RpV CR H4 v w n → RpV CR (upd H4 t (.lst (txs done ++ [V.str (S p.1)]))) v w n := fun z => z.keep fun b o e ho => by
          rw [upd_ne (fun c => by rw [c, et4] at e; cases e; rcases ho with ⟨_, z⟩ | ⟨_, _, z⟩ <;> cases z)]
          exact e
        refine ⟨stkN ps', by rw [hm, eN]; omega, _, done ++ [p.1], stk', ps', rfl, fun b o eb => ?_, ?_, ?_, Paired.mono (fun v p z => kp5 z) hps4, ?_, rfl, ?_⟩
        · rw [upd_ne (ne_of_none eb nHt)]
          exact s4 _ _ eb
        · rw [upd_same]
          unfold txs
          rw [List.map_append]
          rfl
        · rw [upd_ne ntg.symm]
          exact eg4
        · rw [hc, eW]
          simp
        · rw [List.length_append]
          show done.length + 1 + _ ≤ _
          rw [eN] at hb
          omega
      · refine ⟨_, rfl, false, T.isi h1, false, rfl, iteF ⟨_, rfl, .inl ⟨rfl, _, SqL.of eg4⟩, _, rfl, r, dx, _, rfl, h1, rf_no _ _ _ _, r, dx, m', l, rt, p.1.length, us, rfl, h1, h2, h4, fun L H5 s5 n5 e5 => ?_⟩⟩
        refine ⟨L, _, rfl, SqL.of e5, fun L2 nL2 => ?_⟩
        have s6 := same_upd (o := .lst ([V.str (S l)] ++ us ++ [V.str (S rt)]).reverse) nL2
        have e6 : (upd H5 L2 (.lst ([V.str (S l)] ++ us ++ [V.str (S rt)]).reverse)) L2 = some (.lst ([V.str (S l)] ++ us ++ [V.str (S rt)]).reverse) := upd_same
        generalize upd H5 L2 (.lst ([V.str (S l)] ++ us ++ [V.str (S rt)]).reverse) = H6 at s6 e6
        have s46 := s5.trans s6
        have eg6 := s46 _ _ eg4
        have et6 := s46 _ _ et4
        have hqs6 : Paired (fun v p => RpV CR H6 v p.1 p.2) us qs := Paired.mono (fun v p z => z.same s46) h3
        have hall : Paired (fun v p => RpV CR H6 v p.1 p.2) ([V.str (S l)] ++ us ++ [V.str (S rt)]) ([(l, 1)] ++ qs ++ [(rt, 1)]) := paired_appG (paired_appG (.cons (RpV.txt CR H6 l) .nil) hqs6) (.cons (RpV.txt CR H6 rt) .nil)
        have hstk : Paired (fun v p => RpV CR H6 v p.1 p.2) (stk' ++ ([V.str (S l)] ++ us ++ [V.str (S rt)]).reverse) (ps' ++ ([(l, 1)] ++ qs ++ [(rt, 1)]).reverse) := paired_appG (Paired.mono (fun v p z => z.same s46) hps4) (paired_revG hall)
        have eN2 : stkN (ps' ++ ([(l, 1)] ++ qs ++ [(rt, 1)]).reverse) = stkN ps' + ((qs.map (·.2)).sum + 2) := by
          unfold stkN
          rw [List.map_append, List.sum_append, List.map_reverse, sum_revG]
          simp
          omega
        have eW2 : stkW (ps' ++ ([(l, 1)] ++ qs ++ [(rt, 1)]).reverse) = p.1 ++ stkW ps' := by
          unfold stkW
          rw [List.reverse_append, List.reverse_reverse, h5]
          simp
        have lst' : stk'.length ≤ stkN ps' := stkN_le hps4
        have kp7 : ∀ {v : V} {w : List Nat} {n : Nat}, RpV CR H6 v w n → RpV CR (upd H6 g (.lst (stk' ++ ([V.str (S l)] ++ us ++ [V.str (S rt)]).reverse))) v w n := fun z => z.keep fun b o e ho => by
          rw [upd_ne (fun c => by rw [c, eg6] at e; cases e; rcases ho with ⟨_, z⟩ | ⟨_, _, z⟩ <;> cases z)]
          exact e
        rw [eN] at hb
        refine ⟨g, L2, _, _, rfl, rfl, eg6, e6, ?_, stkN ps' + ((qs.map (·.2)).sum + 2), by rw [hm, eN, h6]; omega, _, done, _, _, rfl, fun b o eb => ?_, ?_, upd_same, Paired.mono (fun v p z => kp7 z) hstk, ?_, eN2.symm, ?_⟩
        · rw [List.length_reverse, List.length_append, List.length_append]
          show _ + (1 + us.length + 1) ≤ _
          omega
        · rw [upd_ne (ne_of_none eb nHg)]
          exact s46 _ _ (s4 _ _ eb)
        · rw [upd_ne ntg]
          exact et6
        · rw [hc, eW, eW2]
        · rw [eN2]
          omega
end
end Tb

set_option Elab.async false
set_option linter.all false
set_option maxRecDepth 100000
set_option maxHeartbeats 4000000
namespace Tb
open PySem PySem.Spec PyProof.Rows L2 TL
/-! ### a rope for each box -/
def EnvP (CR : Addr) (H : Hp) (kvs : List (Key × V)) (env : Env) : Prop := Paired (fun (kv : Key × V) (q : Nat × List Nat) => kv.1 = Sum.inr (S [q.1]) ∧ ∃ n, RpV CR H kv.2 q.2 n) kvs env
def EnvAt (CR : Addr) (H : Hp) (d : Addr) (env : Env) : Prop := ∃ kvs, H d = some (.dK kvs) ∧ EnvP CR H kvs env
theorem EnvP.keep {CR : Addr} {H H' : Hp} (k : ∀ b o, H b = some o → ((∃ xs, o = .tup xs) ∨ ∃ dx fs, o = .ins CR dx fs) → H' b = some o) {kvs : List (Key × V)} {env : Env} (h : EnvP CR H kvs env) : EnvP CR H' kvs env := Paired.mono (fun kv q ⟨e, n, z⟩ => ⟨e, n, z.keep k⟩) h
theorem EnvP.same {CR : Addr} {H H' : Hp} (s : Same H H') {kvs : List (Key × V)} {env : Env} (h : EnvP CR H kvs env) : EnvP CR H' kvs env := h.keep fun b o e _ => s b o e
theorem EnvAt.same {CR : Addr} {H H' : Hp} (s : Same H H') {d : Addr} {env : Env} (h : EnvAt CR H d env) : EnvAt CR H' d env := by
  obtain ⟨kvs, e, p⟩ := h
  exact ⟨kvs, s _ _ e, p.same s⟩
theorem EnvAt.but {CR : Addr} {H H' : Hp} {g : Addr} {kk : List (List Key × V)} (hg : H g = some (.dT kk)) (s : But g H H') {d : Addr} {env : Env} (h : EnvAt CR H d env) : EnvAt CR H' d env := by
  obtain ⟨kvs, e, p⟩ := h
  exact ⟨kvs, s _ _ e (ne_of e hg (by intro z; cases z)), p.keep fun b o e ho => s _ _ e (ne_of e hg (by intro z; rcases ho with ⟨_, y⟩ | ⟨_, _, y⟩ <;> rw [y] at z <;> cases z))⟩
/-- a box's rope, or the part itself -/
theorem EnvP.piece {CR : Addr} {H : Hp} (p : List Nat) : ∀ {kvs : List (Key × V)} {env : Env}, EnvP CR H kvs env → ∃ n, RpV CR H ((valV kvs (Sum.inr (S p))).getD (.str (S p))) (pieceE env p) n
  | _, _, .nil => ⟨1, RpV.txt CR H p⟩
  | _, _, .cons (a := kv) (b := q) (l₁ := kvs) (l₂ := env) ⟨e, n, h⟩ t => by
    have ih := EnvP.piece p (show EnvP CR H kvs env from t)
    unfold pieceE getE at *
    rw [List.find?_cons]
    by_cases c : [q.1] = p
    · rw [decide_eq_true c, valV_pos (by rw [e, c])]
      exact ⟨n, h⟩
    · rw [decide_eq_false c, valV_neg (by rw [e]; exact fun z => c (key_S.mp z))]
      exact ih
theorem fillE_snoc (env : Env) (a : List (List Nat)) (p : List Nat) : fillE env (a ++ [p]) = fillE env a ++ pieceE env p := by
  unfold fillE
  simp
section
variable {te : TE} {vs : List Nat} {σ : L2.St} {H1 : Hp} {D : Addr} {Qd : Hp → Prop} {sl : Nat} {J : It} {n : Nat} {G : Hp → Prop} {Y : Nat → Hp → V → Hp → Prop}
/-- [ropes.get(part, part) for part in parts] -/
theorem lc_pieces {CR : Addr} {env : Env} {ps : List (List Nat)} (w : Walk J n G Y) (hn : n = ps.length) (hY : ∀ i H x H', Y i H x H' → H' = H ∧ (txs ps)[i]? = some x) (hG : ∀ H', Same H1 H' → G H') (nD : H1 D = none) (hl : ps.length < sizeLine)
    (he : ∀ p ∈ ps, ∀ H' (R : VK), Same H1 H' → (∀ v m, RpV CR H' v (pieceE env p) m → R v H') → te ((wipe σ vs).set sl (some (.str (S p)))) H' R)
    (hd : ∀ H' us, Same H1 H' → H' D = some (.lst us) → RpVs CR H' us (ps.map (pieceE env)) → Qd H') (hw : ∀ x, wipe ((wipe σ vs).set sl (some x)) vs = wipe σ vs := by intro _; rfl) :
    ∃ W : Nat → Nat → Hp → Prop, (∃ m, W 0 m (upd H1 D (.lst []))) ∧ ∀ i m H, W i m H →
      (J.stop i H ∧ Qd H) ∨ (J.go i H ∧ ∃ Nx : Hp → Prop, (∀ H', Nx H' → ∃ m', m' < m ∧ W (i + 1) m' H') ∧ ∀ x H', J.yld i H x H' → gName sl x (wipe σ vs) H' fun σ2 H2 => wipe σ2 vs = wipe σ vs ∧ tYes σ2 H2 fun b H3 =>
        if b = true then te σ2 H3 fun y H4 => ∃ acc, H4 D = some (.lst acc) ∧ acc.length < sizeLine ∧ Nx (upd H4 D (.lst (acc ++ [y]))) else Nx H3) := by
  refine lc_it w (fun i H => Same H1 H ∧ ∃ us, H D = some (.lst us) ∧ RpVs CR H us ((ps.take i).map (pieceE env))) ⟨same_upd nD, [], upd_same, .nil⟩ (fun i H _ h => hG H h.1) ?_ ?_
  · rintro i x H H' hi ⟨s, us, e, hus⟩ y
    obtain ⟨rfl, hx⟩ := hY _ _ _ _ y
    obtain ⟨p, hp, rfl⟩ : ∃ p, ps[i]? = some p ∧ x = .str (S p) := by
      unfold txs at hx
      rw [List.getElem?_map] at hx
      cases z : ps[i]? with
      | none => rw [z] at hx; cases hx
      | some c => rw [z] at hx; exact ⟨c, rfl, (Option.some.inj hx).symm⟩
    have et : ps.take (i + 1) = ps.take i ++ [p] := by
      rw [List.take_add_one, hp]
      rfl
    refine ⟨hw _, tYes_if (he p (List.mem_of_getElem? hp) _ _ s fun v m hv => ⟨us, e, ?_, fun b o eb => ?_, _, upd_same, ?_⟩)⟩
    · rw [Paired.length hus, List.length_map, List.length_take]
      exact Nat.lt_of_le_of_lt (Nat.min_le_right _ _) hl
    · rw [upd_ne (ne_of_none eb nD)]
      exact s _ _ eb
    · rw [et, List.map_append]
      have kp : ∀ {v : V} {c : List Nat} {n : Nat}, RpV CR H' v c n → RpV CR (upd H' D (.lst (us ++ [v]))) v c n := fun z => z.keep fun b o eb ho => by
        rw [upd_ne (fun c => by rw [c, e] at eb; cases eb; rcases ho with ⟨_, z⟩ | ⟨_, _, z⟩ <;> cases z)]
        exact eb
      have kp2 : ∀ {u : V} {c : List Nat} {n : Nat}, RpV CR H' u c n → RpV CR (upd H' D (.lst (us ++ [v]))) u c n := fun z => z.keep fun b o eb ho => by
        rw [upd_ne (fun c => by rw [c, e] at eb; cases eb; rcases ho with ⟨_, z⟩ | ⟨_, _, z⟩ <;> cases z)]
        exact eb
      exact (Paired.mono (fun u c ⟨n, z⟩ => ⟨n, kp2 z⟩) hus).snoc ⟨m, kp2 hv⟩
  · rintro H ⟨s, us, e, hus⟩
    subst hn
    rw [List.take_length] at hus
    exact hd H us s e hus
end
section
variable {P : Program} {w : World} {K : PySem.W.Frag} {mg : Str → Option Value} {base : Heap}
def spFilledG (CR : Addr) : Sp := fun vs H Q _ => ∃ (fa ra : Addr) (kvs : List (Key × V)) (fl : Fil) (B : List Nat) (env : Env), vs = [.ref fa, .ref ra] ∧ H fa = some (.dK kvs) ∧ PtsAt H kvs B fl ∧ EnvAt CR H ra env ∧ B.Nodup ∧ B.length ≤ 26 ∧ (∀ b ∈ B, (fil fl b).length ≤ 1000) ∧ (∀ b ∈ B, (fillE env (partsOf (fil fl b))).length ≤ 1000000) ∧
  ∀ d H', Same H H' → H d = none → EnvAt CR H' d (B.map fun b => (b, fillE env (partsOf (fil fl b)))) → Q (.ref d) H'
theorem ok_filledG {f CR : Addr} {fd : FuncData} {k : Nat} (F : Fun K "filled" "filled" sFilled f fd) (DR : Df P w K mg base (k + 5) "rope_of" ["ropes"] (spRopeOfG CR)) : FnOk P w K mg base CX0 (k + 6) f fd ["fillings", "ropes"] (spFilledG CR) := by
  refine F.ok scFilled (fun vs H Q E h => ?_) (fun cdv A outer s H vs Q E hr h => ?_)
  · obtain ⟨fa, ra, kvs, fl, B, env, rfl, _⟩ := h
    rfl
  · obtain ⟨fa, ra, kvs, fl, B, env, rfl, hf, hpt, ⟨kr, hra, henv⟩, nB, lB, hl, hlen, q⟩ := h
    have hu := hu_of hr
    refine ⟨_, pss_one (ps_ret (pe_lock (pe_dc (own := [("box", 2), ("parts", 3)]) (g := gTup K 2 (gCons (gName 2) (gCons (gName 3) gNil))) (tt := tYes) (tk := tVar 2) (tv := tCall (spRopeOfG CR) [] E0 (tCons (tLc (iList K (tVar 3)) (gName 4) tYes (tDGet2 (tVar 1) (tVar 4) (tVar 4)) [4]) tNil)) rfl scFilled.nd (pi_items (pv 0)) (blkOk_by (own := [("box", 2), ("parts", 3)]) (N := nFilled) (sc := defScope sFilled) (by decide +kernel))
      (fun _ _ _ _ _ => pg_tup rfl (pgs_cons (pg_name (i := 2) scFilled.nd rfl (.inl rfl)) (pgs_cons (pg_name (i := 3) scFilled.nd rfl (.inl rfl)) pgs_nil))) (fun _ _ _ _ _ => pts_nil) (fun _ _ _ _ _ => pv 2)
      (fun _ _ _ _ _ => pe_df DR hr (pa_cons (pe_lc (own := [("part", 4)]) (g := gName 4) (tt := tYes) (te := tDGet2 (tVar 1) (tVar 4) (tVar 4)) rfl scFilled.nd (pi_list (pv 3)) (blkOk_by (own := [("part", 4)]) (N := nFilled) (sc := blkF) (by decide +kernel)) (fun _ _ _ _ _ => pg_name (i := 4) scFilled.nd rfl (.inl rfl)) (fun _ _ _ _ _ => pts_nil) (fun _ _ _ _ _ => pe_dget2 hu (pv 1) (pv 4) (pv 4) ⟨rfl, rfl, rfl, rfl⟩)) pa_nil))))), ?_⟩
    refine ⟨fa, _, hf, trivial, fun od => ⟨_, rfl, fa, od, kvs, rfl, upd_same, fun D nD => ?_⟩⟩
    have nDf : D ≠ fa := fun z => by rw [z, upd_same] at nD; cases nD
    have hfl : (upd H fa (.frz od (.dK kvs))) fa = some (.frz od (.dK kvs)) := upd_same
    have bl : But fa H (upd H fa (.frz od (.dK kvs))) := But.upd fa H _
    have hpl : PtsAt (upd H fa (.frz od (.dK kvs))) kvs B fl := Paired.mono (fun _ _ ⟨e, a, e2, h⟩ => ⟨e, a, e2, bl _ _ h (ne_of h hf (by intro z; cases z))⟩) hpt
    have henvl : EnvP CR (upd H fa (.frz od (.dK kvs))) kr env := henv.keep fun b o e ho => bl _ _ e (ne_of e hf (by intro z; rcases ho with ⟨_, y⟩ | ⟨_, _, y⟩ <;> rw [y] at z <;> cases z))
    have rdr : ∀ H', Same (upd H fa (.frz od (.dK kvs))) H' → Rd H' ra (.dK kr) := fun H' s' => rd_lock hra hf s'
    generalize hHl : upd H fa (.frz od (.dK kvs)) = Hl at nD hfl hpl rdr henvl
    have lkv : kvs.length = B.length := Paired.length hpl
    refine dc_it walk_items (fun i Hc => Same Hl Hc ∧ ∃ kd, Hc D = some (.dK kd) ∧ EnvP CR Hc kd ((B.take i).map fun b => (b, fillE env (partsOf (fil fl b)))))
      ⟨same_upd nD, [], upd_same, .nil⟩ (fun i Hc _ h => h.1 _ _ hfl) ?_ ?_
    · rintro i x Hc Hc' hi ⟨sc, kd, eD, hkd⟩ ⟨T1, x1, x2, rfl, nT, rfl, hx1, hx2⟩
      have hx1 : (kvs[i]?.map fun z => kV z.1) = some x1 := hx1
      have hx2 : kvs[i]?.map Prod.snd = some x2 := hx2
      obtain ⟨kv1, hkv⟩ : ∃ z, kvs[i]? = some z := ⟨kvs[i], List.getElem?_eq_getElem hi⟩
      obtain ⟨b, hb, ek, pa, ev, hpa⟩ := paired_get2 hpl hkv
      rw [hkv] at hx1 hx2
      have e1 : x1 = .str (S [b]) := by
        have := (Option.some.inj hx1).symm
        rw [this]
        show kV kv1.1 = _
        rw [ek]
        rfl
      have e2x : x2 = .ref pa := by
        have := (Option.some.inj hx2).symm
        rw [this]
        show kv1.2 = _
        rw [ev]
      subst e1 e2x
      have hbB : b ∈ B := List.mem_of_getElem? hb
      have etb : B.take (i + 1) = B.take i ++ [b] := by
        rw [List.take_add_one, hb]
        rfl
      have hnew : b ∉ B.take i := fun z => by
        have h6 : (B.take (i + 1)).Nodup := (List.take_sublist _ _).nodup nB
        rw [etb, List.nodup_append] at h6
        exact h6.2.2 b z b (List.mem_singleton.mpr rfl) rfl
      have sm := same_upd (o := .tup [.str (S [b]), .ref pa]) nT
      have slm := sc.trans sm
      refine ⟨T1, _, rfl, SqT.of upd_same, rfl, _, _, rfl, _, _, rfl, rfl, rfl, tYes_if ⟨_, rfl, ?_⟩⟩
      have hpa' := slm _ _ hpa
      have eD1 := sm _ _ eD
      have hkd1 := hkd.same sm
      generalize upd Hc T1 (.tup [.str (S [b]), .ref pa]) = Hm at sm slm hpa' eD1 hkd1
      refine ⟨_, rfl, pa, rfl, ⟨_, SqL.of hpa'⟩, fun D2 nD2 => lc_pieces (CR := CR) (env := env) (ps := partsOf (fil fl b)) walk_list (by unfold txs; rw [List.length_map]) (fun i H x H' y => ⟨y.1, y.2⟩) (fun H' s' => SqL.of (s' _ _ hpa')) nD2 ?_ ?_ ?_⟩
      · have h6 := parts_len (fil fl b)
        have h7 := hl b hbB
        have big : (10000 : Nat) < sizeLine := by decide
        omega
      · intro p hp H' R s' r
        obtain ⟨n, hpc⟩ := (henvl.same (slm.trans s')).piece p
        exact ⟨_, rfl, ra, rfl, .inl ⟨_, (rdr _ (slm.trans s'))⟩, _, rfl, _, rfl, _, dget_rd (k := Sum.inr (S p)) (rdr _ (slm.trans s')), r _ n hpc⟩
      · intro H' us s' e' hus
        refine ⟨D2, us, _, rfl, e', hus, hlen b hbB, fun u m H2 s2 hu2 => ?_⟩
        have s12 := s'.trans s2
        have hkn : (Sum.inr (S [b]) : Key) ∉ kd.map (·.1) := fun z => by
          have ekd : ∀ {kd : List (Key × V)} {e : Env} {Hx : Hp}, EnvP CR Hx kd e → kd.map (·.1) = e.map fun q => (Sum.inr (S [q.1]) : Key) := by
            intro kd e Hx h
            unfold EnvP at h
            induction h with
            | nil => rfl
            | cons h _ ih => rw [List.map_cons, List.map_cons, h.1, ih]
          rw [ekd hkd1, List.map_map] at z
          obtain ⟨q', hq', e⟩ := List.mem_map.mp z
          have e' := key_S.mp (show (Sum.inr (S [q']) : Key) = Sum.inr (S [b]) from e)
          injection e' with e' _
          exact hnew (e' ▸ hq')
        have eD2 := s12 _ _ eD1
        refine ⟨_, Sum.inr (S [b]), rfl, eD2, ?_, fun b' o eb => ?_, _, upd_same, ?_⟩
        · rw [Paired.length hkd1, List.length_map, List.length_take]
          exact small1000 (by omega)
        · rw [upd_ne (ne_of_none eb nD)]
          exact s12 _ _ (slm _ _ eb)
        · rw [putK_end _ hkn, etb, List.map_append]
          have kp : ∀ b' o, H2 b' = some o → ((∃ xs, o = .tup xs) ∨ ∃ dx fs, o = .ins CR dx fs) → (upd H2 D (.dK (kd ++ [(Sum.inr (S [b]), u)]))) b' = some o := fun b' o eb ho => by
            rw [upd_ne (fun c => by rw [c, eD2] at eb; cases eb; rcases ho with ⟨_, z⟩ | ⟨_, _, z⟩ <;> cases z)]
            exact eb
          exact ((hkd1.same s12).keep kp).snoc ⟨rfl, m, hu2.keep kp⟩
    · rintro Hc ⟨sc, kd, eD, hkd⟩
      rw [lkv, List.take_length] at hkd
      have hcf := sc _ _ hfl
      have sH : Same H (upd Hc fa (.dK kvs)) := same_unlock hf (by rw [hHl]; exact sc)
      have nHD : H D = none := by
        rw [← hHl, upd_ne nDf] at nD
        exact nD
      refine ⟨hcf, q D _ sH nHD ⟨kd, by rw [upd_ne nDf]; exact eD, hkd.keep fun b o e ho => ?_⟩⟩
      rw [upd_ne (ne_of e hcf (by intro z; rcases ho with ⟨_, y⟩ | ⟨_, _, y⟩ <;> rw [y] at z <;> cases z))]
      exact e
end
end Tb

set_option Elab.async false
set_option linter.all false
set_option maxRecDepth 100000
set_option maxHeartbeats 4000000
namespace Tb
open PySem PySem.Spec PyProof.Rows L2 TL
theorem getC_selfB {q : Nat × List Nat} : ∀ {env : Env}, (env.map (·.1)).Nodup → q ∈ env → getC env q.1 = some q.2
  | [], _, h => nomatch h
  | x :: env, nd, h => by
    rw [List.map_cons] at nd
    have nd' := List.nodup_cons.mp nd
    rw [getC_cons]
    rcases List.mem_cons.mp h with e | e
    · rw [e, if_pos rfl]
    · rw [if_neg (fun z => nd'.1 (by rw [z]; exact List.mem_map.mpr ⟨q, e, rfl⟩))]
      exact getC_selfB nd'.2 e
def textV (env : Env) : V → V := fun v => match v with | .str x => .str (S ((getC env ((tl x).headD 0)).getD [])) | _ => .non
theorem text_eq {env : Env} {B : List Nat} (hk : env.map (·.1) = B) (nd : B.Nodup) : ((sgs B).filter fun _ => true).map (fun x => (keyV x, textV env x)) = envK env := by
  subst hk
  rw [List.filter_eq_self.mpr (fun _ _ => rfl)]
  unfold sgs envK
  simp only [List.map_map]
  refine List.map_congr_left fun q hq => ?_
  show (Sum.inr (S [q.1]), V.str (S ((getC env q.1).getD []))) = _
  rw [getC_selfB nd hq]
  rfl
section
variable {P : Program} {w : World} {K : PySem.W.Frag} {mg : Str → Option Value} {base : Heap}
abbrev nStShown : List Str := ["self", "state", "place", "ropes", "box"]
theorem scStShown : FnScope nStShown ["self", "state"] (defScope sStShown) := ⟨rfl, rfl, rfl, by decide +kernel, rfl, by decide +kernel, by decide +kernel⟩
def spStShown (CS C : Addr) : Sp := fun vs H Q _ => ∃ (s p g : Addr) (L B : List Nat) (places : List (List Nat)) (ms : List Mv) (es : Fil) (n : Nat), StAt CS C H s p g L B places ms es n ∧ PgOk B ms es ∧
  ((vs = [.ref s, .non] ∧ Q .non H) ∨ ∃ (T d : Addr) (c : List Nat) (env : Env), vs = [.ref s, .ref T] ∧ H T = some (.tup [.str (S c), .ref d]) ∧ H d = some (.dK (envK env)) ∧ env.map (·.1) = B ∧ (env.map (·.2.length)).sum ≤ 500 ∧
    ∀ T' d' H', Same H H' → H d' = none → H' T' = some (.tup [.str (S c), .ref d']) → H' d' = some (.dK (envK env)) → Q (.ref T') H')
theorem ok_stShown {f CS C : Addr} {fd : FuncData} {k : Nat} (F : Fun K "shown" "Steps.shown" sStShown f fd) (U : StTxt K mg CS) (DW : Df P w K mg base (k + 1) "written" ["rope"] spWritten) : FnOk P w K mg base CX0 (k + 2) f fd ["self", "state"] (spStShown CS C) := by
  refine F.ok scStShown (fun vs H Q E h => ?_) (fun cdv A outer st H vs Q E hr h => ?_)
  · obtain ⟨s, p, g, L, B, places, ms, es, n, _, _, ⟨rfl, _⟩ | ⟨_, _, _, _, rfl, _⟩⟩ := h <;> rfl
  · obtain ⟨s, p, g, L, B, places, ms, es, n, hst, G, h⟩ := h
    have hu := hu_of hr
    refine ⟨_, pss_cons (ps_if (pt_cmpR op_isN (pv 1) pe_non (nomark _)) (pss_one (ps_ret pe_non)) pss_nil)
      (pss_cons (ps_asg (pv 1) (pg_tup rfl (pgs_cons (pg_name (i := 2) scStShown.nd rfl (.inl rfl)) (pgs_cons (pg_name (i := 3) scStShown.nd rfl (.inr rfl)) pgs_nil))))
      (pss_one (ps_ret (pe_tupS (pa_cons (pv 2) (pa_cons (pe_dc (own := [("box", 4)]) (g := gName 4) (tt := tYes) (tk := tVar 4) (tv := tCall spWritten [] E0 (tCons (tDGet (tVar 3) (tVar 4)) tNil)) rfl scStShown.nd (pi_str (pe_fld (pv 0) rfl)) (blkOk_by (own := [("box", 4)]) (N := nStShown) (sc := defScope sStShown) (by decide +kernel))
          (fun _ _ _ _ _ => pg_name (i := 4) scStShown.nd rfl (.inl rfl)) (fun _ _ _ _ _ => pts_nil) (fun _ _ _ _ _ => pv 4) (fun _ _ _ _ _ => pe_df DW hr (pa_cons (pe_dget hu (pv 3) (pv 4) (fun _ _ => rfl)) pa_nil))) pa_nil)))))), ?_⟩
    rcases h with ⟨rfl, q⟩ | ⟨T, d, c, env, rfl, hT, hd, hk, hsum, q⟩
    · exact ⟨_, rfl, rfl, _, rfl, iteT q⟩
    obtain ⟨dxs, kvs, hs, hp, hg, hlen, hcache⟩ := id hst.ob
    refine ⟨_, rfl, rfl, _, rfl, iteF ⟨_, rfl, T, _, rfl, SqT.of hT, rfl, _, _, rfl, _, _, rfl, rfl, ?_⟩⟩
    refine ⟨_, rfl, _, rfl, s, CS, dxs, _, _, rfl, hs, U.cl, U.nB, sf_b _ _ _, S B, rfl, fun D nD => ?_⟩
    refine dc_mapW (xs := sgs B) (fun _ => true) keyV (textV env) walk_str (by unfold sgs; rw [List.length_map]; rfl) (fun i H x H' y => str_item y) (fun _ _ => trivial) nD ?_ (by rw [List.filter_eq_self.mpr (fun _ _ => rfl)]; exact sgs_keys G.nB) (fun x hx H' R s' r => r) ?_ ?_ ?_
    · unfold sgs
      rw [List.length_map]
      exact small1000 (by have := G.lB; omega)
    · intro x hx _ H' R s' r'
      obtain ⟨b, hb, rfl⟩ := List.mem_map.mp hx
      exact ⟨_, rfl, r'⟩
    · intro x hx _ H' R s' r'
      obtain ⟨b, hb, rfl⟩ := List.mem_map.mp hx
      rw [← hk] at hb
      obtain ⟨q', hq', rfl⟩ := List.mem_map.mp hb
      have hv : valV (envK env) (Sum.inr (S [q'.1])) = some (.str (S q'.2)) := by rw [val_envK, getC_selfB (by rw [hk]; exact G.nB) hq']; rfl
      refine ⟨_, rfl, _, rfl, d, _, rfl, hv ▸ DGet.k (k := Sum.inr (S [q'.1])) (s' _ _ hd), q'.2, rfl, by have := sum_le hq'; omega, fun H2 s2 => ?_⟩
      have r2 := r' H2 s2
      have e5 : textV env (.str (S [q'.1])) = .str (S q'.2) := by
        show V.str (S ((getC env q'.1).getD [])) = _
        rw [getC_selfB (by rw [hk]; exact G.nB) hq']
        rfl
      rw [e5] at r2
      exact r2
    · intro H' s' e'
      rw [text_eq hk G.nB] at e'
      exact ⟨by show 2 ≤ sizeLine; decide, fun t' H3 s3 n4 e4 => q t' D H3 (s'.trans s3) nD e4 (s3 _ _ e')⟩
abbrev nStEnded : List Str := ["self", "state", "place", "ropes", "end", "part"]
theorem scStEnded : FnScope nStEnded ["self", "state"] (defScope sStEnded) := ⟨rfl, rfl, rfl, by decide +kernel, rfl, by decide +kernel, by decide +kernel⟩
def endE (es : Fil) (c : List Nat) (env : Env) : Option (List Nat) := (getF es c).map fun f => fillE env (partsOf f)
def spStEnded (CS C : Addr) : Sp := fun vs H Q _ => ∃ (s p g : Addr) (L B : List Nat) (places : List (List Nat)) (ms : List Mv) (es : Fil) (n : Nat), StAt CS C H s p g L B places ms es n ∧ PgOk B ms es ∧
  ((vs = [.ref s, .non] ∧ Q .non H) ∨ ∃ (T d : Addr) (c : List Nat) (env : Env), vs = [.ref s, .ref T] ∧ H T = some (.tup [.str (S c), .ref d]) ∧ H d = some (.dK (envK env)) ∧ env.map (·.1) = B ∧ (env.map (·.2.length)).sum + (4 * B.length + 3) ≤ 500 ∧
    ∀ H', Same H H' → Q (optV (endE es c env)) H')
theorem ok_stEnded {f CS C : Addr} {fd : FuncData} {k : Nat} (F : Fun K "ended" "Steps.ended" sStEnded f fd) (T : PrTxt K mg C) (U : StTxt K mg CS) (DE : Mth P w K mg base C (k + 1) "end" ["place"] (spEnd C)) (DR : Df P w K mg base (k + 3) "rope_of" ["ropes"] spRopeOf) (DP : Df P w K mg base (k + 1) "parts_of" ["filling", "boxes"] spPartsOf) :
    FnOk P w K mg base CX0 (k + 4) f fd ["self", "state"] (spStEnded CS C) := by
  refine F.ok scStEnded (fun vs H Q E h => ?_) (fun cdv A outer st H vs Q E hr h => ?_)
  · obtain ⟨s, p, g, L, B, places, ms, es, n, _, _, ⟨rfl, _⟩ | ⟨_, _, _, _, rfl, _⟩⟩ := h <;> rfl
  · obtain ⟨s, p, g, L, B, places, ms, es, n, hst, G, h⟩ := h
    have hu := hu_of hr
    refine ⟨_, pss_cons (ps_if (pt_cmpR op_isN (pv 1) pe_non (nomark _)) (pss_one (ps_ret pe_non)) pss_nil)
      (pss_cons (ps_asg (pv 1) (pg_tup rfl (pgs_cons (pg_name (i := 2) scStEnded.nd rfl (.inl rfl)) (pgs_cons (pg_name (i := 3) scStEnded.nd rfl (.inr rfl)) pgs_nil))))
      (pss_cons (ps_set (i := 4) scStEnded.nd rfl (.inl rfl) (pe_mth DE T.cl hr (pe_fld (pv 0) rfl) (pa_cons (pv 2) pa_nil)))
      (pss_cons (ps_if (pt_cmpR op_isN (pv 4) pe_non (nomark _)) (pss_one (ps_ret pe_non)) pss_nil)
      (pss_one (ps_ret (pe_df DR hr (pa_cons (pe_lc (own := [("part", 5)]) (g := gName 5) (tt := tYes) (te := tDGet2 (tVar 3) (tVar 5) (tVar 5)) rfl scStEnded.nd (pi_list (pe_df DP hr (pa_cons (pv 4) (pa_cons (pe_fld (pv 0) rfl) pa_nil)))) (blkOk_by (own := [("part", 5)]) (N := nStEnded) (sc := defScope sStEnded) (by decide +kernel))
          (fun _ _ _ _ _ => pg_name (i := 5) scStEnded.nd rfl (.inl rfl)) (fun _ _ _ _ _ => pts_nil) (fun _ _ _ _ _ => pe_dget2 hu (pv 3) (pv 5) (pv 5) ⟨rfl, rfl, rfl, rfl⟩)) pa_nil))))))), ?_⟩
    rcases h with ⟨rfl, q⟩ | ⟨T', d, c, env, rfl, hT, hd, hk, hsum, q⟩
    · exact ⟨_, rfl, rfl, _, rfl, iteT q⟩
    obtain ⟨dxs, kvs, hs, hp, hg, hlen, hcache⟩ := id hst.ob
    obtain ⟨dx, pl, mv, en, kk, h1, h2, h3, h4, h5, hne⟩ := id hp.ob
    refine ⟨_, rfl, rfl, _, rfl, iteF ⟨_, rfl, T', _, rfl, SqT.of hT, rfl, _, _, rfl, _, _, rfl, rfl, ?_⟩⟩
    refine ⟨_, rfl, s, CS, dxs, _, _, rfl, hs, U.cl, U.nP, sf_p _ _ _, p, dx, _, rfl, h1, fl_no _ _ _ _ _ (by decide +kernel), _, rfl, p, c, L, B, places, ms, es, rfl, hp.at, ?_⟩
    unfold endE at q
    cases hg : getF es c with
    | none =>
      rw [hg] at q
      exact ⟨_, rfl, rfl, _, rfl, iteT (q H (fun _ _ e => e))⟩
    | some f =>
      rw [hg] at q
      have hen := G.en _ _ hg
      have het := end_tight G hg hk
      have heti := G.eti _ _ hg
      refine ⟨_, rfl, rfl, _, rfl, iteF ⟨_, rfl, _, rfl, s, CS, dxs, _, _, rfl, hs, U.cl, U.nB, sf_b _ _ _, f, B, rfl, hen.1, by have := G.lB; omega, G.nB, G.cB, G.esg _ _ hg, hen.2, fun pa H1 s1 n1 e1 => ?_⟩⟩
      refine ⟨pa, rfl, ⟨_, SqL.of e1⟩, fun D2 nD2 => lc_mapW (xs := txs (partsOf f)) (pieceEV env) walk_list rfl (fun i H x H' y => ⟨y.1, y.2⟩) (fun H' s' => SqL.of (s' _ _ e1)) nD2 ?_ ?_ ?_⟩
      · unfold txs
        rw [List.length_map]
        have h6 := parts_len f
        have h7 := hen.1
        have big : (10000 : Nat) < sizeLine := by decide
        omega
      · intro x hx H' R s' r
        obtain ⟨p', hpm, rfl⟩ := List.mem_map.mp hx
        refine ⟨_, rfl, d, rfl, .inl ⟨_, .inl (s' _ _ (s1 _ _ hd))⟩, _, rfl, _, rfl, _, DGet.k (k := Sum.inr (S p')) (s' _ _ (s1 _ _ hd)), ?_⟩
        rw [val_envKL]
        have r' := r H' (fun _ _ e => e)
        have e1 : pieceEV env (.str (S p')) = ((getE env p').map fun x => V.str (S x)).getD (.str (S p')) := by
          show V.str (S ((getE env p').getD p')) = _
          cases getE env p' <;> rfl
        rw [e1] at r'
        exact r'
      · intro H' s' e'
        rw [pieces_txs] at e'
        exact ⟨D2, _, rfl, e', by show (fillE env (partsOf f)).length ≤ 500; omega, q H' (s1.trans s')⟩
abbrev nStTold : List Str := ["self", "state", "rope"]
theorem scStTold : FnScope nStTold ["self", "state"] (defScope sStTold) := ⟨rfl, rfl, rfl, by decide +kernel, rfl, by decide +kernel, by decide +kernel⟩
theorem ok_stTold {f CS C : Addr} {fd : FuncData} {k : Nat} (F : Fun K "told" "Steps.told" sStTold f fd) (U : StTxt K mg CS) (DE : Mth P w K mg base CS (k + 4) "ended" ["state"] (spStEnded CS C)) (DW : Df P w K mg base (k + 1) "written" ["rope"] spWritten) : FnOk P w K mg base CX0 (k + 5) f fd ["self", "state"] (spStEnded CS C) := by
  refine F.ok scStTold (fun vs H Q E h => ?_) (fun cdv A outer st H vs Q E hr h => ?_)
  · obtain ⟨s, p, g, L, B, places, ms, es, n, _, _, ⟨rfl, _⟩ | ⟨_, _, _, _, rfl, _⟩⟩ := h <;> rfl
  · obtain ⟨s, p, g, L, B, places, ms, es, n, hst, G, h⟩ := h
    refine ⟨_, pss_cons (ps_set (i := 2) scStTold.nd rfl (.inl rfl) (pe_mth DE U.cl hr (pv 0) (pa_cons (pv 1) pa_nil)))
      (pss_one (ps_ret (pe_ifExp (pt_cmpR op_isN (pv 2) pe_non (nomark _)) pe_non (pe_df DW hr (pa_cons (pv 2) pa_nil))))), ?_⟩
    obtain ⟨dxs, kvs, hs, hp, hg, hlen, hcache⟩ := id hst.ob
    rcases h with ⟨rfl, q⟩ | ⟨T', d, c, env, rfl, hT, hd, hk, hsum, q⟩
    · exact ⟨_, rfl, s, dxs, _, rfl, hs, sf_no _ _ _ (by decide +kernel), _, rfl, s, p, g, L, B, places, ms, es, n, hst, G, .inl ⟨rfl, _, rfl, rfl, _, rfl, iteT q⟩⟩
    refine ⟨_, rfl, s, dxs, _, rfl, hs, sf_no _ _ _ (by decide +kernel), _, rfl, s, p, g, L, B, places, ms, es, n, hst, G, .inr ⟨T', d, c, env, rfl, hT, hd, hk, hsum, fun H1 s1 => ?_⟩⟩
    have het : ∀ x, endE es c env = some x → x.length ≤ 500 := fun x e => by
      unfold endE at e
      cases hg : getF es c with
      | none => rw [hg] at e; cases e
      | some f =>
        rw [hg] at e
        have e : fillE env (partsOf f) = x := Option.some.inj e
        have h1 := end_tight G hg hk
        have h2 := G.eti _ _ hg
        rw [← e]
        omega
    cases e : endE es c env with
    | none =>
      rw [e] at q
      exact ⟨_, rfl, rfl, _, rfl, iteT (q H1 s1)⟩
    | some x =>
      rw [e] at q
      refine ⟨_, rfl, rfl, _, rfl, iteF ⟨_, rfl, x, rfl, by have := het x e; omega, fun H2 s2 => q H2 (s1.trans s2)⟩⟩
/-! ### Steps(program) -/
abbrev psSt : List Str := ["self", "program"]
structure MkS (P : Program) (w : World) (K : PySem.W.Frag) (mg : Str → Option Value) (base : Heap) (CS C : Addr) (k : Nat) : Prop where
  ex : ∃ f fd, Mk K CS f ∧ FnOk P w K mg base CX0 k f fd psSt (spStInit CS C) ∧ Binds K fd psSt []
def tSteps (CS C : Addr) (t : TA) : TE := fun σ H Q => t σ H fun vs H1 => ∃ (p : Addr) (L B : List Nat) (places : List (List Nat)) (ms : List Mv) (es : Fil), vs = [.ref p] ∧ PrAt C H1 p L B places ms es ∧
  ∀ s g H', Same H1 H' → H1 s = none → H1 g = none → StAt CS C H' s p g L B places ms es 0 → Q (.ref s) H'
theorem pe_steps {X : Cx} {CS C : Addr} {k j : Nat} {e : Expr} {es : List Expr} {t : TA} {p pos : Pos} (D : MkS X.prog X.w X.K X.mg X.base CS C k) (hr : Room j X.A) (hm : X.mg "Steps" = some (.ref CS)) (ha : PA X (e :: es) t) (hk : k + 1 ≤ j := by omega) (hg : Gl X "Steps" := by rfl)
    (he : starEach (e :: es) X.env = (false, eval e X.env) :: starEach es X.env := by rfl) (hpl : (backTo pos (starEach es X.env)).any (·.1) = false := by rfl) :
    PE X (.Call (.Name "Steps" p) (e :: es) [] pos) (tSteps CS C t) := by
  obtain ⟨f, fd, M, F, b⟩ := D.ex
  refine PE.weak (pe_make M F (hr.mono hk) hg hm b .nil pass0 (PA.mono ha) (by decide) he hpl) fun σ H Q z => ⟨_, z, fun vs H1 ⟨p, L, B, places, ms, es, ev, hp, q⟩ x dx nx ndx ne => ?_⟩
  subst ev
  have s1 : Same H1 (upd (upd H1 dx (.own x)) x (.ins CS dx [])) := fun b o eb => by
    rw [upd_ne (ne_of_none eb nx), upd_ne (ne_of_none eb ndx)]
    exact eb
  exact ⟨x, dx, p, L, B, places, ms, es, rfl, upd_same, hp.same s1, fun g H' hb hg0 hst => ⟨rfl, q x g H' (fun b o eb => hb b o (s1 b o eb) (ne_of_none eb nx)) nx (s1.free hg0) hst⟩⟩
abbrev nTold : List Str := ["program", "text", "steps"]
def spTold (C : Addr) : Sp := fun vs H Q _ => ∃ (p : Addr) (t L B pl0 : List Nat) (places : List (List Nat)) (ms : List Mv) (es : Fil), vs = [.ref p, .str (S t)] ∧ PrAt C H p L B (pl0 :: places) ms es ∧ PgOk B ms es ∧ (∀ c ∈ t, c ∈ L) ∧ t.length * (7 * B.length) + (4 * B.length + 3) ≤ 500 ∧ t.length ≤ 300 ∧ ∀ H', Same H H' → Q (optV (toldE ms B es pl0 t)) H'
theorem start_keys (B : List Nat) : (B.map fun b => (b, ([] : List Nat))).map (·.1) = B := by
  rw [List.map_map]
  exact List.map_id _
theorem start_sum (B : List Nat) : ((B.map fun b => (b, ([] : List Nat))).map (·.2.length)).sum = 0 := by
  induction B with
  | nil => rfl
  | cons b B ih =>
    rw [List.map_cons, List.map_cons, List.sum_cons, ih]
    rfl
def spBehind (C : Addr) : Sp := fun vs H Q _ => ∃ (p : Addr) (t L B pl0 : List Nat) (places : List (List Nat)) (ms : List Mv) (es : Fil), vs = [.ref p, .str (S t)] ∧ PrAt C H p L B (pl0 :: places) ms es ∧ PgOk B ms es ∧ (∀ c ∈ t, c ∈ L) ∧ t.length * (7 * B.length) + (4 * B.length + 3) ≤ 500 ∧ t.length ≤ 300 ∧
  match runE ms B (pl0, B.map fun b => (b, [])) t with
  | none => ∀ H', Same H H' → Q .non H'
  | some st => ∀ T d H', Same H H' → H' T = some (.tup [.str (S st.1), .ref d]) → H' d = some (.dK (envK st.2)) → Q (.ref T) H'
end
end Tb

set_option Elab.async false
set_option linter.all false
set_option maxRecDepth 100000
set_option maxHeartbeats 4000000
namespace Tb
open PySem PySem.Spec PyProof.Rows L2 TL
theorem EnvAt.ofK {CR : Addr} {H : Hp} {d : Addr} {env : Env} (h : H d = some (.dK (envK env))) : EnvAt CR H d env := by
  refine ⟨_, h, ?_⟩
  clear h
  unfold envK
  induction env with
  | nil => exact .nil
  | cons q r ih => exact .cons ⟨rfl, 1, RpV.txt CR H q.2⟩ ih
section
variable {P : Program} {w : World} {K : PySem.W.Frag} {mg : Str → Option Value} {base : Heap}
def spStBehindG (CR CS C : Addr) : Sp := fun vs H Q _ => ∃ (s p g : Addr) (L B : List Nat) (places : List (List Nat)) (ms : List Mv) (es : Fil) (n : Nat) (t : List Nat), StAt CS C H s p g L B places ms es n ∧ PgOk B ms es ∧ n + t.length < 1000000 ∧
  ((vs = [.ref s, .non, .str (S t)] ∧ Q .non H) ∨ ∃ (T d : Addr) (c : List Nat) (env : Env), vs = [.ref s, .ref T, .str (S t)] ∧ H T = some (.tup [.str (S c), .ref d]) ∧ EnvAt CR H d env ∧ env.map (·.1) = B ∧ (env.map (·.2.length)).sum + t.length * (7 * B.length) ≤ 1000000 ∧
    match runE ms B (c, env) t with
    | none => ∀ H', But g H H' → StAt CS C H' s p g L B places ms es (n + t.length) → Q .non H'
    | some z => ∀ T' d' H', But g H H' → StAt CS C H' s p g L B places ms es (n + t.length) → H' T' = some (.tup [.str (S z.1), .ref d']) → EnvAt CR H' d' z.2 → z.2.map (·.1) = B → (z.2.map (·.2.length)).sum ≤ (env.map (·.2.length)).sum + t.length * (7 * B.length) → Q (.ref T') H')
theorem ok_stBehindG {f CR CS C : Addr} {fd : FuncData} {k : Nat} (F : Fun K "behind" "Steps.behind" sStBehind f fd) (U : StTxt K mg CS) (DM : Mth P w K mg base CS (k + 3) "move" ["place", "letter"] (spStMove CS C)) (DF : Df P w K mg base (k + 6) "filled" ["fillings", "ropes"] (spFilledG CR)) : FnOk P w K mg base CX0 (k + 7) f fd ["self", "state", "text"] (spStBehindG CR CS C) := by
  refine F.ok scStBehind (fun vs H Q E h => ?_) (fun cdv A outer st H vs Q E hr h => ?_)
  · obtain ⟨s, p, g, L, B, places, ms, es, n, t, _, _, _, ⟨rfl, _⟩ | ⟨_, _, _, _, rfl, _⟩⟩ := h <;> rfl
  · obtain ⟨s, p, g, L, B, places, ms, es, n, t, hst, G, hn, h⟩ := h
    have hu := hu_of hr
    refine ⟨_, pss_cons (ps_if (pt_cmpR op_isN (pv 1) pe_non (nomark _)) (pss_one (ps_ret pe_non)) pss_nil)
      (pss_cons (ps_asg (pv 1) (pg_tup rfl (pgs_cons (pg_name (i := 3) scStBehind.nd rfl (.inl rfl)) (pgs_cons (pg_name (i := 4) scStBehind.nd rfl (.inl rfl)) pgs_nil))))
      (pss_cons (ps_for PassesOwn.never rfl (pi_str (pv 2)) (pg_name (i := 5) scStBehind.nd rfl (.inl rfl))
        (pss_cons (ps_set (i := 6) scStBehind.nd rfl (.inl rfl) (pe_mth DM U.cl hr (pv 0) (pa_cons (pv 3) (pa_cons (pv 5) pa_nil))))
        (pss_cons (ps_if (pt_cmpR op_isN (pv 6) pe_non (nomark _)) (pss_one (ps_ret pe_non)) pss_nil)
        (pss_cons (ps_asg (pv 6) (pg_tup rfl (pgs_cons (pg_name (i := 3) scStBehind.nd rfl (.inl rfl)) (pgs_cons (pg_name (i := 7) scStBehind.nd rfl (.inl rfl)) pgs_nil))))
        (pss_one (ps_set (i := 4) scStBehind.nd rfl (.inl rfl) (pe_df DF hr (pa_cons (pv 7) (pa_cons (pv 4) pa_nil)))))))))
      (pss_one (ps_ret (pe_tupS (pa_cons (pv 3) (pa_cons (pv 4) pa_nil))))))), ?_⟩
    rcases h with ⟨rfl, q⟩ | ⟨T, d, c, env, rfl, hT, hd, hk, hsum, q⟩
    · exact ⟨_, rfl, rfl, _, rfl, iteT q⟩
    refine ⟨_, rfl, rfl, _, rfl, iteF ⟨_, rfl, T, _, rfl, SqT.of hT, rfl, _, _, rfl, _, _, rfl, rfl, ?_⟩⟩
    refine ⟨_, rfl, S t, rfl, for_it (walk_str (z := S t)) (fun j σ H' => ∃ (c' : List Nat) (d' : Addr) (env' : Env) (v5 v6 v7 : Option V),
        σ = [some (.ref s), some (.ref T), some (.str (S t)), some (.str (S c')), some (.ref d'), v5, v6, v7] ∧ But g H H' ∧ StAt CS C H' s p g L B places ms es (n + j) ∧
        runE ms B (c, env) (t.take j) = some (c', env') ∧ EnvAt CR H' d' env' ∧ env'.map (·.1) = B ∧ (env'.map (·.2.length)).sum ≤ (env.map (·.2.length)).sum + j * (7 * B.length))
      ⟨c, d, env, none, none, none, rfl, But.refl g H, hst, rfl, hd, hk, Nat.le_add_right _ _⟩ (fun _ _ _ _ _ => trivial) ?_ ?_⟩
    · rintro j x σ H3 H3' hj ⟨c', d', env', v5, v6, v7, rfl, b3, hst3, hrun, hd3, hk3, hsum3⟩ ⟨rfl, a, ha, rfl⟩
      have ha' : t[j]? = some a := by
        rw [show (S t).cps = t.toArray from rfl, List.getElem?_toArray] at ha
        exact ha
      have hjt : j < t.length := (List.getElem?_eq_some_iff.mp ha').1
      have etake : t.take (j + 1) = t.take j ++ [a] := by
        rw [List.take_add_one, ha']
        rfl
      have erun : runE ms B (c, env) (t.take (j + 1)) = stepE ms B (c', env') a := by
        rw [etake, runE_app, hrun]
        show (stepE ms B (c', env') a).bind (fun s' => some s') = _
        cases stepE ms B (c', env') a <;> rfl
      have hmul : (j + 1) * (7 * B.length) ≤ t.length * (7 * B.length) := Nat.mul_le_mul_right _ hjt
      have hmul2 : (j + 1) * (7 * B.length) = j * (7 * B.length) + 7 * B.length := Nat.succ_mul _ _
      refine ⟨_, rfl, s, ?_⟩
      obtain ⟨dxs, kvs, hs, hp, hg, hlen, hcache⟩ := id hst3.ob
      refine ⟨dxs, _, rfl, hs, sf_no _ _ _ (by decide +kernel), _, rfl, _, rfl, s, p, g, c', a, L, B, places, ms, es, n + j, rfl, hst3, G, by omega, ?_⟩
      cases hf : findM ms c' a with
      | none =>
        intro H4 b4 hst4
        refine ⟨_, rfl, rfl, _, rfl, iteT ?_⟩
        have hnone : runE ms B (c, env) t = none := by
          have e1 : t = t.take (j + 1) ++ t.drop (j + 1) := (List.take_append_drop _ _).symm
          rw [e1, runE_app, erun]
          unfold stepE
          rw [hf]
          rfl
        rw [hnone] at q
        exact q H4 (b3.trans b4) (hst4.le (by omega))
      | some m =>
        intro tt fa kv H4 b4 hst4 htt hfa hpts
        have hmm : m ∈ ms := by
          unfold findM at hf
          exact List.mem_of_find?_eq_some hf
        refine ⟨_, rfl, rfl, _, rfl, iteF ⟨_, rfl, tt, _, rfl, SqT.of htt, rfl, _, _, rfl, _, _, rfl, rfl, ?_⟩⟩
        have hst' := step_tight G hmm hk3
        refine ⟨_, rfl, _, rfl, fa, d', kv, m.fl, B, env', rfl, hfa, hpts, hd3.but hg b4, G.nB, by have := G.lB; omega, fun b hb => (G.fill hmm hb).1, fun b hb => ?_, fun d2 H5 s5 n5 e5 => ?_⟩
        · have := sum_le (mem_next (env := env') (fl := m.fl) hb)
          have this : (fillE env' (partsOf (fil m.fl b))).length ≤ _ := this
          omega
        · refine ⟨m.to, d2, nextE env' B m.fl, _, _, _, rfl, (b3.trans b4).trans (Same.but s5 g), (hst4.same s5).le (by omega), ?_, e5, nextE_keys _ _ _, by omega⟩
          rw [erun]
          unfold stepE
          rw [hf]
          rfl
    · rintro σ H3 ⟨c', d', env', v5, v6, v7, rfl, b3, hst3, hrun, hd3, hk3, hsum3⟩
      have lsz : (S t).cps.size = t.length := rfl
      rw [lsz] at hrun hsum3 hst3
      rw [List.take_length] at hrun
      rw [hrun] at q
      exact ⟨_, rfl, _, rfl, by show 2 ≤ sizeLine; decide, fun T' H4 s4 n4 e4 => q T' d' H4 (b3.trans (Same.but s4 g)) (hst3.same s4) e4 (hd3.same s4) hk3 hsum3⟩
def spStEndedG (CR CS C : Addr) : Sp := fun vs H Q _ => ∃ (s p g : Addr) (L B : List Nat) (places : List (List Nat)) (ms : List Mv) (es : Fil) (n : Nat), StAt CS C H s p g L B places ms es n ∧ PgOk B ms es ∧
  ((vs = [.ref s, .non] ∧ Q .non H) ∨ ∃ (T d : Addr) (c : List Nat) (env : Env), vs = [.ref s, .ref T] ∧ H T = some (.tup [.str (S c), .ref d]) ∧ EnvAt CR H d env ∧ env.map (·.1) = B ∧ (env.map (·.2.length)).sum + (4 * B.length + 3) ≤ 1000000 ∧
    match endE es c env with
    | none => ∀ H', Same H H' → Q .non H'
    | some x => ∀ v m H', Same H H' → RpV CR H' v x m → Q v H')
theorem ok_stEndedG {f CR CS C : Addr} {fd : FuncData} {k : Nat} (F : Fun K "ended" "Steps.ended" sStEnded f fd) (T : PrTxt K mg C) (U : StTxt K mg CS) (DE : Mth P w K mg base C (k + 1) "end" ["place"] (spEnd C)) (DR : Df P w K mg base (k + 5) "rope_of" ["ropes"] (spRopeOfG CR)) (DP : Df P w K mg base (k + 1) "parts_of" ["filling", "boxes"] spPartsOf) :
    FnOk P w K mg base CX0 (k + 6) f fd ["self", "state"] (spStEndedG CR CS C) := by
  refine F.ok scStEnded (fun vs H Q E h => ?_) (fun cdv A outer st H vs Q E hr h => ?_)
  · obtain ⟨s, p, g, L, B, places, ms, es, n, _, _, ⟨rfl, _⟩ | ⟨_, _, _, _, rfl, _⟩⟩ := h <;> rfl
  · obtain ⟨s, p, g, L, B, places, ms, es, n, hst, G, h⟩ := h
    have hu := hu_of hr
    refine ⟨_, pss_cons (ps_if (pt_cmpR op_isN (pv 1) pe_non (nomark _)) (pss_one (ps_ret pe_non)) pss_nil)
      (pss_cons (ps_asg (pv 1) (pg_tup rfl (pgs_cons (pg_name (i := 2) scStEnded.nd rfl (.inl rfl)) (pgs_cons (pg_name (i := 3) scStEnded.nd rfl (.inr rfl)) pgs_nil))))
      (pss_cons (ps_set (i := 4) scStEnded.nd rfl (.inl rfl) (pe_mth DE T.cl hr (pe_fld (pv 0) rfl) (pa_cons (pv 2) pa_nil)))
      (pss_cons (ps_if (pt_cmpR op_isN (pv 4) pe_non (nomark _)) (pss_one (ps_ret pe_non)) pss_nil)
      (pss_one (ps_ret (pe_df DR hr (pa_cons (pe_lc (own := [("part", 5)]) (g := gName 5) (tt := tYes) (te := tDGet2 (tVar 3) (tVar 5) (tVar 5)) rfl scStEnded.nd (pi_list (pe_df DP hr (pa_cons (pv 4) (pa_cons (pe_fld (pv 0) rfl) pa_nil)))) (blkOk_by (own := [("part", 5)]) (N := nStEnded) (sc := defScope sStEnded) (by decide +kernel))
          (fun _ _ _ _ _ => pg_name (i := 5) scStEnded.nd rfl (.inl rfl)) (fun _ _ _ _ _ => pts_nil) (fun _ _ _ _ _ => pe_dget2 hu (pv 3) (pv 5) (pv 5) ⟨rfl, rfl, rfl, rfl⟩)) pa_nil))))))), ?_⟩
    rcases h with ⟨rfl, q⟩ | ⟨T', d, c, env, rfl, hT, hd, hk, hsum, q⟩
    · exact ⟨_, rfl, rfl, _, rfl, iteT q⟩
    obtain ⟨dxs, kvs, hs, hp, hg, hlen, hcache⟩ := id hst.ob
    obtain ⟨dx, pl, mv, en, kk, h1, h2, h3, h4, h5, hne⟩ := id hp.ob
    refine ⟨_, rfl, rfl, _, rfl, iteF ⟨_, rfl, T', _, rfl, SqT.of hT, rfl, _, _, rfl, _, _, rfl, rfl, ?_⟩⟩
    refine ⟨_, rfl, s, CS, dxs, _, _, rfl, hs, U.cl, U.nP, sf_p _ _ _, p, dx, _, rfl, h1, fl_no _ _ _ _ _ (by decide +kernel), _, rfl, p, c, L, B, places, ms, es, rfl, hp.at, ?_⟩
    unfold endE at q
    cases hg : getF es c with
    | none =>
      rw [hg] at q
      exact ⟨_, rfl, rfl, _, rfl, iteT (q H (fun _ _ e => e))⟩
    | some f =>
      rw [hg] at q
      have hen := G.en _ _ hg
      have het := end_tight G hg hk
      have heti := G.eti _ _ hg
      refine ⟨_, rfl, rfl, _, rfl, iteF ⟨_, rfl, _, rfl, s, CS, dxs, _, _, rfl, hs, U.cl, U.nB, sf_b _ _ _, f, B, rfl, hen.1, by have := G.lB; omega, G.nB, G.cB, G.esg _ _ hg, hen.2, fun pa H1 s1 n1 e1 => ?_⟩⟩
      obtain ⟨kr, hd2, henv⟩ := hd
      refine ⟨pa, rfl, ⟨_, SqL.of e1⟩, fun D2 nD2 => lc_pieces (CR := CR) (env := env) (ps := partsOf f) walk_list (by unfold txs; rw [List.length_map]) (fun i H x H' y => ⟨y.1, y.2⟩) (fun H' s' => SqL.of (s' _ _ e1)) nD2 ?_ ?_ ?_⟩
      · have h6 := parts_len f
        have h7 := hen.1
        have big : (10000 : Nat) < sizeLine := by decide
        omega
      · intro p' hp' H' R s' r
        obtain ⟨n', hpc⟩ := ((henv.same s1).same s').piece p'
        exact ⟨_, rfl, d, rfl, .inl ⟨_, .inl (s' _ _ (s1 _ _ hd2))⟩, _, rfl, _, rfl, _, DGet.k (k := Sum.inr (S p')) (s' _ _ (s1 _ _ hd2)), r _ n' hpc⟩
      · intro H' us s' e' hus
        exact ⟨D2, us, _, rfl, e', hus, by show (fillE env (partsOf f)).length ≤ 1000000; omega, fun v m H2 s2 hv => q v m H2 ((s1.trans s').trans s2) hv⟩
def spStToldG (CR CS C : Addr) : Sp := fun vs H Q _ => ∃ (s p g : Addr) (L B : List Nat) (places : List (List Nat)) (ms : List Mv) (es : Fil) (n : Nat), StAt CS C H s p g L B places ms es n ∧ PgOk B ms es ∧
  ((vs = [.ref s, .non] ∧ Q .non H) ∨ ∃ (T d : Addr) (c : List Nat) (env : Env), vs = [.ref s, .ref T] ∧ H T = some (.tup [.str (S c), .ref d]) ∧ EnvAt CR H d env ∧ env.map (·.1) = B ∧ (env.map (·.2.length)).sum + (4 * B.length + 3) ≤ 1000000 ∧
    ∀ H', Same H H' → Q (optV (endE es c env)) H')
theorem ok_stToldG {f CR CS C : Addr} {fd : FuncData} {k : Nat} (F : Fun K "told" "Steps.told" sStTold f fd) (U : StTxt K mg CS) (DE : Mth P w K mg base CS (k + 6) "ended" ["state"] (spStEndedG CR CS C)) (DW : Df P w K mg base (k + 2) "written" ["rope"] (spWrittenG CR)) : FnOk P w K mg base CX0 (k + 7) f fd ["self", "state"] (spStToldG CR CS C) := by
  refine F.ok scStTold (fun vs H Q E h => ?_) (fun cdv A outer st H vs Q E hr h => ?_)
  · obtain ⟨s, p, g, L, B, places, ms, es, n, _, _, ⟨rfl, _⟩ | ⟨_, _, _, _, rfl, _⟩⟩ := h <;> rfl
  · obtain ⟨s, p, g, L, B, places, ms, es, n, hst, G, h⟩ := h
    refine ⟨_, pss_cons (ps_set (i := 2) scStTold.nd rfl (.inl rfl) (pe_mth DE U.cl hr (pv 0) (pa_cons (pv 1) pa_nil)))
      (pss_one (ps_ret (pe_ifExp (pt_cmpR op_isN (pv 2) pe_non (nomark _)) pe_non (pe_df DW hr (pa_cons (pv 2) pa_nil))))), ?_⟩
    obtain ⟨dxs, kvs, hs, hp, hg, hlen, hcache⟩ := id hst.ob
    rcases h with ⟨rfl, q⟩ | ⟨T', d, c, env, rfl, hT, hd, hk, hsum, q⟩
    · exact ⟨_, rfl, s, dxs, _, rfl, hs, sf_no _ _ _ (by decide +kernel), _, rfl, s, p, g, L, B, places, ms, es, n, hst, G, .inl ⟨rfl, _, rfl, rfl, _, rfl, iteT q⟩⟩
    refine ⟨_, rfl, s, dxs, _, rfl, hs, sf_no _ _ _ (by decide +kernel), _, rfl, s, p, g, L, B, places, ms, es, n, hst, G, .inr ⟨T', d, c, env, rfl, hT, hd, hk, hsum, ?_⟩⟩
    have het : ∀ x, endE es c env = some x → x.length ≤ 1000000 := fun x e => by
      unfold endE at e
      cases hg : getF es c with
      | none => rw [hg] at e; cases e
      | some f =>
        rw [hg] at e
        have e : fillE env (partsOf f) = x := Option.some.inj e
        have h1 := end_tight G hg hk
        have h2 := G.eti _ _ hg
        rw [← e]
        omega
    cases e : endE es c env with
    | none =>
      rw [e] at q
      exact fun H1 s1 => ⟨_, rfl, rfl, _, rfl, iteT (q H1 s1)⟩
    | some x =>
      rw [e] at q
      intro v m H1 s1 hv
      have hx := het x e
      rcases hv.cases with ⟨rfl, rfl⟩ | ⟨r, dx, m', l, rt, us, ps, rfl, _⟩
      · exact ⟨_, rfl, rfl, _, rfl, iteF ⟨_, rfl, _, x, _, rfl, hv, hx, fun H2 s2 => q H2 (s1.trans s2)⟩⟩
      · exact ⟨_, rfl, rfl, _, rfl, iteF ⟨_, rfl, _, x, _, rfl, hv, hx, fun H2 s2 => q H2 (s1.trans s2)⟩⟩
def spToldG (C : Addr) : Sp := fun vs H Q _ => ∃ (p : Addr) (t L B pl0 : List Nat) (places : List (List Nat)) (ms : List Mv) (es : Fil), vs = [.ref p, .str (S t)] ∧ PrAt C H p L B (pl0 :: places) ms es ∧ PgOk B ms es ∧ (∀ c ∈ t, c ∈ L) ∧ t.length * (7 * B.length) + (4 * B.length + 3) ≤ 1000000 ∧ t.length ≤ 100000 ∧ ∀ H', Same H H' → Q (optV (toldE ms B es pl0 t)) H'
end
end Tb

set_option Elab.async false
set_option linter.all false
set_option maxRecDepth 100000
set_option maxHeartbeats 4000000
namespace Tb
open PySem PySem.Spec PyProof.Rows L2 TL
/-! Steps.shown, ropes of any kind -/
theorem EnvP.val {CR : Addr} {H : Hp} {q : Nat × List Nat} : ∀ {kvs : List (Key × V)} {env : Env}, EnvP CR H kvs env → (env.map (·.1)).Nodup → q ∈ env → ∃ v n, valV kvs (Sum.inr (S [q.1])) = some v ∧ RpV CR H v q.2 n
  | _, _, .nil, _, h => nomatch h
  | _, _, .cons (a := kv) (b := q0) (l₁ := kvs) (l₂ := env) ⟨e, n, h⟩ t, nd, hq => by
    rw [List.map_cons] at nd
    have nd' := List.nodup_cons.mp nd
    rcases List.mem_cons.mp hq with z | z
    · subst z
      exact ⟨_, n, valV_pos e, h⟩
    · rw [valV_neg (by rw [e]; exact fun y => nd'.1 (by rw [(List.cons.inj (key_S.mp y)).1]; exact List.mem_map.mpr ⟨q, z, rfl⟩))]
      exact EnvP.val (show EnvP CR H kvs env from t) nd'.2 z
section
variable {P : Program} {w : World} {K : PySem.W.Frag} {mg : Str → Option Value} {base : Heap}
abbrev nShown : List Str := ["self", "state", "place", "ropes", "box"]
theorem scShown : FnScope nShown ["self", "state"] (defScope sStShown) := ⟨rfl, rfl, rfl, by decide +kernel, rfl, by decide +kernel, by decide +kernel⟩
def spShownG (CR CS C : Addr) : Sp := fun vs H Q _ => ∃ (s p g : Addr) (L B : List Nat) (places : List (List Nat)) (ms : List Mv) (es : Fil) (n : Nat), StAt CS C H s p g L B places ms es n ∧ PgOk B ms es ∧
  ((vs = [.ref s, .non] ∧ Q .non H) ∨ ∃ (T d : Addr) (c : List Nat) (env : Env), vs = [.ref s, .ref T] ∧ H T = some (.tup [.str (S c), .ref d]) ∧ EnvAt CR H d env ∧ env.map (·.1) = B ∧ (env.map (·.2.length)).sum ≤ 1000000 ∧
    ∀ T' d' H', Same H H' → H d' = none → H' T' = some (.tup [.str (S c), .ref d']) → H' d' = some (.dK (envK env)) → Q (.ref T') H')
theorem ok_shownG {f CR CS C : Addr} {fd : FuncData} {k : Nat} (F : Fun K "shown" "Steps.shown" sStShown f fd) (U : StTxt K mg CS) (DW : Df P w K mg base (k + 2) "written" ["rope"] (spWrittenG CR)) : FnOk P w K mg base CX0 (k + 3) f fd ["self", "state"] (spShownG CR CS C) := by
  refine F.ok scShown (fun vs H Q E h => ?_) (fun cdv A outer st H vs Q E hr h => ?_)
  · obtain ⟨s, p, g, L, B, places, ms, es, n, _, _, ⟨rfl, _⟩ | ⟨_, _, _, _, rfl, _⟩⟩ := h <;> rfl
  · obtain ⟨s, p, g, L, B, places, ms, es, n, hst, G, h⟩ := h
    have hu := hu_of hr
    refine ⟨_, pss_cons (ps_if (pt_cmpR op_isN (pv 1) pe_non (nomark _)) (pss_one (ps_ret pe_non)) pss_nil)
      (pss_cons (ps_asg (pv 1) (pg_tup rfl (pgs_cons (pg_name (i := 2) scShown.nd rfl (.inl rfl)) (pgs_cons (pg_name (i := 3) scShown.nd rfl (.inr rfl)) pgs_nil))))
      (pss_one (ps_ret (pe_tupS (pa_cons (pv 2) (pa_cons (pe_dc (own := [("box", 4)]) (g := gName 4) (tt := tYes) (tk := tVar 4) (tv := tCall (spWrittenG CR) [] E0 (tCons (tDGet (tVar 3) (tVar 4)) tNil)) rfl scShown.nd (pi_str (pe_fld (pv 0) rfl)) (blkOk_by (own := [("box", 4)]) (N := nShown) (sc := defScope sStShown) (by decide +kernel))
          (fun _ _ _ _ _ => pg_name (i := 4) scShown.nd rfl (.inl rfl)) (fun _ _ _ _ _ => pts_nil) (fun _ _ _ _ _ => pv 4) (fun _ _ _ _ _ => pe_df DW hr (pa_cons (pe_dget hu (pv 3) (pv 4) (fun _ _ => rfl)) pa_nil))) pa_nil)))))), ?_⟩
    rcases h with ⟨rfl, q⟩ | ⟨T, d, c, env, rfl, hT, ⟨kvs, hd, hp⟩, hk, hsum, q⟩
    · exact ⟨_, rfl, rfl, _, rfl, iteT q⟩
    obtain ⟨dxs, kc, hs, hpp, hg, hlen, hcache⟩ := id hst.ob
    refine ⟨_, rfl, rfl, _, rfl, iteF ⟨_, rfl, T, _, rfl, SqT.of hT, rfl, _, _, rfl, _, _, rfl, rfl, ?_⟩⟩
    refine ⟨_, rfl, _, rfl, s, CS, dxs, _, _, rfl, hs, U.cl, U.nB, sf_b _ _ _, S B, rfl, fun D nD => ?_⟩
    refine dc_mapW (xs := sgs B) (fun _ => true) keyV (textV env) walk_str (by unfold sgs; rw [List.length_map]; rfl) (fun i H x H' y => str_item y) (fun _ _ => trivial) nD ?_ (by rw [List.filter_eq_self.mpr (fun _ _ => rfl)]; exact sgs_keys G.nB) (fun x hx H' R s' r => r) ?_ ?_ ?_
    · unfold sgs
      rw [List.length_map]
      exact small1000 (by have := G.lB; omega)
    · intro x hx _ H' R s' r'
      obtain ⟨b, hb, rfl⟩ := List.mem_map.mp hx
      exact ⟨_, rfl, r'⟩
    · intro x hx _ H' R s' r'
      obtain ⟨b, hb, rfl⟩ := List.mem_map.mp hx
      rw [← hk] at hb
      obtain ⟨q', hq', rfl⟩ := List.mem_map.mp hb
      obtain ⟨v, m, hv, hr'⟩ := hp.val (by rw [hk]; exact G.nB) hq'
      refine ⟨_, rfl, _, rfl, d, _, rfl, hv ▸ DGet.k (k := Sum.inr (S [q'.1])) (s' _ _ hd), v, q'.2, m, rfl, hr'.same s', by have := sum_le hq'; omega, fun H2 s2 => ?_⟩
      have r2 := r' H2 s2
      have e5 : textV env (.str (S [q'.1])) = .str (S q'.2) := by
        show V.str (S ((getC env q'.1).getD [])) = _
        rw [getC_selfB (by rw [hk]; exact G.nB) hq']
        rfl
      rw [e5] at r2
      exact r2
    · intro H' s' e'
      rw [text_eq hk G.nB] at e'
      exact ⟨by show 2 ≤ sizeLine; decide, fun t' H3 s3 n4 e4 => q t' D H3 (s'.trans s3) nD e4 (s3 _ _ e')⟩
end
end Tb

set_option Elab.async false
set_option linter.all false
set_option maxRecDepth 100000
set_option maxHeartbeats 4000000
/-! try: body / except x as n: one / except y: two -/
namespace Tb
open PySem PySem.Spec PyProof.Rows L2
section
variable {X : Cx} {x y n : Str} {c1 c2 : Value} {i : Nat} {body one two : List Stmt} {u0 v0 : Stmt} {p1 p2 p3 p4 pos : Pos} {tb : WX → TS} {t1 t2 : Addr → Value → Option Addr → TS}
/-- what is wished of an exception of the body: it is the one or the other -/
def wTwo (K : PySem.W.Frag) (c1 c2 : Value) (i : Nat) (t1 t2 : Addr → Value → Option Addr → TS) (D : Ends) : WX := fun cls d σ H =>
  (PySem.W.exmOne K cls c1 = some true ∧ ∀ a, H a = none → t1 a cls d { nx := fun σ' H' => D.nx (σ'.set i none) H', rt := D.rt, bk := fun σ' H' => D.bk (σ'.set i none) H', ct := fun σ' H' => D.ct (σ'.set i none) H' } (σ.set i (some (.ref a))) H) ∨
  (PySem.W.exmOne K cls c1 = some false ∧ PySem.W.exmOne K cls c2 = some true ∧ ∀ a, H a = none → t2 a cls d D σ H)
theorem ps_two (hs : X.stack = X.env :: X.outer) (hf : X.env.frame = some X.env.locals) (hN : X.N.Nodup) (hi : X.N[i]? = some n) (hl : X.env.kindOf n = some .local) (hx : Names X x c1) (hy : Names X y c2)
    (hb : ∀ (W : WX) (pn : List (Addr × Obj)) (xe : Value → Shared → Prop), Takes (X.tr pn xe) W → PassesOwn (model X.prog X.w) X.A X.env xe → PSs (X.tr pn xe) body (tb W))
    (h1 : ∀ (a : Addr) (oe : Obj) (cls : Value) (d : Option Addr) (pn : List (Addr × Obj)), Zc cls d oe → (∃ vs, oe.data = .fields vs) → PSs (X.suite a ((a, oe) :: pn)) (u0 :: one) (t1 a cls d))
    (h2 : ∀ (a : Addr) (oe : Obj) (cls : Value) (d : Option Addr) (pn : List (Addr × Obj)), Zc cls d oe → (∃ vs, oe.data = .fields vs) → PSs (X.suite a ((a, oe) :: pn)) (v0 :: two) (t2 a cls d)) :
    PS X (.Try body [.ExceptHandler (some (.Name x p1)) (some n) (u0 :: one) p2, .ExceptHandler (some (.Name y p3)) none (v0 :: two) p4] [] [] pos) (fun D σ H => tb (wTwo X.K c1 c2 i t1 t2 D) D σ H) := by
  refine ⟨fun pins s σ H D I h => wpAny_Try_except ?_⟩
  have ok := I.ok
  have frames : X.A.frames = some (X.env :: X.outer) := by rw [ok.frames, hs]
  have run := (hb (wTwo X.K c1 c2 i t1 t2 D) (X.pn ++ pins) (fun e s1 => wpAny (model X.prog X.w) X.A (noteFrame e X.env) (fun _ s2 => wpAny (model X.prog X.w) X.A (setFlight e none) (fun _ s3 =>
    wpAny (model X.prog X.w) X.A (handleBy e X.env [.ExceptHandler (some (.Name x p1)) (some n) (u0 :: one) p2, .ExceptHandler (some (.Name y p3)) none (v0 :: two) p4]) (SP X pins D) X.xe s3) X.xe s2) X.xe s1) (fun u s' xx => ?_) PassesOwn.looking).run [] s σ H D (I.toTry _) h
  · refine wpAny_mono run (fun f s1 hsp => ?_) fun _ _ z => z
    match f, hsp with
    | .next, ⟨σ', H', J, q⟩ => exact wpAny_execs_nil ⟨σ', H', J.ofTry ok, q⟩
    | .brk, ⟨σ', H', J, q⟩ => exact ⟨σ', H', J.ofTry ok, q⟩
    | .cont, ⟨σ', H', J, q⟩ => exact ⟨σ', H', J.ofTry ok, q⟩
    | .ret u, ⟨v, σ', H', J, r, q⟩ => exact ⟨v, σ', H', J.ofTry ok, r, q⟩
  · -- an exception has come out of the body
    obtain ⟨a, B, sI, pins', σ', H', cls, d, rfl, Jt, nb, up, sky, na, os, ag, wish⟩ := xx
    have J : Inv X pins σ' H' sI := Jt.ofTry ok
    refine Sky.land Zc.steady frames hf (by rw [← hs]; exact sky) fun h3 fl3 up3 => ?_
    have J3 : Inv X pins σ' H' { s' with heap := h3 } := J.landed nb fl3.1 (up.trans up3) os ag
    obtain ⟨oe3, vs3, he3, hz3, hd3⟩ := fl3.there
    have off : a ∉ frs (X.env :: X.outer) := fun hm => by
      obtain ⟨_, o', e', hn⟩ := fl3.2.2.1.mem hm
      rw [he3] at e'
      cases e'
      exact hn _ hd3
    have nL : a ≠ X.env.locals := fun z => off (List.mem_filterMap.mpr ⟨X.env, List.mem_cons_self, by rw [hf, z]⟩)
    have nF : a ∉ X.fs := fun hm => by
      obtain ⟨e, he, q⟩ := List.mem_filterMap.mp hm
      exact off (List.mem_filterMap.mpr ⟨e, List.mem_cons_of_mem _ he, q⟩)
    have S3 := J3.suite he3 hd3 na nL nF
    have kind : PySem.W.Looks (model X.prog X.w) h3 (typeOf (.ref a)) cls := fun A Q E s k q => wpAny_typeOf_ref (k _ _ he3) (by rw [hz3.1]; exact q)
    have load : ∀ {z : Str} {c : Value} {pz : Pos} {Q : Value → Shared → Prop} {E : Value → Shared → Prop}, Names X z c → Q c { s' with heap := h3 } → wpAny (model X.prog X.w) (X.A.mark (some (.ref a))) (eval (.Name z pz) X.env) Q E { s' with heap := h3 } := fun {z c pz Q E} nm q => by
      obtain ⟨hg, hd, hm | ⟨hm, hv, hn⟩⟩ := nm
      · exact ld_glob (X := X.suite a ((a, oe3) :: (X.pn ++ pins))) S3 hg hm q hd
      · exact ld_blt (X := X.suite a ((a, oe3) :: (X.pn ++ pins))) S3 hg hm hv q hn hd
    rcases wish with ⟨e1, go⟩ | ⟨e1, e2, go⟩
    · have L1 := PySem.W.exm_one (M := model X.prog X.w) J3.kIn kind e1
      refine wpAny_handleBy_cons (codeAny_handlers_test ?_) (by intro q; cases q)
      refine load hx (L1.here (codeAny_handlers_suite_as ?_))
      refine HandSPX.lands_againZ fl3 fun h4 fl4 up4 => ?_
      have J4 : Inv X pins σ' H' { s' with heap := h4 } := J.landed nb fl4.1 ((up.trans up3).trans up4) os ag
      obtain ⟨oe4, vs4, he4, hz4, hd4⟩ := fl4.there
      refine store_ok (X := X.suite a ((a, oe4) :: (X.pn ++ pins))) (v := .ref a) (J4.suite he4 hd4 na nL nF) hN hi (.inl hl) rfl (fun s5 S5 => ?_) (.inr hl)
      refine wpAny_mono ((h1 a oe4 cls d (X.pn ++ pins) hz4 ⟨_, hd4⟩).run [] s5 _ H' _ S5 (go a na)) (fun f s6 hsp => ?_) (fun _ _ z => False.elim z)
      match f, hsp with
      | .next, ⟨_, _, S6, q6⟩ => exact gone_ok (S6.unsuite ok) hN hi hl fun s7 J7 => ⟨_, _, J7, q6⟩
      | .brk, ⟨_, _, S6, q6⟩ => exact gone_ok (S6.unsuite ok) hN hi hl fun s7 J7 => ⟨_, _, J7, q6⟩
      | .cont, ⟨_, _, S6, q6⟩ => exact gone_ok (S6.unsuite ok) hN hi hl fun s7 J7 => ⟨_, _, J7, q6⟩
      | .ret u, ⟨_, _, _, S6, r6, q6⟩ => exact gone_ok (S6.unsuite ok) hN hi hl fun s7 J7 => ⟨_, _, _, J7, r6, q6⟩
    · have L1 := PySem.W.exm_one (M := model X.prog X.w) J3.kIn kind e1
      have L2 := PySem.W.exm_one (M := model X.prog X.w) J3.kIn kind e2
      refine wpAny_handleBy_cons (codeAny_handlers_test ?_) (by intro q; cases q)
      refine load hx (L1.here ?_)
      show wpAny _ X.A (handleBy (.ref a) X.env [.ExceptHandler (some (.Name y p3)) none (v0 :: two) p4]) _ _ _
      refine wpAny_handleBy_cons (codeAny_handlers_test ?_) (by intro q; cases q)
      refine load hy (L2.here (codeAny_handlers_suite ?_))
      refine HandSPX.lands_againZ fl3 fun h4 fl4 up4 => ?_
      have J4 : Inv X pins σ' H' { s' with heap := h4 } := J.landed nb fl4.1 ((up.trans up3).trans up4) os ag
      obtain ⟨oe4, vs4, he4, hz4, hd4⟩ := fl4.there
      refine wpAny_mono ((h2 a oe4 cls d (X.pn ++ pins) hz4 ⟨_, hd4⟩).run [] _ _ H' _ (J4.suite he4 hd4 na nL nF) (go a na)) (fun f s6 hsp => ?_) (fun _ _ z => False.elim z)
      match f, hsp with
      | .next, ⟨_, _, S6, q6⟩ => exact ⟨_, _, S6.unsuite ok, q6⟩
      | .brk, ⟨_, _, S6, q6⟩ => exact ⟨_, _, S6.unsuite ok, q6⟩
      | .cont, ⟨_, _, S6, q6⟩ => exact ⟨_, _, S6.unsuite ok, q6⟩
      | .ret u, ⟨_, _, _, S6, r6, q6⟩ => exact ⟨_, _, _, S6.unsuite ok, r6, q6⟩
end
end Tb

set_option Elab.async false
set_option linter.all false
set_option maxRecDepth 100000
set_option maxHeartbeats 4000000
/-! the row's exceptions: NotLetter (one field), NoDeed (an __init__ that does nothing) -/
namespace Tb
open PySem PySem.Spec PyProof.Rows L2 TL
abbrev sNlInit : Stmt := subS (topS 4) 0
abbrev sNdInit : Stmt := subS (topS 5) 0
theorem scNlInit : FnScope ["self", "letter"] ["self", "letter"] (defScope sNlInit) := ⟨rfl, rfl, rfl, by decide +kernel, rfl, by decide +kernel, by decide +kernel⟩
theorem scNdInit : FnScope ["self"] ["self"] (defScope sNdInit) := ⟨rfl, rfl, rfl, by decide +kernel, rfl, by decide +kernel, by decide +kernel⟩
section
variable {P : Program} {w : World} {K : PySem.W.Frag} {mg : Str → Option Value} {base : Heap}
def spNop : Sp := fun vs H Q _ => ∃ a : Addr, vs = [.ref a] ∧ Q .non H
theorem ok_ndInit {f : Addr} {fd : FuncData} {k : Nat} (F : Fun K "__init__" "NoDeed.__init__" sNdInit f fd) : FnOk P w K mg base CX0 (k + 1) f fd ["self"] spNop := by
  refine F.ok scNdInit (fun vs H Q E h => ?_) (fun cdv A outer s H vs Q E hr h => ?_)
  · obtain ⟨a, rfl, _⟩ := h
    rfl
  · obtain ⟨a, rfl, q⟩ := h
    exact ⟨_, pss_one ps_pass, q⟩
/-- self.letter = letter of an exception that is being made -/
def spNlInit (K : PySem.W.Frag) : Sp := fun vs H Q _ => ∃ (a C : Addr) (v : V), vs = [.ref a, v] ∧ OexC K C ∧ PySem.W.findIn K (.ref C) "letter" = some none ∧ H a = some (exo a C none) ∧ ∀ dx, H dx = none → dx ≠ a → Q .non (upd (upd H dx (exd dx [("letter", v)])) a (exo a C (some dx)))
theorem ok_nlInit {f : Addr} {fd : FuncData} {k : Nat} (F : Fun K "__init__" "NotLetter.__init__" sNlInit f fd) : FnOk P w K mg base CX0 (k + 1) f fd ["self", "letter"] (spNlInit K) := by
  refine F.ok scNlInit (fun vs H Q E h => ?_) (fun cdv A outer s H vs Q E hr h => ?_)
  · obtain ⟨a, C, v, rfl, _⟩ := h
    rfl
  · obtain ⟨a, C, v, rfl, T, nf, ea, q⟩ := h
    exact ⟨_, pss_one (ps_ost (pv 0) (pv 1)), _, rfl, _, rfl, a, C, rfl, T, nf, .inl ⟨ea, fun dx n ne => q dx n ne⟩⟩
end
section
variable {X : Cx}
/-- C(), C's own __init__ doing nothing -/
theorem pmk_nop {x : Str} {C fI : Addr} {k : Nat} {fd : FuncData} {p pos : Pos} (T : OexC X.K C) (iC : PySem.W.findIn X.K (.ref C) "__init__" = some (some (.ref fI))) (tI : PySem.W.typeIn X.K (.ref fI) = some (.type "function"))
    (F1 : FnOk X.prog X.w X.K X.mg X.base CX0 k fI fd ["self"] spNop) (hr : Room (k + 1) X.A) (hb : Binds X.K fd ["self"] []) (hg : Gl X x) (hm : X.mg x = some (.ref C)) (d1 : (x == ("__debug__" : Str)) = false := by decide) :
    PMk X (.Call (.Name x p) [] [] pos) (fun _ H Q => Q (.ref C) none H) := by
  intro pins s σ H Q I q
  obtain ⟨nm, qn, N, bs, bm, sn, sub, ab, col, dd, k0, k1, k2, k3, k5, hC, hbm⟩ := T.cls
  refine wpAny_Call_Name_kw (ld_glob I hg hm ?_ d1)
  refine PySem.W.callWith_K0 I.kIn T.kC ?_
  obtain ⟨hp, g, dr, tk, os⟩ := s
  obtain ⟨a, ea⟩ : ∃ a, a = hp.objs.size + 1 := ⟨_, rfl⟩
  have big : hp.objs.size ≤ a := by rw [ea]; exact Nat.le_succ _
  have nA : H a = none := I.hok.fresh big
  have kk : ∀ b o, hp.get? b = some o → ((hp.push (PySem.W.kdv_tup [])).push (PySem.HandSPX.excO C hp.objs.size)).get? b = some o := fun b o e => Heap.get?_push_of_some _ (Heap.get?_push_of_some _ e)
  have hget : ((hp.push (PySem.W.kdv_tup [])).push (PySem.HandSPX.excO C hp.objs.size)).get? a = some (PySem.HandSPX.excO C hp.objs.size) := by
    rw [ea]
    heap_get
  have I2 : Inv X pins σ (upd H a (exo a C none)) ⟨(hp.push (PySem.W.kdv_tup [])).push (PySem.HandSPX.excO C hp.objs.size), g, dr, tk, os⟩ := I.laid (t' := tk) (a := a) (o := exo a C none) kk big (exo_ok hget)
  have bnd := hb _ [Value.ref a] I2.kIn rfl
  refine wpAny_call (PySem.HandSPX.call_own F.excBase_ValueError (fun Y => PySem.HandSPX.refsVE_contains Y bm hbm) (I.kIn _ _ hC) (PySem.W.looks_findIn I.kIn iC) (fun self => PySem.W.bind_fn I.kIn self tI) (Nat.zero_le _) ?_)
  rw [← ea]
  refine codeAny_mono (F1.run _ X.stack _ _ ⟨[Value.ref a], []⟩ [Value.ref a] [.ref a] (fun v H2 => v = .non ∧ H2 = upd H a (exo a C none)) (fun _ _ _ => False) (hr.make C [] []) (I2.env0.make C [] []) bnd (.cons rfl .nil) ⟨a, rfl, rfl, rfl⟩) fun r s' z => ?_
  match r, z with
  | .error er, z => exact z.elim
  | .ok .next, z => exact z.elim
  | .ok .brk, z => exact z.elim
  | .ok .cont, z => exact z.elim
  | .ok (.ret u), ⟨v, H2, os2, bare2, un, hok, rv, ev, e2⟩ =>
    subst ev e2
    obtain ⟨h2, g2, d2, t2, os'⟩ := s'
    refine ⟨rv, ?_⟩
    obtain ⟨t0, hoe⟩ := exo_at hok upd_same
    obtain ⟨G, in1, in2⟩ := restrict h2 fun b => decide (b ≠ a)
    have gk : ∀ b, b ≠ a → G.get? b = h2.get? b := fun b hb => in1 b (decide_eq_true hb)
    have ge : G.get? a = none := in2 a (by simp)
    have old : ∀ {b : Addr} {o : Obj}, hp.get? b = some o → b ≠ a := fun {b o} z => Nat.ne_of_lt (Nat.lt_of_lt_of_le (Heap.lt_size z) big)
    have lift : ∀ {b : Addr} {o : Obj}, hp.get? b = some o → H b = none → upd H a (exo a C none) b = none := fun {b o} z n => by
      rw [upd_ne (old z)]
      exact n
    have U : Un (frs X.stack) [] H H hp G := {
      keep := fun b o z n hf hx => by
        rw [gk b (old z)]
        exact un.keep b o (kk b o z) (lift z n) hf hx
      slot := fun b o z n hf hx => by
        rw [gk b (old z)]
        exact un.slot b o (kk b o z) (lift z n) hf hx
      free := fun b o z n hx => n
      there := fun b o z hx => by
        rw [gk b (old z)]
        exact un.there b o (kk b o z) hx
      tups := fun b xs z => z
      frzs := fun b o v z => z
      tbls := fun b ps z => ⟨#[], by rw [Array.append_empty]; exact z⟩ }
    have at2 : ∀ {b : Addr} {o : HO}, H b = some o → upd H a (exo a C none) b = some o := fun {b o} z => by
      rw [upd_ne (ne_of_none z nA)]
      exact z
    have back : ∀ {b : Addr} {o : HO}, o ≠ exo a C none → upd H a (exo a C none) b = some o → H b = some o := fun {b o} ne z => by
      rw [upd_ne (fun y => by rw [y, upd_same] at z; exact ne (Option.some.inj z).symm)] at z
      exact z
    have hok3 : HOk X.prog X.w H G := fun b o z => by
      refine (hok b o (at2 z)).stay (fun c v hc y => ?_) (fun c hc => back (fun e => exo_own e.symm) hc) fun c xs hc => back (fun e => exo_tup e.symm) hc
      rw [gk c fun e => ?_]
      · exact y
      · rcases hc with hc | hc
        · rw [e] at hc
          rw [← hc, nA] at z
          cases z
        · rw [e, upd_same] at hc
          exact exo_own (Option.some.inj hc)
    refine ⟨a, _, _, ⟨G, g2, d2, t2, os'⟩, H, .ref C, none, rfl, I.call' (ch := []) os2 U hok3 bare2 (fun b z => absurd z (by simp)), fun b o z => ?_, ge, hoe, ⟨rfl, rfl⟩, rfl, rfl, nA, rfl, bare2, raises_own T.exC T.tyC, q⟩
    by_cases hba : b = a
    · have z' : G.get? b = some o := z
      rw [hba, ge] at z'
      cases z'
    · exact (gk b hba).symm.trans z
end
end Tb

set_option Elab.async false
set_option linter.all false
set_option maxRecDepth 100000
set_option maxHeartbeats 4000000
/-! check_text, both ways -/
namespace Tb
open PySem PySem.Spec PyProof.Rows L2 TL
/-- what is known of NotLetter -/
structure NlTxt (P : Program) (w : World) (K : PySem.W.Frag) (mg : Str → Option Value) (base : Heap) (NL : Addr) : Prop where
  ox : OexC K NL
  mgC : mg "NotLetter" = some (.ref NL)
  nf : PySem.W.findIn K (.ref NL) "letter" = some none
  xf : XfC K NL
  mkr : ∃ fI fd, PySem.W.findIn K (.ref NL) "__init__" = some (some (.ref fI)) ∧ PySem.W.typeIn K (.ref fI) = some (.type "function") ∧ FnOk P w K mg base CX0 1 fI fd ["self", "letter"] (spNlInit K) ∧ Binds K fd ["self", "letter"] []
/-- an exception of NotLetter that holds v -/
def NlX (NL : Addr) (v : V) (H0 : Hp) (E : XK) : Prop := ∀ d H', Same H0 H' → H0 d = none → H' d = some (.xd [("letter", v)]) → E (.ref NL) (some d) H'
section
variable {X : Cx} {NL : Addr} {e : Expr} {te : TE} {p pos pos2 : Pos} {j : Nat} {W : WX}
/-- raise NotLetter(e) -/
def tRaiseNl (NL : Addr) (W : WX) (te : TE) : TS := fun _ σ H => te σ H fun v H1 => NlX NL v H1 fun cls d H' => W cls d σ H'
theorem ps_raiseNl (hc : X.calm = true) (T : NlTxt X.prog X.w X.K X.mg X.base NL) (hr : Room j X.A) (hj : 2 ≤ j) (tk : Takes X W) (he : PE X e te) (hg : Gl X "NotLetter" := by rfl)
    (st : starEach (e :: []) X.env = (false, eval e X.env) :: starEach [] X.env := by rfl) (pl : (backTo pos (starEach [] X.env)).any (·.1) = false := by rfl) :
    PS X (.Raise (some (.Call (.Name "NotLetter" p) [e] [] pos)) none pos2) (tRaiseNl NL W te) := by
  obtain ⟨fI, fd, iC, tI, F, b⟩ := T.mkr
  have r := ps_raise (pos := pos2) hc tk (pmk_oex (p := p) (pos := pos) T.ox iC tI F (hr.mono hj) b .nil pass0 hg T.mgC (pa_cons (PE.mono he) pa_nil st) (by decide) st pl)
  refine ⟨fun pins s σ H D I h => r.run pins s σ H D I ⟨_, h, fun v H1 nl => ⟨by show 1 ≤ 1000; decide, fun a na => ⟨a, NL, v, rfl, T.ox, T.nf, upd_same, fun dx nd ne => ?_⟩⟩⟩⟩
  rw [upd_ne ne] at nd
  refine ⟨rfl, dx, [("letter", v)], upd_same, ?_, nd, nl dx _ (fun c o e => ?_) nd upd_same⟩
  · rw [upd_ne ne]
    exact upd_same
  · have c1 := ne_of_none e na
    have c2 := ne_of_none e nd
    rw [upd_ne c2, del_ne c1, upd_ne c1, upd_ne c2, upd_ne c1]
    exact e
end
section
variable {P : Program} {w : World} {K : PySem.W.Frag} {mg : Str → Option Value} {base : Heap}
def spCheckX (K : PySem.W.Frag) (C NL : Addr) : Sp := fun vs H Q E => ∃ (p : Addr) (L B : List Nat) (places : List (List Nat)) (ms : List Mv) (es : Fil), PrAt C H p L B places ms es ∧
  ((∃ t : List Nat, vs = [.ref p, .str (S t)] ∧ ((∀ c ∈ t, c ∈ L) → Q .non H) ∧ ∀ u s v, t = u ++ s :: v → (∀ c ∈ u, c ∈ L) → s ∉ L → NlX NL (.str (S [s])) H E) ∨ ∃ x, vs = [.ref p, x] ∧ Isi K H x "str" false ∧ NlX NL x H E)
theorem ok_checkX {f C NL : Addr} {fd : FuncData} {k : Nat} (F : Fun K "check_text" "check_text" sCheck f fd) (T : PrTxt K mg C) (N : NlTxt P w K mg base NL) (DL : Prp P w K mg base C (k + 1) "letters" (getSp C "_letters")) (mi : mg "isinstance" = none) (ms' : mg "str" = none) : FnOk P w K mg base (L2.CX P w) (k + 3) f fd ["program", "text"] (spCheckX K C NL) := by
  refine F.okX scCheck (fun vs H Q E h => ?_) (fun cdv A outer s0 H vs Q E hr h => ?_)
  · obtain ⟨p, L, B, places, ms, es, _, ⟨t, rfl, _⟩ | ⟨x, rfl, _⟩⟩ := h <;> rfl
  · obtain ⟨p, L, B, places, ms, es, hp, h⟩ := h
    obtain ⟨dx, pl, mv, en, kk, h1, h2, h3, h4, h5⟩ := id hp.ob
    refine ⟨_, pss_cons (ps_if (pt_not (pt_val (pe_isStr (pv 1) mi (by rfl) ms' (by rfl)))) (pss_one (ps_raiseNl rfl N hr (by omega) (takes_of rfl rfl rfl rfl) (pv 1))) pss_nil)
        (pss_cons (ps_set (i := 2) scCheck.nd rfl (.inl rfl) (pe_prp DL T.cl hr (pv 0)))
        (pss_one (ps_for PassesOwn.leaving rfl (pi_str (pv 1)) (pg_name (i := 3) scCheck.nd rfl (.inl rfl))
          (pss_one (ps_if (pt_cmpR op_notIn_sign (pv 3) (pv 2) (by rfl)) (pss_one (ps_raiseNl rfl N hr (by omega) (takes_of rfl rfl rfl rfl) (pv 3))) pss_nil))))), ?_⟩
    rcases h with ⟨t, rfl, good, bad⟩ | ⟨x, rfl, isx, out⟩
    · refine ⟨_, rfl, true, isi_str _, true, rfl, iteF ⟨_, rfl, p, dx, _, rfl, h1, p, dx, _, _, rfl, h1, fl_l _ _ _ _ _, ?_⟩⟩
      refine ⟨_, rfl, S t, rfl, for_it (walk_str (z := S t)) (fun j σ H' => (∀ c ∈ t.take j, c ∈ L) ∧ ∃ v3, σ = [some (.ref p), some (.str (S t)), some (.str (S L)), v3] ∧ H' = H) ⟨fun c hc => by simp at hc, none, rfl, rfl⟩ (fun _ _ _ _ _ => trivial) ?_ ?_⟩
      · rintro j y σ H2 H2' hj ⟨ok, v3, rfl, e⟩ ⟨rfl, c, hc, rfl⟩
        subst e
        have hc' : t[j]? = some c := by
          rw [show (S t).cps = t.toArray from rfl, List.getElem?_toArray] at hc
          exact hc
        refine ⟨_, rfl, _, rfl, c, S L, rfl, rfl, _, rfl, ?_⟩
        by_cases hm : c ∈ L
        · rw [decide_eq_true (show c ∈ (S L).cps.toList from hm)]
          refine iteF ⟨fun d hd => ?_, _, rfl, rfl⟩
          rw [List.take_add_one, hc'] at hd
          rcases List.mem_append.mp hd with z | z
          · exact ok d z
          · have e3 : d = c := by simpa using z
            rw [e3]
            exact hm
        · rw [decide_eq_false (show ¬ c ∈ (S L).cps.toList from hm)]
          have lt : j < t.length := (List.getElem?_eq_some_iff.mp hc').1
          have cut : t = t.take j ++ c :: t.drop (j + 1) := by
            have e2 : t[j] = c := by
              rw [List.getElem?_eq_getElem lt] at hc'
              exact Option.some.inj hc'
            rw [← e2, List.getElem_cons_drop, List.take_append_drop]
          exact iteT ⟨_, rfl, bad _ _ _ cut ok hm⟩
      · rintro σ H2 ⟨ok, v3, rfl, rfl⟩
        refine good fun c hc => ok c ?_
        rw [show (S t).cps.size = t.length from rfl, List.take_length]
        exact hc
    · exact ⟨_, rfl, false, isx, false, rfl, iteT ⟨_, rfl, out⟩⟩
end
end Tb

set_option Elab.async false
set_option linter.all false
set_option maxRecDepth 100000
set_option maxHeartbeats 4000000
/-! a def's promise with two lists set aside: what it doesn't know stays, and nothing of its own stands there -/
namespace Tb
open PySem PySem.Spec PyProof.Rows L2 TL
def wo (H : Hp) (a b : Addr) : Hp := fun x => if x = a ∨ x = b then none else H x
theorem wo_a {H : Hp} {a b : Addr} : wo H a b a = none := if_pos (.inl rfl)
theorem wo_b {H : Hp} {a b : Addr} : wo H a b b = none := if_pos (.inr rfl)
theorem wo_ne {H : Hp} {a b x : Addr} (h1 : x ≠ a) (h2 : x ≠ b) : wo H a b x = H x := if_neg fun z => z.elim h1 h2
theorem wo_some {H : Hp} {a b x : Addr} {o : HO} (h : wo H a b x = some o) : x ≠ a ∧ x ≠ b ∧ H x = some o := by
  by_cases h1 : x = a
  · rw [h1, wo_a] at h
    cases h
  · by_cases h2 : x = b
    · rw [h2, wo_b] at h
      cases h
    · rw [wo_ne h1 h2] at h
      exact ⟨h1, h2, h⟩
theorem wo_same (H : Hp) (a b : Addr) : Same (wo H a b) H := fun x o h => (wo_some h).2.2
theorem wo_mono {H H' : Hp} {a b : Addr} (s : Same H H') : Same (wo H a b) (wo H' a b) := fun x o h => by
  obtain ⟨h1, h2, e⟩ := wo_some h
  rw [wo_ne h1 h2]
  exact s _ _ e
/-- the lists put back -/
def bk (H : Hp) (a b : Addr) (xs ys : List V) : Hp := upd (upd H a (.lst xs)) b (.lst ys)
theorem bk_a {H : Hp} {a b : Addr} {xs ys : List V} (ne : a ≠ b) : bk H a b xs ys a = some (.lst xs) := by
  unfold bk
  rw [upd_ne ne, upd_same]
theorem bk_b {H : Hp} {a b : Addr} {xs ys : List V} : bk H a b xs ys b = some (.lst ys) := upd_same
theorem bk_ne {H : Hp} {a b x : Addr} {xs ys : List V} (h1 : x ≠ a) (h2 : x ≠ b) : bk H a b xs ys x = H x := by
  unfold bk
  rw [upd_ne h2, upd_ne h1]
theorem wo_bk {H : Hp} {a b : Addr} {xs ys : List V} (na : H a = none) (nb : H b = none) : wo (bk H a b xs ys) a b = H := funext fun x => by
  by_cases h1 : x = a
  · rw [h1, wo_a, na]
  · by_cases h2 : x = b
    · rw [h2, wo_b, nb]
    · rw [wo_ne h1 h2, bk_ne h1 h2]
def frSp (sp : Sp) : Sp := fun vs H Q _ => ∃ (a b : Addr) (xs ys : List V), a ≠ b ∧ H a = some (.lst xs) ∧ H b = some (.lst ys) ∧ sp vs (wo H a b) (fun v H' => H' a = none → H' b = none → Q v (bk H' a b xs ys)) E0
section
variable {P : Program} {w : World} {K : PySem.W.Frag} {mg : Str → Option Value} {base : Heap}
theorem FnOk.frame {k : Nat} {f : Addr} {fd : FuncData} {ps : List Str} {sp : Sp} (F : FnOk P w K mg base CX0 k f fd ps sp) : FnOk P w K mg base CX0 k f fd ps (frSp sp) := by
  refine ⟨fun vs H Q E h => ?_, fun A outer s H args us vs Q E hr e0 hb r h => ?_⟩
  · obtain ⟨a, b, xs, ys, _, _, _, h⟩ := h
    exact F.len _ _ _ _ h
  obtain ⟨a, b, xs, ys, ne, ha, hb', h⟩ := h
  have away : ∀ {x : Addr} {o : HO}, H x = some o → (∀ zs, o ≠ .lst zs) → wo H a b x = some o := fun {x o} e n => by
    rw [wo_ne (fun z => by rw [z, ha] at e; exact n _ (Option.some.inj e).symm) (fun z => by rw [z, hb'] at e; exact n _ (Option.some.inj e).symm)]
    exact e
  have wn : ∀ {x : Addr}, H x = none → wo H a b x = none := fun {x} e => by
    unfold wo
    split
    · rfl
    · exact e
  have e1 : Env0 P w K mg base A outer s (wo H a b) := ⟨e0.frames, e0.mod, fun x o e => ⟨(e0.bs x o e).1, wn (e0.bs x o e).2⟩, e0.bsz, e0.funs, fun x hx => wn (e0.frf x hx), fun x o e => by
    obtain ⟨_, _, e'⟩ := wo_some e
    exact (e0.hok x o e').stay (fun _ _ _ y => y) (fun c hc => away hc (by intro _ z; cases z)) (fun c zs hc => away hc (by intro _ z; cases z)), e0.bare⟩
  have fa : a ∉ frs outer := fun z => by
    have := e0.frf a z
    rw [ha] at this
    cases this
  have fb : b ∉ frs outer := fun z => by
    have := e0.frf b z
    rw [hb'] at this
    cases this
  refine codeAny_mono (F.run A outer s (wo H a b) args us vs _ E0 hr e1 hb r h) fun res s' z => ?_
  match res, z with
  | .error er, z => exact z.elim
  | .ok .next, z => exact z.elim
  | .ok .brk, z => exact z.elim
  | .ok .cont, z => exact z.elim
  | .ok (.ret u), ⟨v, H', os, bare, un, hok, rv, q⟩ =>
    obtain ⟨la, its, n, va, ga⟩ := e0.hok a _ ha
    obtain ⟨lb, its', n', vb, gb⟩ := e0.hok b _ hb'
    have na : H' a = none := un.free a _ ga wo_a (by simp)
    have nb : H' b = none := un.free b _ gb wo_b (by simp)
    have out : ∀ {x : Addr} {o : HO}, H' x = some o → bk H' a b xs ys x = some o := fun {x o} e => by
      rw [bk_ne (ne_of_none e na) (ne_of_none e nb)]
      exact e
    have none2 : ∀ {x : Addr}, H x = none → x ≠ a ∧ x ≠ b := fun {x} e => ⟨(fun z => by rw [z, ha] at e; cases e), (fun z => by rw [z, hb'] at e; cases e)⟩
    refine ⟨v, bk H' a b xs ys, os, bare, ?_, fun x o e => ?_, rv, q na nb⟩
    · exact {
        keep := fun x o e n hx h2 => un.keep x o e (wn n) hx h2
        slot := fun x o e n hx h2 => un.slot x o e (wn n) hx h2
        free := fun x o e n h2 => by
          rw [bk_ne (none2 n).1 (none2 n).2]
          exact un.free x o e (wn n) h2
        there := un.there
        tups := fun x zs e => out (un.tups x zs (away e (by intro _ z; cases z)))
        frzs := fun x o v e => out (un.frzs x o v (away e (by intro _ z; cases z)))
        tbls := fun x ps e => by
          obtain ⟨more, z⟩ := un.tbls x ps (away e (by intro _ z; cases z))
          exact ⟨more, out z⟩ }
    · by_cases h1 : x = b
      · rw [h1, bk_b] at e
        cases e
        rw [h1]
        exact ⟨lb, its', n', vb, un.keep b _ gb wo_b fb (by simp)⟩
      · by_cases h2 : x = a
        · rw [h2, bk_a ne] at e
          cases e
          rw [h2]
          exact ⟨la, its, n, va, un.keep a _ ga wo_a fa (by simp)⟩
        · rw [bk_ne h2 h1] at e
          exact (hok x o e).stay (fun _ _ _ y => y) (fun c hc => out hc) (fun c zs hc => out hc)
theorem Mth.frame {C : Addr} {k : Nat} {nm : Str} {ps : List Str} {sp : Sp} (M : Mth P w K mg base C k nm ps sp) : Mth P w K mg base C k nm ps (frSp sp) := by
  obtain ⟨f, fd, hm, F, b⟩ := M.ex
  exact ⟨⟨f, fd, hm, FnOk.frame F, b⟩⟩
end
end Tb

set_option Elab.async false
set_option linter.all false
set_option maxRecDepth 100000
set_option maxHeartbeats 4000000
/-! class Reader: what it holds; _now, told, state, text, program -/
namespace Tb
open PySem PySem.Spec PyProof.Rows L2 TL
abbrev sRd : Stmt := topS 32
abbrev sRdInit : Stmt := subS sRd 0
abbrev sRdProgram : Stmt := subS sRd 1
abbrev sRdRead : Stmt := subS sRd 2
abbrev sRdText : Stmt := subS sRd 3
abbrev sRdState : Stmt := subS sRd 4
abbrev sRdTold : Stmt := subS sRd 5
abbrev sRdUndo : Stmt := subS sRd 6
abbrev sRdAgain : Stmt := subS sRd 7
abbrev sRdNow : Stmt := subS sRd 8
def rdF (p st dn un : Addr) : List (Str × V) := [("_program", .ref p), ("_steps", .ref st), ("_done", .ref dn), ("_undone", .ref un)]
theorem rd_p (p st dn un : Addr) : (rdF p st dn un).lookup ("_program" : Str) = some (.ref p) := rfl
theorem rd_s (p st dn un : Addr) : (rdF p st dn un).lookup ("_steps" : Str) = some (.ref st) := by
  show List.lookup _ (_ :: _) = _
  rw [List.lookup_cons, show (("_steps" : Str) == "_program") = false by decide +kernel]
  rfl
theorem rd_d (p st dn un : Addr) : (rdF p st dn un).lookup ("_done" : Str) = some (.ref dn) := by
  show List.lookup _ (_ :: _ :: _) = _
  rw [List.lookup_cons, show (("_done" : Str) == "_program") = false by decide +kernel, List.lookup_cons, show (("_done" : Str) == "_steps") = false by decide +kernel]
  rfl
theorem rd_u (p st dn un : Addr) : (rdF p st dn un).lookup ("_undone" : Str) = some (.ref un) := by
  show List.lookup _ (_ :: _ :: _ :: _) = _
  rw [List.lookup_cons, show (("_undone" : Str) == "_program") = false by decide +kernel, List.lookup_cons, show (("_undone" : Str) == "_steps") = false by decide +kernel, List.lookup_cons, show (("_undone" : Str) == "_done") = false by decide +kernel]
  rfl
theorem rd_no (p st dn un : Addr) {x : Str} (h : x ∉ (["_program", "_steps", "_done", "_undone"] : List Str)) : (rdF p st dn un).lookup x = none := by
  have a : ∀ {y : Str}, y ∈ (["_program", "_steps", "_done", "_undone"] : List Str) → (x == y) = false := fun {y} hy => beq_eq_false_iff_ne.mpr fun e => h (e ▸ hy)
  show List.lookup x [_, _, _, _] = none
  rw [List.lookup_cons, a (by simp), List.lookup_cons, a (by simp), List.lookup_cons, a (by simp), List.lookup_cons, a (by simp)]
  rfl
structure RdTxt (K : PySem.W.Frag) (mg : Str → Option Value) (CD CS CR C : Addr) : Prop where
  cl : Cls K CD
  nP : NoAttr K CD "_program"
  nS : NoAttr K CD "_steps"
  nD : NoAttr K CD "_done"
  nU : NoAttr K CD "_undone"
  mgC : mg "Reader" = some (.ref CD)
  neR : CD ≠ CR
  neS : CD ≠ CS
  neC : CD ≠ C
/-- a state: refused, or a place and the boxes' texts -/
abbrev Mem := Option (List Nat × Env)
def StV (CR : Addr) (H : Hp) (B : List Nat) (v : V) : Mem → Prop
  | none => v = .non
  | some z => ∃ T d, v = .ref T ∧ H T = some (.tup [.str (S z.1), .ref d]) ∧ EnvAt CR H d z.2 ∧ z.2.map (·.1) = B ∧ (z.2.map (·.2.length)).sum ≤ 500000
theorem StV.same {CR : Addr} {H H' : Hp} {B : List Nat} {v : V} (s : Same H H') : ∀ {m : Mem}, StV CR H B v m → StV CR H' B v m
  | none, h => h
  | some _, ⟨T, d, e, h1, h2, r⟩ => ⟨T, d, e, s _ _ h1, h2.same s, r⟩
def DeedV (CR : Addr) (H : Hp) (B : List Nat) (v : V) (q : List Nat × Mem) : Prop := ∃ a w, v = .ref a ∧ H a = some (.tup [.str (S q.1), w]) ∧ StV CR H B w q.2 ∧ q.1.length ≤ 1000
theorem DeedV.same {CR : Addr} {H H' : Hp} {B : List Nat} {v : V} {q : List Nat × Mem} (s : Same H H') (h : DeedV CR H B v q) : DeedV CR H' B v q := by
  obtain ⟨a, w, e, h1, h2, r⟩ := h
  exact ⟨a, w, e, s _ _ h1, h2.same s, r⟩
/-- a reader in the heap -/
structure RdAt (CD CS CR C : Addr) (H : Hp) (r st dn un g p : Addr) (L B : List Nat) (places : List (List Nat)) (ms : List Mv) (es : Fil) (done undone : List (List Nat × Mem)) (n : Nat) : Prop where
  ob : ∃ dx xs ys, H r = some (.ins CD dx (rdF p st dn un)) ∧ H dn = some (.lst xs) ∧ Paired (DeedV CR H B) xs done ∧ H un = some (.lst ys) ∧ Paired (DeedV CR H B) ys undone
  sw : StAt CS C (wo H dn un) st p g L B places ms es n
  ne : dn ≠ un
section
variable {CD CS CR C : Addr} {H H' : Hp} {r st dn un g p : Addr} {L B : List Nat} {places : List (List Nat)} {ms : List Mv} {es : Fil} {done undone : List (List Nat × Mem)} {n : Nat}
theorem RdAt.sa (h : RdAt CD CS CR C H r st dn un g p L B places ms es done undone n) : StAt CS C H st p g L B places ms es n := h.sw.same (wo_same H dn un)
theorem RdAt.same (s : Same H H') (h : RdAt CD CS CR C H r st dn un g p L B places ms es done undone n) : RdAt CD CS CR C H' r st dn un g p L B places ms es done undone n := by
  obtain ⟨dx, xs, ys, h1, h2, h3, h4, h5⟩ := h.ob
  exact ⟨⟨dx, xs, ys, s _ _ h1, s _ _ h2, Paired.mono (fun _ _ z => z.same s) h3, s _ _ h4, Paired.mono (fun _ _ z => z.same s) h5⟩, h.sw.same (wo_mono s), h.ne⟩
end
/-- where the reader is now -/
def nowM (pl0 B : List Nat) (done : List (List Nat × Mem)) : Mem := match done.getLast? with | some q => q.2 | none => some (pl0, B.map fun b => (b, []))
theorem paired_last {α β : Type} {F : α → β → Prop} : ∀ {l : List α} {m : List β}, Paired F l m → (l = [] ∧ m = []) ∨ ∃ l' x m' y, l = l' ++ [x] ∧ m = m' ++ [y] ∧ Paired F l' m' ∧ F x y
  | _, _, .nil => .inl ⟨rfl, rfl⟩
  | _, _, .cons (a := a) (b := b) h t => by
    rcases paired_last t with ⟨e1, e2⟩ | ⟨l', x, m', y, e1, e2, p, f⟩
    · subst e1 e2
      exact .inr ⟨[], a, [], b, rfl, rfl, .nil, h⟩
    · subst e1 e2
      exact .inr ⟨a :: l', x, b :: m', y, rfl, rfl, .cons h p, f⟩
section
variable {P : Program} {w : World} {K : PySem.W.Frag} {mg : Str → Option Value} {base : Heap} {CD CS CR C : Addr}
theorem scRd1 : FnScope ["self"] ["self"] (defScope sRdProgram) := ⟨rfl, rfl, rfl, by decide +kernel, rfl, by decide +kernel, by decide +kernel⟩
theorem ok_rdProgram {f : Addr} {fd : FuncData} {k : Nat} (F : Fun K "program" "Reader.program" sRdProgram f fd) (T : RdTxt K mg CD CS CR C) : FnOk P w K mg base CX0 (k + 1) f fd ["self"] (getSp CD "_program") := by
  refine F.ok scRd1 (fun vs H Q E h => ?_) (fun cdv A outer s H vs Q E hr h => ?_)
  · obtain ⟨a, dx, fs, v, rfl, _⟩ := h
    rfl
  · obtain ⟨a, dx, fs, v, rfl, h1, h2, q⟩ := h
    exact ⟨_, pss_one (ps_ret (pe_fld (pv 0) rfl)), _, rfl, a, CD, dx, fs, v, rfl, h1, T.cl, T.nP, h2, q⟩
/-- what all of them ask -/
def RdPre (CD CS CR C : Addr) (H : Hp) (r : Addr) (B pl0 : List Nat) (done undone : List (List Nat × Mem)) (ms : List Mv) (es : Fil) : Prop := ∃ st dn un g p L places n, RdAt CD CS CR C H r st dn un g p L B (pl0 :: places) ms es done undone n ∧ PgOk B ms es
theorem scRdNow : FnScope ["self"] ["self"] (defScope sRdNow) := ⟨rfl, rfl, rfl, by decide +kernel, rfl, by decide +kernel, by decide +kernel⟩
def spNow (CD CS CR C : Addr) : Sp := fun vs H Q _ => ∃ (r : Addr) (B pl0 : List Nat) (done undone : List (List Nat × Mem)) (ms : List Mv) (es : Fil), vs = [.ref r] ∧ RdPre CD CS CR C H r B pl0 done undone ms es ∧ ∀ v H', Same H H' → StV CR H' B v (nowM pl0 B done) → Q v H'
theorem ok_rdNow {f : Addr} {fd : FuncData} {k : Nat} (F : Fun K "_now" "Reader._now" sRdNow f fd) (T : RdTxt K mg CD CS CR C) (U : StTxt K mg CS) (D1 : Mth P w K mg base CS (k + 3) "first" [] (spStFirst CS C)) : FnOk P w K mg base CX0 (k + 4) f fd ["self"] (spNow CD CS CR C) := by
  refine F.ok scRdNow (fun vs H Q E h => ?_) (fun cdv A outer s H vs Q E hr h => ?_)
  · obtain ⟨r, B, pl0, done, undone, ms, es, rfl, _⟩ := h
    rfl
  · obtain ⟨r, B, pl0, done, undone, ms, es, rfl, ⟨st, dn, un, g, p, L, places, n, R, G⟩, q⟩ := h
    obtain ⟨dx, xs, ys, h1, h2, h3, h4, h5⟩ := R.ob
    refine ⟨_, pss_one (ps_ret (pe_ifExp (pt_truth (pe_fld (pv 0) rfl) (fun _ => rfl)) (pe_ix ix_tup (pe_ix ix_list (pe_fld (pv 0) rfl) (pe_un un_neg pe_int) (fun _ _ => rfl)) pe_int (fun _ _ => rfl)) (pe_mthZ D1 U.cl hr (pe_fld (pv 0) rfl)))), ?_⟩
    rcases paired_last h3 with ⟨e1, e2⟩ | ⟨xs', x, done', q0, e1, e2, p', a0, w0, ex, ha, hw, _⟩
    · subst e1 e2
      obtain ⟨dxs, kvs, hs, _⟩ := id R.sa.ob
      refine ⟨_, rfl, r, CD, dx, _, _, rfl, h1, T.cl, T.nD, rd_d _ _ _ _, false, .inl ⟨_, SqL.of h2, rfl⟩, iteF ⟨_, rfl, r, CD, dx, _, _, rfl, h1, T.cl, T.nS, rd_s _ _ _ _, st, dxs, _, rfl, hs, sf_no _ _ _ (by decide +kernel), st, p, g, L, B, pl0, places, ms, es, n, rfl, R.sa, G, fun T0 d H1 s1 nd eT ed => ?_⟩⟩
      exact q _ H1 s1 ⟨T0, d, rfl, eT, EnvAt.ofK ed, start_keys B, by rw [start_sum]; omega⟩
    · subst e1 e2
      have ne : (xs' ++ [x]).isEmpty = false := by simp
      refine ⟨_, rfl, r, CD, dx, _, _, rfl, h1, T.cl, T.nD, rd_d _ _ _ _, true, .inl ⟨_, SqL.of h2, by rw [ne]; rfl⟩, iteT ?_⟩
      refine ⟨_, rfl, r, CD, dx, _, _, rfl, h1, T.cl, T.nD, rd_d _ _ _ _, 1, rfl, dn, _, _, x, rfl, rfl, SqL.of h2, atI_last xs' x, ?_⟩
      subst ex
      refine ⟨a0, _, 1, w0, rfl, rfl, SqT.of ha, rfl, q w0 H (fun _ _ e => e) ?_⟩
      unfold nowM
      rw [List.getLast?_concat]
      exact hw
/-- what is told of a state -/
def tellM (es : Fil) : Mem → Option (List Nat)
  | none => none
  | some z => endE es z.1 z.2
theorem scRdTold : FnScope ["self"] ["self"] (defScope sRdTold) := ⟨rfl, rfl, rfl, by decide +kernel, rfl, by decide +kernel, by decide +kernel⟩
def spRdTold (CD CS CR C : Addr) : Sp := fun vs H Q _ => ∃ (r : Addr) (B pl0 : List Nat) (done undone : List (List Nat × Mem)) (ms : List Mv) (es : Fil), vs = [.ref r] ∧ RdPre CD CS CR C H r B pl0 done undone ms es ∧ ∀ H', Same H H' → Q (optV (tellM es (nowM pl0 B done))) H'
theorem ok_rdTold {f : Addr} {fd : FuncData} {k : Nat} (F : Fun K "told" "Reader.told" sRdTold f fd) (T : RdTxt K mg CD CS CR C) (U : StTxt K mg CS) (DN : Mth P w K mg base CD (k + 4) "_now" [] (spNow CD CS CR C)) (D3 : Mth P w K mg base CS (k + 7) "told" ["state"] (spStToldG CR CS C)) : FnOk P w K mg base CX0 (k + 8) f fd ["self"] (spRdTold CD CS CR C) := by
  refine F.ok scRdTold (fun vs H Q E h => ?_) (fun cdv A outer s H vs Q E hr h => ?_)
  · obtain ⟨r, B, pl0, done, undone, ms, es, rfl, _⟩ := h
    rfl
  · obtain ⟨r, B, pl0, done, undone, ms, es, rfl, pre, q⟩ := h
    obtain ⟨st, dn, un, g, p, L, places, n, R, G⟩ := id pre
    obtain ⟨dx, xs, ys, h1, h2, h3, h4, h5⟩ := R.ob
    obtain ⟨dxs, kvs, hs, _⟩ := id R.sa.ob
    refine ⟨_, pss_one (ps_ret (pe_mth D3 U.cl hr (pe_fld (pv 0) rfl) (pa_cons (pe_mthZ DN T.cl hr (pv 0)) pa_nil))), ?_⟩
    refine ⟨_, rfl, r, CD, dx, _, _, rfl, h1, T.cl, T.nS, rd_s _ _ _ _, st, dxs, _, rfl, hs, sf_no _ _ _ (by decide +kernel), ?_⟩
    refine ⟨_, rfl, r, dx, _, rfl, h1, rd_no _ _ _ _ (by decide +kernel), r, B, pl0, done, undone, ms, es, rfl, pre, fun v H1 s1 hv => ?_⟩
    refine ⟨st, p, g, L, B, _, ms, es, n, R.sa.same s1, G, ?_⟩
    cases hm : nowM pl0 B done with
    | none =>
      rw [hm] at hv q
      obtain rfl : v = .non := hv
      exact .inl ⟨rfl, q H1 s1⟩
    | some z =>
      rw [hm] at hv q
      obtain ⟨T0, d, rfl, e1, e2, e3, e4⟩ := hv
      refine .inr ⟨T0, d, z.1, z.2, rfl, e1, e2, e3, by have := G.lB; omega, fun H2 s2 => q H2 (s1.trans s2)⟩
theorem scRdState : FnScope ["self"] ["self"] (defScope sRdState) := ⟨rfl, rfl, rfl, by decide +kernel, rfl, by decide +kernel, by decide +kernel⟩
def spRdState (CD CS CR C : Addr) : Sp := fun vs H Q _ => ∃ (r : Addr) (B pl0 : List Nat) (done undone : List (List Nat × Mem)) (ms : List Mv) (es : Fil), vs = [.ref r] ∧ RdPre CD CS CR C H r B pl0 done undone ms es ∧
  match nowM pl0 B done with
  | none => ∀ H', Same H H' → Q .non H'
  | some z => ∀ T' d' H', Same H H' → H d' = none → H' T' = some (.tup [.str (S z.1), .ref d']) → H' d' = some (.dK (envK z.2)) → Q (.ref T') H'
theorem ok_rdState {f : Addr} {fd : FuncData} {k : Nat} (F : Fun K "state" "Reader.state" sRdState f fd) (T : RdTxt K mg CD CS CR C) (U : StTxt K mg CS) (DN : Mth P w K mg base CD (k + 4) "_now" [] (spNow CD CS CR C)) (D3 : Mth P w K mg base CS (k + 3) "shown" ["state"] (spShownG CR CS C)) : FnOk P w K mg base CX0 (k + 5) f fd ["self"] (spRdState CD CS CR C) := by
  refine F.ok scRdState (fun vs H Q E h => ?_) (fun cdv A outer s H vs Q E hr h => ?_)
  · obtain ⟨r, B, pl0, done, undone, ms, es, rfl, _⟩ := h
    rfl
  · obtain ⟨r, B, pl0, done, undone, ms, es, rfl, pre, q⟩ := h
    obtain ⟨st, dn, un, g, p, L, places, n, R, G⟩ := id pre
    obtain ⟨dx, xs, ys, h1, h2, h3, h4, h5⟩ := R.ob
    obtain ⟨dxs, kvs, hs, _⟩ := id R.sa.ob
    refine ⟨_, pss_one (ps_ret (pe_mth D3 U.cl hr (pe_fld (pv 0) rfl) (pa_cons (pe_mthZ DN T.cl hr (pv 0)) pa_nil))), ?_⟩
    refine ⟨_, rfl, r, CD, dx, _, _, rfl, h1, T.cl, T.nS, rd_s _ _ _ _, st, dxs, _, rfl, hs, sf_no _ _ _ (by decide +kernel), ?_⟩
    refine ⟨_, rfl, r, dx, _, rfl, h1, rd_no _ _ _ _ (by decide +kernel), r, B, pl0, done, undone, ms, es, rfl, pre, fun v H1 s1 hv => ?_⟩
    refine ⟨st, p, g, L, B, _, ms, es, n, R.sa.same s1, G, ?_⟩
    cases hm : nowM pl0 B done with
    | none =>
      rw [hm] at hv q
      obtain rfl : v = .non := hv
      exact .inl ⟨rfl, q H1 s1⟩
    | some z =>
      rw [hm] at hv q
      obtain ⟨T0, d, rfl, e1, e2, e3, e4⟩ := hv
      exact .inr ⟨T0, d, z.1, z.2, rfl, e1, e2, e3, by omega, fun T' d' H2 s2 nd eT ed => q T' d' H2 (s1.trans s2) (s1.free nd) eT ed⟩
end
end Tb

set_option Elab.async false
set_option linter.all false
set_option maxRecDepth 100000
set_option maxHeartbeats 4000000
/-! Reader.text, read, undo, again, __init__ -/
namespace Tb
open PySem PySem.Spec PyProof.Rows L2 TL
/-- a comprehension over a list, the values given one by one -/
theorem lc_each {K : PySem.W.Frag} {te : TE} {vs : List Nat} {σ : L2.St} {H1 : Hp} {D a : Addr} {Qd : Hp → Prop} {sl : Nat} {xs ys : List V} (hS : SqL K H1 a xs) (len : xs.length = ys.length) (nD : H1 D = none) (hl : xs.length < sizeLine)
    (he : ∀ (i : Nat) x y, xs[i]? = some x → ys[i]? = some y → ∀ H' (R : VK), Same H1 H' → (∀ H'', Same H' H'' → R y H'') → te ((wipe σ vs).set sl (some x)) H' R)
    (hd : ∀ H', Same H1 H' → H' D = some (.lst ys) → Qd H') (hw : ∀ x, wipe ((wipe σ vs).set sl (some x)) vs = wipe σ vs := by intro _; rfl) :
    ∃ W : Nat → Nat → Hp → Prop, (∃ m, W 0 m (upd H1 D (.lst []))) ∧ ∀ i m H, W i m H →
      ((Itl K a).stop i H ∧ Qd H) ∨ ((Itl K a).go i H ∧ ∃ Nx : Hp → Prop, (∀ H', Nx H' → ∃ m', m' < m ∧ W (i + 1) m' H') ∧ ∀ x H', (Itl K a).yld i H x H' → gName sl x (wipe σ vs) H' fun σ2 H2 => wipe σ2 vs = wipe σ vs ∧ tYes σ2 H2 fun b H3 =>
        if b = true then te σ2 H3 fun y H4 => ∃ acc, H4 D = some (.lst acc) ∧ acc.length < sizeLine ∧ Nx (upd H4 D (.lst (acc ++ [y]))) else Nx H3) := by
  refine lc_it (walk_list (xs := xs)) (fun i H => Same H1 H ∧ H D = some (.lst (ys.take i))) ⟨same_upd nD, upd_same⟩ (fun i H _ h => SqL.ext hS fun b o e => h.1 b o e) ?_ ?_
  · rintro i x H H' hi ⟨s, e⟩ ⟨rfl, hx⟩
    have hi' : i < ys.length := by rw [← len]; exact (List.getElem?_eq_some_iff.mp hx).1
    have hy := List.getElem?_eq_getElem hi'
    refine ⟨hw _, tYes_if (he i x _ hx hy _ _ s fun H2 s2 => ⟨_, s2 _ _ e, ?_, fun b o eb => ?_, ?_⟩)⟩
    · rw [List.length_take]
      omega
    · rw [upd_ne (ne_of_none eb nD)]
      exact s2 _ _ (s _ _ eb)
    · rw [upd_same, List.take_add_one, hy]
      rfl
  · rintro H ⟨s, e⟩
    rw [len, List.take_length] at e
    exact hd H s e
theorem paired_at {α β : Type} {F : α → β → Prop} : ∀ {l : List α} {m : List β} {i : Nat} {x : α}, Paired F l m → l[i]? = some x → ∃ y, m[i]? = some y ∧ F x y
  | _, _, _, _, .nil, h => by simp at h
  | _, _, 0, _, .cons h t, e => by
    simp at e
    subst e
    exact ⟨_, rfl, h⟩
  | _, _, i + 1, x, .cons h t, e => by
    rw [List.getElem?_cons_succ] at e
    obtain ⟨y, h1, h2⟩ := paired_at t e
    exact ⟨y, by rw [List.getElem?_cons_succ]; exact h1, h2⟩
section
variable {P : Program} {w : World} {K : PySem.W.Frag} {mg : Str → Option Value} {base : Heap} {CD CS CR C : Addr}
abbrev nRdText : List Str := ["self", "deed"]
theorem scRdText : FnScope nRdText ["self"] (defScope sRdText) := ⟨rfl, rfl, rfl, by decide +kernel, rfl, by decide +kernel, by decide +kernel⟩
def textM (done : List (List Nat × Mem)) : List Nat := (done.map (·.1)).flatten
def spRdText (CD CS CR C : Addr) : Sp := fun vs H Q _ => ∃ (r : Addr) (B pl0 : List Nat) (done undone : List (List Nat × Mem)) (ms : List Mv) (es : Fil), vs = [.ref r] ∧ RdPre CD CS CR C H r B pl0 done undone ms es ∧ done.length ≤ 1000 ∧ (textM done).length ≤ 1000000 ∧ ∀ H', Same H H' → Q (.str (S (textM done))) H'
theorem ok_rdText {f : Addr} {fd : FuncData} {k : Nat} (F : Fun K "text" "Reader.text" sRdText f fd) (T : RdTxt K mg CD CS CR C) : FnOk P w K mg base CX0 (k + 1) f fd ["self"] (spRdText CD CS CR C) := by
  refine F.ok scRdText (fun vs H Q E h => ?_) (fun cdv A outer s H vs Q E hr h => ?_)
  · obtain ⟨r, B, pl0, done, undone, ms, es, rfl, _⟩ := h
    rfl
  · obtain ⟨r, B, pl0, done, undone, ms, es, rfl, pre, few, len, q⟩ := h
    obtain ⟨st, dn, un, g, p, L, places, n, R, G⟩ := id pre
    obtain ⟨dx, xs, ys, h1, h2, h3, h4, h5⟩ := R.ob
    refine ⟨_, pss_one (ps_ret (pe_join pe_str (pe_lc (own := [("deed", 1)]) (g := gName 1) (tt := tYes) (te := tOp (rIxT K) (tVar 1) (tC (.int 0))) rfl scRdText.nd (pi_list (pe_fld (pv 0) rfl)) (blkOk_by (own := [("deed", 1)]) (N := nRdText) (sc := defScope sRdText) (by decide +kernel))
      (fun _ _ _ _ _ => pg_name (i := 1) scRdText.nd rfl (.inl rfl)) (fun _ _ _ _ _ => pts_nil) (fun _ _ _ _ _ => pe_ix ix_tup (pv 1) pe_int (fun _ _ => rfl))))), ?_⟩
    have lx := Paired.length h3
    refine ⟨⟨_, rfl⟩, _, rfl, r, CD, dx, _, _, rfl, h1, T.cl, T.nD, rd_d _ _ _ _, dn, rfl, ⟨_, SqL.of h2⟩, fun D nD => ?_⟩
    refine lc_each (SqL.of h2) (ys := (done.map (·.1)).map fun c => .str (S c)) (by rw [List.length_map, List.length_map]; exact lx) nD (by rw [lx]; exact small1000 few) ?_ ?_
    · intro i x y hx hy H1 R' s1 q1
      obtain ⟨d, hd, a0, w0, rfl, ha, _⟩ := paired_at h3 hx
      have ey : y = .str (S d.1) := by
        rw [List.getElem?_map, List.getElem?_map, hd] at hy
        exact (Option.some.inj hy).symm
      rw [ey] at q1
      exact ⟨_, rfl, a0, _, 0, .str (S d.1), rfl, rfl, SqT.of (s1 _ _ ha), rfl, q1 H1 fun _ _ e => e⟩
    · intro H1 s1 e1
      refine ⟨_, D, (done.map (·.1)).map S, rfl, rfl, .inl (SqL.of (by rw [e1]; simp only [List.map_map]; rfl)), ?_, ?_⟩
      · rw [len_fil, str_empty, len_S]
        show (textM done).length + _ * 0 ≤ _
        have : (1000000 : Nat) ≤ sizeLine := by decide
        omega
      · rw [str_empty, join_fil]
        exact q H1 s1
end
end Tb

set_option Elab.async false
set_option linter.all false
set_option maxRecDepth 100000
set_option maxHeartbeats 4000000
/-! Reader.read, undo, again -/
namespace Tb
open PySem PySem.Spec PyProof.Rows L2 TL
/-- all but these stand -/
def Out (l : List Addr) (H H' : Hp) : Prop := ∀ b o, H b = some o → b ∉ l → H' b = some o
theorem Out.trans {l : List Addr} {H H1 H2 : Hp} (a : Out l H H1) (b : Out l H1 H2) : Out l H H2 := fun c o e n => b c o (a c o e n) n
theorem Out.same {l : List Addr} {H H' : Hp} (s : Same H H') : Out l H H' := fun b o e _ => s b o e
theorem Out.upd {l : List Addr} {H : Hp} {a : Addr} {o : HO} (h : a ∈ l) : Out l H (upd H a o) := fun b u e n => by
  rw [upd_ne (fun z => n (by rw [z]; exact h))]
  exact e
/-- what a deed is made of stays -/
def KpD (CR : Addr) (H H' : Hp) : Prop := ∀ b o, H b = some o → ((∃ xs, o = .tup xs) ∨ (∃ kvs, o = .dK kvs) ∨ ∃ dx fs, o = .ins CR dx fs) → H' b = some o
theorem KpD.trans {CR : Addr} {H H1 H2 : Hp} (a : KpD CR H H1) (b : KpD CR H1 H2) : KpD CR H H2 := fun c o e k => b c o (a c o e k) k
theorem KpD.same {CR : Addr} {H H' : Hp} (s : Same H H') : KpD CR H H' := fun b o e _ => s b o e
theorem KpD.lst {CR : Addr} {H : Hp} {a : Addr} {xs : List V} {o : HO} (h : H a = some (.lst xs)) : KpD CR H (upd H a o) := fun b u e k => by
  rw [upd_ne (fun z => ?_)]
  · exact e
  · rw [z, h] at e
    rcases k with ⟨_, k⟩ | ⟨_, k⟩ | ⟨_, _, k⟩ <;> rw [k] at e <;> cases e
theorem KpD.wo {CR : Addr} {H : Hp} {a b : Addr} {xs ys : List V} (ha : H a = some (.lst xs)) (hb : H b = some (.lst ys)) : KpD CR H (wo H a b) := fun x u e k => by
  rw [wo_ne (fun z => ?_) (fun z => ?_)]
  · exact e
  · rw [z, ha] at e
    rcases k with ⟨_, k⟩ | ⟨_, k⟩ | ⟨_, _, k⟩ <;> rw [k] at e <;> cases e
  · rw [z, hb] at e
    rcases k with ⟨_, k⟩ | ⟨_, k⟩ | ⟨_, _, k⟩ <;> rw [k] at e <;> cases e
theorem EnvAt.keepD {CR : Addr} {H H' : Hp} (k : KpD CR H H') {d : Addr} {env : Env} (h : EnvAt CR H d env) : EnvAt CR H' d env := by
  obtain ⟨kvs, e, p⟩ := h
  exact ⟨kvs, k _ _ e (.inr (.inl ⟨_, rfl⟩)), p.keep fun b o e ho => k _ _ e (ho.elim .inl fun z => .inr (.inr z))⟩
theorem StV.keepD {CR : Addr} {H H' : Hp} {B : List Nat} {v : V} (k : KpD CR H H') : ∀ {m : Mem}, StV CR H B v m → StV CR H' B v m
  | none, h => h
  | some _, ⟨T, d, e, h1, h2, r⟩ => ⟨T, d, e, k _ _ h1 (.inl ⟨_, rfl⟩), h2.keepD k, r⟩
theorem DeedV.keepD {CR : Addr} {H H' : Hp} {B : List Nat} {v : V} {q : List Nat × Mem} (k : KpD CR H H') (h : DeedV CR H B v q) : DeedV CR H' B v q := by
  obtain ⟨a, w, e, h1, h2, r⟩ := h
  exact ⟨a, w, e, k _ _ h1 (.inl ⟨_, rfl⟩), h2.keepD k, r⟩
/-- a reader's own object may change for its steps -/
theorem StAt.keepR {CD CS C : Addr} {H H' : Hp} {s p g : Addr} {L B : List Nat} {places : List (List Nat)} {ms : List Mv} {es : Fil} {n : Nat} (neS : CD ≠ CS) (neC : CD ≠ C) (k : ∀ b o, H b = some o → (∀ dx fs, o ≠ .ins CD dx fs) → H' b = some o) (h : StAt CS C H s p g L B places ms es n) : StAt CS C H' s p g L B places ms es n := by
  obtain ⟨dx, kvs, h1, h2, h3, h4, h5⟩ := h.ob
  obtain ⟨dx', pl, mv, en, kk, p1, p2, p3, p4, p5, p6⟩ := h2.ob
  refine ⟨dx, kvs, k _ _ h1 (fun dx fs z => ?_), ⟨dx', pl, mv, en, kk, k _ _ p1 (fun dx fs z => ?_), k _ _ p2 (by intro _ _ z; cases z), k _ _ p3 (by intro _ _ z; cases z), Paired.mono (fun kv m ⟨e, t, d, a, b, c⟩ => ⟨e, t, d, a, k _ _ b (by intro _ _ z; cases z), k _ _ c (by intro _ _ z; cases z)⟩) p4, k _ _ p5 (by intro _ _ z; cases z), p6⟩, k _ _ h3 (by intro _ _ z; cases z), h4, fun c a v e => ?_⟩
  · injection z with e _ _
    exact neS e.symm
  · injection z with e _ _
    exact neC e.symm
  · have h6 := h5 c a v e
    unfold CacheS at *
    cases e2 : findM ms c a with
    | none =>
      rw [e2] at h6
      exact h6
    | some m =>
      rw [e2] at h6
      obtain ⟨t, d, kv, e1, q1, q2, q3⟩ := h6
      exact ⟨t, d, kv, e1, k _ _ q1 (by intro _ _ z; cases z), k _ _ q2 (by intro _ _ z; cases z), Paired.mono (fun _ _ ⟨e, a, e3, h⟩ => ⟨e, a, e3, k _ _ h (by intro _ _ z; cases z)⟩) q3⟩
/-- a state behind a text -/
def runM (ms : List Mv) (B : List Nat) : Mem → List Nat → Mem
  | none, _ => none
  | some z, t => runE ms B z t
def sumM : Mem → Nat
  | none => 0
  | some z => (z.2.map (·.2.length)).sum
theorem put_undone (p st dn un un' : Addr) : putF "_undone" (.ref un') (rdF p st dn un) = rdF p st dn un' := by
  unfold rdF putF
  rw [if_neg (by decide +kernel)]
  unfold putF
  rw [if_neg (by decide +kernel)]
  unfold putF
  rw [if_neg (by decide +kernel)]
  unfold putF
  rw [if_pos rfl]
theorem wo_upd_a {H : Hp} {a b : Addr} {o : HO} : wo (upd H a o) a b = wo H a b := funext fun x => by
  by_cases h : x = a
  · rw [h, wo_a, wo_a]
  · by_cases h2 : x = b
    · rw [h2, wo_b, wo_b]
    · rw [wo_ne h h2, wo_ne h h2, upd_ne h]
theorem wo_upd_b {H : Hp} {a b : Addr} {o : HO} : wo (upd H b o) a b = wo H a b := funext fun x => by
  by_cases h : x = a
  · rw [h, wo_a, wo_a]
  · by_cases h2 : x = b
    · rw [h2, wo_b, wo_b]
    · rw [wo_ne h h2, wo_ne h h2, upd_ne h2]
section
variable {P : Program} {w : World} {K : PySem.W.Frag} {mg : Str → Option Value} {base : Heap} {CD CS CR C NL : Addr}
/-- (text, the state behind it) laid into done: what holds then -/
theorem paired_snoc {α β : Type} {F : α → β → Prop} : ∀ {l : List α} {m : List β} {x : α} {y : β}, Paired F l m → F x y → Paired F (l ++ [x]) (m ++ [y])
  | _, _, _, _, .nil, f => .cons f .nil
  | _, _, _, _, .cons h t, f => .cons h (paired_snoc t f)
theorem beh_ans {H : Hp} {st dn un g p : Addr} {L B : List Nat} {places : List (List Nat)} {ms : List Mv} {es : Fil} {n : Nat} {xs ys : List V} {v : V} {m : Mem} {t : List Nat} {Q : VK} {E : XK} (ne : dn ≠ un) (h2 : H dn = some (.lst xs)) (h4 : H un = some (.lst ys)) (sw : StAt CS C (wo H dn un) st p g L B places ms es n) (G : PgOk B ms es) (hn : n + t.length < 1000000) (hv : StV CR H B v m) (sum : sumM m + t.length * (7 * B.length) ≤ 500000)
    (q : ∀ v' H1, H1 dn = none → H1 un = none → But g (wo H dn un) H1 → StAt CS C H1 st p g L B places ms es (n + t.length) → StV CR H1 B v' (runM ms B m t) → Q v' (bk H1 dn un xs ys)) : frSp (spStBehindG CR CS C) [.ref st, v, .str (S t)] H Q E := by
  refine ⟨dn, un, xs, ys, ne, h2, h4, st, p, g, L, B, places, ms, es, n, t, sw, G, hn, ?_⟩
  cases m with
  | none =>
    obtain rfl : v = .non := hv
    exact .inl ⟨rfl, fun na nb => q _ _ na nb (But.refl g _) (sw.le (Nat.le_add_right _ _)) rfl⟩
  | some z =>
    obtain ⟨T0, d, rfl, e1, e2, e3, e4⟩ := hv
    have sum : (z.2.map (·.2.length)).sum + t.length * (7 * B.length) ≤ 500000 := sum
    have kw := KpD.wo (CR := CR) h2 h4
    refine .inr ⟨T0, d, z.1, z.2, rfl, kw _ _ e1 (.inl ⟨_, rfl⟩), e2.keepD kw, e3, by omega, ?_⟩
    show match runE ms B z t with | none => _ | some z => _
    cases hrun : runE ms B z t with
    | none =>
      rw [show runM ms B (some z) t = none from hrun] at q
      exact fun H1 b1 st1 na nb => q _ _ na nb b1 st1 rfl
    | some z' =>
      rw [show runM ms B (some z) t = some z' from hrun] at q
      exact fun T' d' H1 b1 st1 eT ed ek es2 na nb => q _ _ na nb b1 st1 ⟨T', d', rfl, eT, ed, ek, by omega⟩
theorem scRdRead : FnScope ["self", "text"] ["self", "text"] (defScope sRdRead) := ⟨rfl, rfl, rfl, by decide +kernel, rfl, by decide +kernel, by decide +kernel⟩
def spRead (K : PySem.W.Frag) (CD CS CR C NL : Addr) : Sp := fun vs H Q E => ∃ (r st dn un g p : Addr) (L B pl0 : List Nat) (places : List (List Nat)) (ms : List Mv) (es : Fil) (done undone : List (List Nat × Mem)) (n : Nat), RdAt CD CS CR C H r st dn un g p L B (pl0 :: places) ms es done undone n ∧ PgOk B ms es ∧
  ((∃ t : List Nat, vs = [.ref r, .str (S t)] ∧ t.length ≤ 1000 ∧ done.length < 1000 ∧ n + t.length < 1000000 ∧ sumM (nowM pl0 B done) + t.length * (7 * B.length) ≤ 500000 ∧
      ((∀ c ∈ t, c ∈ L) → ∀ un' H', Out [r, dn, un, g] H H' → H un' = none → RdAt CD CS CR C H' r st dn un' g p L B (pl0 :: places) ms es (done ++ [(t, runM ms B (nowM pl0 B done) t)]) [] (n + t.length) → Q (optV (tellM es (runM ms B (nowM pl0 B done) t))) H') ∧
      ∀ u s v, t = u ++ s :: v → (∀ c ∈ u, c ∈ L) → s ∉ L → NlX NL (.str (S [s])) H E) ∨
   ∃ x, vs = [.ref r, x] ∧ Isi K H x "str" false ∧ NlX NL x H E)
theorem ok_rdRead {f fc : Addr} {fd fdc : FuncData} (F : Fun K "read" "Reader.read" sRdRead f fd) (T : RdTxt K mg CD CS CR C) (U : StTxt K mg CS) (GC : FnOk P w K mg base (L2.CX P w) 3 fc fdc ["program", "text"] (spCheckX K C NL)) (bC : Binds K fdc ["program", "text"] []) (kC : PySem.W.keepIn K (.ref fc) = true) (mC : mg "check_text" = some (.ref fc))
    (DN : Mth P w K mg base CD 4 "_now" [] (spNow CD CS CR C)) (D2 : Mth P w K mg base CS 7 "behind" ["state", "text"] (spStBehindG CR CS C)) (DT : Mth P w K mg base CD 8 "told" [] (spRdTold CD CS CR C)) : FnOk P w K mg base (L2.CX P w) 9 f fd ["self", "text"] (spRead K CD CS CR C NL) := by
  refine F.okX scRdRead (fun vs H Q E h => ?_) (fun cdv A outer s0 H vs Q E hr h => ?_)
  · obtain ⟨r, st, dn, un, g, p, L, B, pl0, places, ms, es, done, undone, n, _, _, ⟨t, rfl, _⟩ | ⟨x, rfl, _⟩⟩ := h <;> rfl
  · obtain ⟨r, st, dn, un, g, p, L, B, pl0, places, ms, es, done, undone, n, R, G, h⟩ := h
    obtain ⟨dx, xs, ys, h1, h2, h3, h4, h5⟩ := R.ob
    have D2' := Mth.frame D2
    refine ⟨_, pss_cons (ps_expr (pe_call GC (hr.mono (by decide)) rfl mC kC bC .nil (passes_call (takes_of rfl rfl rfl rfl) fun _ _ _ _ h => h) (pa_cons (pe_fld (pv 0) rfl) (pa_cons (pv 1) pa_nil))))
      (pss_cons (ps_expr (pe_bm PySem.F.plainAttrs_list PySem.F.slot_list_append PySem.F.type_list_append mt_append (pe_fld (pv 0) rfl) (pa_cons (pe_tupS (pa_cons (pv 1) (pa_cons (pe_mth D2' U.cl hr (pe_fld (pv 0) rfl) (pa_cons (pe_mthZ DN T.cl hr (pv 0)) (pa_cons (pv 1) pa_nil))) pa_nil))) pa_nil)))
      (pss_cons (ps_fld (pv 0) (pe_lstS pa_nil) rfl)
      (pss_one (ps_ret (pe_mthZ DT T.cl hr (pv 0)))))), ?_⟩
    have pr := R.sa.ob.choose_spec.choose_spec.2.1.at
    have pre : RdPre CD CS CR C H r B pl0 done undone ms es := ⟨st, dn, un, g, p, L, places, n, R, G⟩
    obtain ⟨dxs, kvs, hs, _, hg, _⟩ := id R.sa.ob
    rcases h with ⟨t, rfl, lt, few, lim, sum, good, bad⟩ | ⟨x, rfl, isx, out⟩
    · refine ⟨_, rfl, r, CD, dx, _, _, rfl, h1, T.cl, T.nP, rd_p _ _ _ _, _, rfl, p, L, B, _, ms, es, pr, .inl ⟨t, rfl, fun ok => ?_, bad⟩⟩
      have good := good ok
      refine ⟨_, rfl, r, CD, dx, _, _, rfl, h1, T.cl, T.nD, rd_d _ _ _ _, .inl ⟨rfl, _, SqL.of h2⟩, _, rfl, _, rfl, r, CD, dx, _, _, rfl, h1, T.cl, T.nS, rd_s _ _ _ _, st, dxs, _, rfl, hs, sf_no _ _ _ (by decide +kernel), ?_⟩
      refine ⟨_, rfl, r, dx, _, rfl, h1, rd_no _ _ _ _ (by decide +kernel), r, B, pl0, done, undone, ms, es, rfl, pre, fun v H1 s1 hv => ⟨_, rfl, ?_⟩⟩
      refine beh_ans (E := E0) R.ne (s1 _ _ h2) (s1 _ _ h4) (R.sw.same (wo_mono s1)) G lim hv sum fun v' I1 na nb b1 st1 sv => ?_
      refine ⟨by show 2 ≤ sizeLine; decide, fun a H2 s2 n2 e2 => ?_⟩
      -- the objects, step by step
      obtain ⟨J1, hJ1⟩ : ∃ J1, J1 = bk I1 dn un xs ys := ⟨_, rfl⟩
      rw [← hJ1] at s2 n2
      have j_dn : J1 dn = some (.lst xs) := by rw [hJ1]; exact bk_a R.ne
      have j_un : J1 un = some (.lst ys) := by rw [hJ1]; exact bk_b
      have far : ∀ {b : Addr} {o : HO}, H1 b = some o → b ≠ dn → b ≠ un → b ≠ g → J1 b = some o := fun {b o} e n1 n3 n4 => by
        rw [hJ1, bk_ne n1 n3]
        exact b1 b o (by rw [wo_ne n1 n3]; exact e) n4
      obtain ⟨_, kv1, _, _, gT, _⟩ := id st1.ob
      have g0 := s1 _ _ hg
      have kd1 : KpD CR H1 J1 := fun b o e k => by
        refine far e (fun z => ?_) (fun z => ?_) (fun z => ?_)
        · rw [z, s1 _ _ h2] at e
          rcases k with ⟨_, k⟩ | ⟨_, k⟩ | ⟨_, _, k⟩ <;> rw [k] at e <;> cases e
        · rw [z, s1 _ _ h4] at e
          rcases k with ⟨_, k⟩ | ⟨_, k⟩ | ⟨_, _, k⟩ <;> rw [k] at e <;> cases e
        · rw [z, g0] at e
          rcases k with ⟨_, k⟩ | ⟨_, k⟩ | ⟨_, _, k⟩ <;> rw [k] at e <;> cases e
      have r_dn : r ≠ dn := fun z => by rw [z, h2] at h1; cases h1
      have r_un : r ≠ un := fun z => by rw [z, h4] at h1; cases h1
      have r_g : r ≠ g := fun z => by rw [z, hg] at h1; cases h1
      have j_r : J1 r = some (.ins CD dx (rdF p st dn un)) := far (s1 _ _ h1) r_dn r_un r_g
      have a_dn : a ≠ dn := fun z => by rw [z, j_dn] at n2; cases n2
      refine ⟨dn, xs, _, rfl, rfl, s2 _ _ j_dn, by have := Paired.length h3; show xs.length < sizeLine; rw [this]; exact small1000 (Nat.le_of_lt few), ?_⟩
      obtain ⟨H3, hH3⟩ : ∃ H3, H3 = upd H2 dn (.lst (xs ++ [.ref a])) := ⟨_, rfl⟩
      rw [← hH3]
      have kd3 : KpD CR H2 H3 := by rw [hH3]; exact KpD.lst (s2 _ _ j_dn)
      have e3_dn : H3 dn = some (.lst (xs ++ [.ref a])) := by rw [hH3]; exact upd_same
      have e3_r : H3 r = some (.ins CD dx (rdF p st dn un)) := by rw [hH3, upd_ne r_dn]; exact s2 _ _ j_r
      refine ⟨Nat.zero_le _, fun un' H4 s4 n4 e4 => ⟨_, rfl, r, CD, dx, _, rfl, s4 _ _ e3_r, T.cl, T.nU, by show 4 < 1000; decide, ?_⟩⟩
      rw [put_undone]
      obtain ⟨H5, hH5⟩ : ∃ H5, H5 = upd H4 r (.ins CD dx (rdF p st dn un')) := ⟨_, rfl⟩
      rw [← hH5]
      have u_dn : dn ≠ un' := fun z => by rw [← z, e3_dn] at n4; cases n4
      have u_r : un' ≠ r := fun z => by rw [z, e3_r] at n4; cases n4
      have kd5 : KpD CR H4 H5 := fun b o e k => by
        rw [hH5, upd_ne (fun z => ?_)]
        · exact e
        · rw [z, s4 _ _ e3_r] at e
          rcases k with ⟨_, k⟩ | ⟨_, k⟩ | ⟨_, _, k⟩ <;> rw [k] at e <;> cases e
          exact T.neR rfl
      have kdJ : KpD CR J1 H5 := ((KpD.same s2).trans kd3).trans ((KpD.same s4).trans kd5)
      have kdH : KpD CR H H5 := (KpD.same s1).trans (kd1.trans kdJ)
      have e5_r : H5 r = some (.ins CD dx (rdF p st dn un')) := by rw [hH5]; exact upd_same
      have e5_dn : H5 dn = some (.lst (xs ++ [.ref a])) := by rw [hH5, upd_ne (Ne.symm r_dn)]; exact s4 _ _ e3_dn
      have e5_un : H5 un' = some (.lst []) := by rw [hH5, upd_ne u_r]; exact e4
      have e5_a : H5 a = some (.tup [.str (S t), v']) := kd5 _ _ (s4 _ _ (kd3 _ _ e2 (.inl ⟨_, rfl⟩))) (.inl ⟨_, rfl⟩)
      have sJ : Same I1 J1 := fun b o e => by
        rw [hJ1, bk_ne (ne_of_none e na) (ne_of_none e nb)]
        exact e
      have fresh : H un' = none := by
        have f2 : H2 un' = none := by
          rw [hH3, upd_ne (Ne.symm u_dn)] at n4
          exact n4
        have f1 : J1 un' = none := s2.free f2
        refine s1.free ?_
        cases hq : H1 un' with
        | none => rfl
        | some o =>
          have c1 : un' ≠ un := fun z => by rw [z, j_un] at f1; cases f1
          have c2 : un' ≠ g := fun z => by
            have := sJ _ _ gT
            rw [← z, f1] at this
            cases this
          rw [far hq (Ne.symm u_dn) c1 c2] at f1
          cases f1
      have sw5 : StAt CS C (wo H5 dn un') st p g L B (pl0 :: places) ms es (n + t.length) := by
        have w1 : StAt CS C (wo J1 dn un) st p g L B (pl0 :: places) ms es (n + t.length) := by
          rw [hJ1, wo_bk na nb]
          exact st1
        have w3 : StAt CS C (wo H3 dn un) st p g L B (pl0 :: places) ms es (n + t.length) := by
          rw [hH3, wo_upd_a]
          exact w1.same (wo_mono s2)
        refine w3.keepR T.neS T.neC fun b o e n => ?_
        obtain ⟨c1, c2, e'⟩ := wo_some e
        have c3 : b ≠ un' := ne_of_none e' n4
        have c4 : b ≠ r := fun z => by
          rw [z, e3_r] at e'
          exact n _ _ (Option.some.inj e').symm
        rw [wo_ne c1 c3, hH5, upd_ne c4]
        exact s4 _ _ e'
      have R5 : RdAt CD CS CR C H5 r st dn un' g p L B (pl0 :: places) ms es (done ++ [(t, runM ms B (nowM pl0 B done) t)]) [] (n + t.length) :=
        ⟨⟨dx, _, [], e5_r, e5_dn, paired_snoc (Paired.mono (fun _ _ z => z.keepD kdH) h3) ⟨a, v', rfl, e5_a, (sv.same sJ).keepD kdJ, lt⟩, e5_un, .nil⟩, sw5, u_dn⟩
      have out5 : Out [r, dn, un, g] H H5 := fun b o e n => by
        simp only [List.mem_cons, List.not_mem_nil, or_false, not_or] at n
        obtain ⟨c1, c2, c3, c4⟩ := n
        have q3 : H3 b = some o := by
          rw [hH3, upd_ne c2]
          exact s2 _ _ (far (s1 _ _ e) c2 c3 c4)
        rw [hH5, upd_ne c1]
        exact s4 _ _ q3
      have now5 : nowM pl0 B (done ++ [(t, runM ms B (nowM pl0 B done) t)]) = runM ms B (nowM pl0 B done) t := by
        unfold nowM
        rw [List.getLast?_concat]
      refine ⟨_, rfl, r, dx, _, rfl, e5_r, rd_no _ _ _ _ (by decide +kernel), r, B, pl0, _, [], ms, es, rfl, ⟨st, dn, un', g, p, L, places, _, R5, G⟩, fun H6 s6 => ?_⟩
      rw [now5]
      exact good un' H6 (out5.trans (.same s6)) fresh (R5.same s6)
    · exact ⟨_, rfl, r, CD, dx, _, _, rfl, h1, T.cl, T.nP, rd_p _ _ _ _, _, rfl, p, L, B, _, ms, es, pr, .inr ⟨x, rfl, isx, out⟩⟩
end
end Tb

set_option Elab.async false
set_option linter.all false
set_option maxRecDepth 100000
set_option maxHeartbeats 4000000
/-! Reader.undo, again, __init__ -/
namespace Tb
open PySem PySem.Spec PyProof.Rows L2 TL
structure NdTxt (P : Program) (w : World) (K : PySem.W.Frag) (mg : Str → Option Value) (base : Heap) (ND : Addr) : Prop where
  ox : OexC K ND
  mgC : mg "NoDeed" = some (.ref ND)
  mkr : ∃ fI fd, PySem.W.findIn K (.ref ND) "__init__" = some (some (.ref fI)) ∧ PySem.W.typeIn K (.ref fI) = some (.type "function") ∧ FnOk P w K mg base CX0 1 fI fd ["self"] spNop ∧ Binds K fd ["self"] []
theorem ps_raiseNd {X : Cx} {ND : Addr} {p pos pos2 : Pos} {j : Nat} {W : WX} (hc : X.calm = true) (T : NdTxt X.prog X.w X.K X.mg X.base ND) (hr : Room j X.A) (hj : 2 ≤ j) (tk : Takes X W) (hg : Gl X "NoDeed" := by rfl) :
    PS X (.Raise (some (.Call (.Name "NoDeed" p) [] [] pos)) none pos2) (fun _ σ H => W (.ref ND) none σ H) := by
  obtain ⟨fI, fd, iC, tI, F, b⟩ := T.mkr
  exact ps_raise hc tk (pmk_nop T.ox iC tI F (hr.mono hj) b hg T.mgC)
section
variable {P : Program} {w : World} {K : PySem.W.Frag} {mg : Str → Option Value} {base : Heap} {CD CS CR C ND : Addr}
/-- a deed moved from the end of one list to the end of the other -/
theorem moved_ok {H : Hp} {r st dn un g p : Addr} {L B : List Nat} {places : List (List Nat)} {ms : List Mv} {es : Fil} {done undone : List (List Nat × Mem)} {n : Nat} {dx : Addr} {xs ys : List V} {x : V} {q : List Nat × Mem}
    (h1 : H r = some (.ins CD dx (rdF p st dn un))) (h2 : H dn = some (.lst (xs ++ [x]))) (h3 : Paired (DeedV CR H B) xs done) (hx : DeedV CR H B x q) (h4 : H un = some (.lst ys)) (h5 : Paired (DeedV CR H B) ys undone) (sw : StAt CS C (wo H dn un) st p g L B places ms es n) (ne : dn ≠ un) :
    RdAt CD CS CR C (upd (upd H dn (.lst xs)) un (.lst (ys ++ [x]))) r st dn un g p L B places ms es done (undone ++ [q]) n ∧ Out [r, dn, un, g] H (upd (upd H dn (.lst xs)) un (.lst (ys ++ [x]))) := by
  have k1 : KpD CR H (upd H dn (.lst xs)) := KpD.lst h2
  have e4 : (upd H dn (.lst xs)) un = some (.lst ys) := by rw [upd_ne (Ne.symm ne)]; exact h4
  have kd := k1.trans (KpD.lst (CR := CR) (o := .lst (ys ++ [x])) e4)
  have r_dn : r ≠ dn := fun z => by rw [z, h2] at h1; cases h1
  have r_un : r ≠ un := fun z => by rw [z, h4] at h1; cases h1
  refine ⟨⟨⟨dx, xs, ys ++ [x], by rw [upd_ne r_un, upd_ne r_dn]; exact h1, by rw [upd_ne ne, upd_same], Paired.mono (fun _ _ z => z.keepD kd) h3, upd_same, paired_snoc (Paired.mono (fun _ _ z => z.keepD kd) h5) (hx.keepD kd)⟩, ?_, ne⟩, (Out.upd (by simp)).trans (Out.upd (by simp))⟩
  rw [wo_upd_b, wo_upd_a]
  exact sw
theorem RdAt.flip_ob {H : Hp} {r st dn un g p : Addr} {L B : List Nat} {places : List (List Nat)} {ms : List Mv} {es : Fil} {done undone : List (List Nat × Mem)} {n : Nat} (sw : StAt CS C (wo H dn un) st p g L B places ms es n) : StAt CS C (wo H un dn) st p g L B places ms es n := by
  have e : wo H un dn = wo H dn un := funext fun x => by
    unfold wo
    by_cases h : x = dn ∨ x = un
    · rw [if_pos h, if_pos h.symm]
    · rw [if_neg h, if_neg fun z => h z.symm]
  rw [e]
  exact sw
theorem scRdUndo : FnScope ["self"] ["self"] (defScope sRdUndo) := ⟨rfl, rfl, rfl, by decide +kernel, rfl, by decide +kernel, by decide +kernel⟩
theorem scRdAgain : FnScope ["self"] ["self"] (defScope sRdAgain) := ⟨rfl, rfl, rfl, by decide +kernel, rfl, by decide +kernel, by decide +kernel⟩
def spUndo (CD CS CR C ND : Addr) : Sp := fun vs H Q E => ∃ (r st dn un g p : Addr) (L B pl0 : List Nat) (places : List (List Nat)) (ms : List Mv) (es : Fil) (done undone : List (List Nat × Mem)) (n : Nat), vs = [.ref r] ∧ RdAt CD CS CR C H r st dn un g p L B (pl0 :: places) ms es done undone n ∧ PgOk B ms es ∧ undone.length < 1000 ∧
  ((done = [] ∧ E (.ref ND) none H) ∨ ∃ done' q, done = done' ++ [q] ∧ ∀ H', Out [r, dn, un, g] H H' → RdAt CD CS CR C H' r st dn un g p L B (pl0 :: places) ms es done' (undone ++ [q]) n → Q (optV (tellM es (nowM pl0 B done'))) H')
def spAgain (CD CS CR C ND : Addr) : Sp := fun vs H Q E => ∃ (r st dn un g p : Addr) (L B pl0 : List Nat) (places : List (List Nat)) (ms : List Mv) (es : Fil) (done undone : List (List Nat × Mem)) (n : Nat), vs = [.ref r] ∧ RdAt CD CS CR C H r st dn un g p L B (pl0 :: places) ms es done undone n ∧ PgOk B ms es ∧ done.length < 1000 ∧
  ((undone = [] ∧ E (.ref ND) none H) ∨ ∃ undone' q, undone = undone' ++ [q] ∧ ∀ H', Out [r, dn, un, g] H H' → RdAt CD CS CR C H' r st dn un g p L B (pl0 :: places) ms es (done ++ [q]) undone' n → Q (optV (tellM es q.2)) H')
theorem ok_rdUndo {f : Addr} {fd : FuncData} (F : Fun K "undo" "Reader.undo" sRdUndo f fd) (T : RdTxt K mg CD CS CR C) (N : NdTxt P w K mg base ND) (DT : Mth P w K mg base CD 8 "told" [] (spRdTold CD CS CR C)) : FnOk P w K mg base (L2.CX P w) 9 f fd ["self"] (spUndo CD CS CR C ND) := by
  refine F.okX scRdUndo (fun vs H Q E h => ?_) (fun cdv A outer s0 H vs Q E hr h => ?_)
  · obtain ⟨r, st, dn, un, g, p, L, B, pl0, places, ms, es, done, undone, n, rfl, _⟩ := h
    rfl
  · obtain ⟨r, st, dn, un, g, p, L, B, pl0, places, ms, es, done, undone, n, rfl, R, G, few, h⟩ := h
    obtain ⟨dx, xs, ys, h1, h2, h3, h4, h5⟩ := R.ob
    refine ⟨_, pss_cons (ps_if (pt_not (pt_truth (pe_fld (pv 0) rfl) (fun _ => rfl))) (pss_one (ps_raiseNd rfl N hr (by omega) (takes_of rfl rfl rfl rfl))) pss_nil)
      (pss_cons (ps_expr (pe_bm PySem.F.plainAttrs_list PySem.F.slot_list_append PySem.F.type_list_append mt_append (pe_fld (pv 0) rfl) (pa_cons (pe_bm0 PySem.F.plainAttrs_list PySem.F.slot_list_pop PySem.F.type_list_pop mt_pop (pe_fld (pv 0) rfl)) pa_nil)))
      (pss_one (ps_ret (pe_mthZ DT T.cl hr (pv 0))))), ?_⟩
    rcases h with ⟨e, out⟩ | ⟨done', q, e, good⟩
    · subst e
      cases h3
      exact ⟨_, rfl, r, CD, dx, _, _, rfl, h1, T.cl, T.nD, rd_d _ _ _ _, false, .inl ⟨_, SqL.of h2, rfl⟩, iteT out⟩
    · subst e
      rcases paired_last h3 with ⟨_, e2⟩ | ⟨xs', x, m', y, e1, e2, p', hx⟩
      · exact absurd e2 (by simp)
      · obtain ⟨rfl, e3⟩ := List.append_inj' e2 rfl
        obtain rfl : q = y := (List.cons.inj e3).1
        subst e1
        have ne : (xs' ++ [x]).isEmpty = false := by simp
        have dl : (xs' ++ [x]).dropLast = xs' := List.dropLast_concat
        have e4 : (upd H dn (.lst xs')) un = some (.lst ys) := by rw [upd_ne (Ne.symm R.ne)]; exact h4
        obtain ⟨R', O⟩ := moved_ok (ys := ys) h1 h2 p' hx h4 h5 R.sw R.ne
        have r_dn : r ≠ dn := fun z => by rw [z, h2] at h1; cases h1
        refine ⟨_, rfl, r, CD, dx, _, _, rfl, h1, T.cl, T.nD, rd_d _ _ _ _, true, .inl ⟨_, SqL.of h2, by rw [ne]; rfl⟩, iteF ?_⟩
        refine ⟨_, rfl, r, CD, dx, _, _, rfl, h1, T.cl, T.nU, rd_u _ _ _ _, .inl ⟨rfl, _, SqL.of h4⟩, _, rfl, r, CD, dx, _, _, rfl, h1, T.cl, T.nD, rd_d _ _ _ _, .inl ⟨rfl, _, SqL.of h2⟩, dn, _, x, rfl, rfl, h2, by simp, ?_⟩
        rw [dl]
        refine ⟨un, ys, x, rfl, rfl, e4, by rw [Paired.length h5]; exact small1000 (Nat.le_of_lt few), ?_⟩
        obtain ⟨dx', _, _, h1', _⟩ := id R'.ob
        exact ⟨_, rfl, r, dx', _, rfl, h1', rd_no _ _ _ _ (by decide +kernel), r, B, pl0, _, _, ms, es, rfl, ⟨st, dn, un, g, p, L, places, n, R', G⟩, fun H6 s6 => good H6 (O.trans (.same s6)) (R'.same s6)⟩
theorem ok_rdAgain {f : Addr} {fd : FuncData} (F : Fun K "again" "Reader.again" sRdAgain f fd) (T : RdTxt K mg CD CS CR C) (N : NdTxt P w K mg base ND) (DT : Mth P w K mg base CD 8 "told" [] (spRdTold CD CS CR C)) : FnOk P w K mg base (L2.CX P w) 9 f fd ["self"] (spAgain CD CS CR C ND) := by
  refine F.okX scRdAgain (fun vs H Q E h => ?_) (fun cdv A outer s0 H vs Q E hr h => ?_)
  · obtain ⟨r, st, dn, un, g, p, L, B, pl0, places, ms, es, done, undone, n, rfl, _⟩ := h
    rfl
  · obtain ⟨r, st, dn, un, g, p, L, B, pl0, places, ms, es, done, undone, n, rfl, R, G, few, h⟩ := h
    obtain ⟨dx, xs, ys, h1, h2, h3, h4, h5⟩ := R.ob
    refine ⟨_, pss_cons (ps_if (pt_not (pt_truth (pe_fld (pv 0) rfl) (fun _ => rfl))) (pss_one (ps_raiseNd rfl N hr (by omega) (takes_of rfl rfl rfl rfl))) pss_nil)
      (pss_cons (ps_expr (pe_bm PySem.F.plainAttrs_list PySem.F.slot_list_append PySem.F.type_list_append mt_append (pe_fld (pv 0) rfl) (pa_cons (pe_bm0 PySem.F.plainAttrs_list PySem.F.slot_list_pop PySem.F.type_list_pop mt_pop (pe_fld (pv 0) rfl)) pa_nil)))
      (pss_one (ps_ret (pe_mthZ DT T.cl hr (pv 0))))), ?_⟩
    rcases h with ⟨e, out⟩ | ⟨undone', q, e, good⟩
    · subst e
      cases h5
      exact ⟨_, rfl, r, CD, dx, _, _, rfl, h1, T.cl, T.nU, rd_u _ _ _ _, false, .inl ⟨_, SqL.of h4, rfl⟩, iteT out⟩
    · subst e
      rcases paired_last h5 with ⟨_, e2⟩ | ⟨ys', x, m', y, e1, e2, p', hx⟩
      · exact absurd e2 (by simp)
      · obtain ⟨rfl, e3⟩ := List.append_inj' e2 rfl
        obtain rfl : q = y := (List.cons.inj e3).1
        subst e1
        have ne : (ys' ++ [x]).isEmpty = false := by simp
        have dl : (ys' ++ [x]).dropLast = ys' := List.dropLast_concat
        have e4 : (upd H un (.lst ys')) dn = some (.lst xs) := by rw [upd_ne R.ne]; exact h2
        have kd := (KpD.lst (CR := CR) (o := .lst ys') h4).trans (KpD.lst (CR := CR) (o := .lst (xs ++ [x])) e4)
        have r_dn : r ≠ dn := fun z => by rw [z, h2] at h1; cases h1
        have r_un : r ≠ un := fun z => by rw [z, h4] at h1; cases h1
        have R' : RdAt CD CS CR C (upd (upd H un (.lst ys')) dn (.lst (xs ++ [x]))) r st dn un g p L B (pl0 :: places) ms es (done ++ [q]) undone' n := by
          refine ⟨⟨dx, xs ++ [x], ys', by rw [upd_ne r_dn, upd_ne r_un]; exact h1, upd_same, paired_snoc (Paired.mono (fun _ _ z => z.keepD kd) h3) (hx.keepD kd), by rw [upd_ne (Ne.symm R.ne), upd_same], Paired.mono (fun _ _ z => z.keepD kd) p'⟩, ?_, R.ne⟩
          rw [wo_upd_a, wo_upd_b]
          exact R.sw
        have O : Out [r, dn, un, g] H (upd (upd H un (.lst ys')) dn (.lst (xs ++ [x]))) := (Out.upd (by simp)).trans (Out.upd (by simp))
        refine ⟨_, rfl, r, CD, dx, _, _, rfl, h1, T.cl, T.nU, rd_u _ _ _ _, true, .inl ⟨_, SqL.of h4, by rw [ne]; rfl⟩, iteF ?_⟩
        refine ⟨_, rfl, r, CD, dx, _, _, rfl, h1, T.cl, T.nD, rd_d _ _ _ _, .inl ⟨rfl, _, SqL.of h2⟩, _, rfl, r, CD, dx, _, _, rfl, h1, T.cl, T.nU, rd_u _ _ _ _, .inl ⟨rfl, _, SqL.of h4⟩, un, _, x, rfl, rfl, h4, by simp, ?_⟩
        rw [dl]
        refine ⟨dn, xs, x, rfl, rfl, e4, by rw [Paired.length h3]; exact small1000 (Nat.le_of_lt few), ?_⟩
        obtain ⟨dx', _, _, h1', _⟩ := id R'.ob
        refine ⟨_, rfl, r, dx', _, rfl, h1', rd_no _ _ _ _ (by decide +kernel), r, B, pl0, _, _, ms, es, rfl, ⟨st, dn, un, g, p, L, places, n, R', G⟩, fun H6 s6 => ?_⟩
        have now6 : nowM pl0 B (done ++ [q]) = q.2 := by
          unfold nowM
          rw [List.getLast?_concat]
        rw [now6]
        exact good H6 (O.trans (.same s6)) (R'.same s6)
end
end Tb

set_option Elab.async false
set_option linter.all false
set_option maxRecDepth 100000
set_option maxHeartbeats 4000000
/-! Reader(program) -/
namespace Tb
open PySem PySem.Spec PyProof.Rows L2 TL
abbrev psRd : List Str := ["self", "program"]
theorem scRdInit : FnScope psRd psRd (defScope sRdInit) := ⟨rfl, rfl, rfl, by decide +kernel, rfl, by decide +kernel, by decide +kernel⟩
def spRdInit (CD CS CR C : Addr) : Sp := fun vs H Q _ => ∃ (r dx p : Addr) (L B : List Nat) (places : List (List Nat)) (ms : List Mv) (es : Fil), vs = [.ref r, .ref p] ∧ H r = some (.ins CD dx []) ∧ PrAt C H p L B places ms es ∧
  ∀ st dn un g H', But r H H' → H dn = none → H un = none → H g = none → RdAt CD CS CR C H' r st dn un g p L B places ms es [] [] 0 → Q .non H'
section
variable {P : Program} {w : World} {K : PySem.W.Frag} {mg : Str → Option Value} {base : Heap} {CD CS CR C : Addr}
theorem ok_rdInit {f : Addr} {fd : FuncData} {k : Nat} (F : Fun K "__init__" "Reader.__init__" sRdInit f fd) (T : RdTxt K mg CD CS CR C) (U : StTxt K mg CS) (MS : MkS P w K mg base CS C (k + 3)) : FnOk P w K mg base CX0 (k + 5) f fd psRd (spRdInit CD CS CR C) := by
  refine F.ok scRdInit (fun vs H Q E h => ?_) (fun cdv A outer s0 H vs Q E hr h => ?_)
  · obtain ⟨r, dx, p, L, B, places, ms, es, rfl, _⟩ := h
    rfl
  · obtain ⟨r, dx, p, L, B, places, ms, es, rfl, hr0, hp, q⟩ := h
    refine ⟨_, pss_cons (ps_fld (pv 0) (pv 1) rfl) (pss_cons (ps_fld (pv 0) (pe_steps MS hr U.mgC (pa_cons (pv 1) pa_nil)) rfl) (pss_cons (ps_fld (pv 0) (pe_lstS pa_nil) rfl) (pss_one (ps_fld (pv 0) (pe_lstS pa_nil) rfl)))), ?_⟩
    have keepP : ∀ {H' : Hp}, But r H H' → PrAt C H' p L B places ms es := fun {H'} b => by
      obtain ⟨dx', pl, mv, en, kk, h1, h2, h3, h4, h5⟩ := hp.ob
      have o : ∀ {x : Addr} {u : HO}, H x = some u → (∀ d fs, u ≠ .ins CD d fs) → H' x = some u := fun {x u} e n => b _ _ e fun z => by
        rw [z, hr0] at e
        exact n _ _ (Option.some.inj e).symm
      exact ⟨dx', pl, mv, en, kk, o h1 (by intro d fs z; injection z with e _ _; exact T.neC e.symm), o h2 (by intro _ _ z; cases z), o h3 (by intro _ _ z; cases z), Paired.mono (fun kv m ⟨e, t, d, a, b, c⟩ => ⟨e, t, d, a, o b (by intro _ _ z; cases z), o c (by intro _ _ z; cases z)⟩) h4, o h5 (by intro _ _ z; cases z)⟩
    refine ⟨_, rfl, _, rfl, r, CD, dx, [], rfl, hr0, T.cl, T.nP, by show 0 < 1000; decide, ?_⟩
    obtain ⟨H1, hH1⟩ : ∃ H1, H1 = upd H r (.ins CD dx (putF "_program" (.ref p) [])) := ⟨_, rfl⟩
    have b1 : But r H H1 := by rw [hH1]; exact But.upd r H _
    have e1 : H1 r = some (.ins CD dx [("_program", .ref p)]) := by rw [hH1]; exact upd_same
    rw [← hH1]
    refine ⟨_, rfl, p, L, B, _, ms, es, rfl, keepP b1, fun st g H2 s2 ns ng hst => ?_⟩
    refine ⟨_, rfl, r, CD, dx, _, rfl, s2 _ _ e1, T.cl, T.nS, by show 1 < 1000; decide, ?_⟩
    obtain ⟨H3, hH3⟩ : ∃ H3, H3 = upd H2 r (.ins CD dx (putF "_steps" (.ref st) [("_program", .ref p)])) := ⟨_, rfl⟩
    have b3 : But r H H3 := (b1.trans (Same.but s2 r)).trans (by rw [hH3]; exact But.upd r H2 _)
    have e3 : H3 r = some (.ins CD dx [("_program", .ref p), ("_steps", .ref st)]) := by
      rw [hH3, upd_same, putF_end (show ("_steps" : Str) ∉ (["_program"] : List Str) by decide +kernel)]
      rfl
    rw [← hH3]
    refine ⟨Nat.zero_le _, fun dn H4 s4 n4 e4 => ⟨_, rfl, r, CD, dx, _, rfl, s4 _ _ e3, T.cl, T.nD, by show 2 < 1000; decide, ?_⟩⟩
    obtain ⟨H5, hH5⟩ : ∃ H5, H5 = upd H4 r (.ins CD dx (putF "_done" (.ref dn) [("_program", .ref p), ("_steps", .ref st)])) := ⟨_, rfl⟩
    have b5 : But r H H5 := (b3.trans (Same.but s4 r)).trans (by rw [hH5]; exact But.upd r H4 _)
    have e5 : H5 r = some (.ins CD dx [("_program", .ref p), ("_steps", .ref st), ("_done", .ref dn)]) := by
      rw [hH5, upd_same, putF_end (show ("_done" : Str) ∉ (["_program", "_steps"] : List Str) by decide +kernel)]
      rfl
    rw [← hH5]
    refine ⟨Nat.zero_le _, fun un H6 s6 n6 e6 => ⟨_, rfl, r, CD, dx, _, rfl, s6 _ _ e5, T.cl, T.nU, by show 3 < 1000; decide, ?_⟩⟩
    have dn_r : dn ≠ r := fun z => by rw [z, e3] at n4; cases n4
    have un_r : un ≠ r := fun z => by rw [z, e5] at n6; cases n6
    have e5_dn : H5 dn = some (.lst []) := by rw [hH5, upd_ne dn_r]; exact e4
    have dn_un : dn ≠ un := fun z => by rw [← z, e5_dn] at n6; cases n6
    have g_r : g ≠ r := fun z => by rw [z, e1] at ng; cases ng
    have n3_un : H3 un = none := by
      have : H4 un = none := by
        rw [hH5, upd_ne un_r] at n6
        exact n6
      exact s4.free this
    refine q st dn un g _ ((b5.trans (Same.but s6 r)).trans (But.upd r H6 _)) (b3.free (l := dn) e3 n4) (b3.free (l := un) e3 n3_un) (b1.free (l := g) e1 ng) ⟨⟨dx, [], [], ?_, by rw [upd_ne dn_r]; exact s6 _ _ e5_dn, .nil, by rw [upd_ne un_r]; exact e6, .nil⟩, ?_, dn_un⟩
    · rw [upd_same, putF_end (show ("_undone" : Str) ∉ (["_program", "_steps", "_done"] : List Str) by decide +kernel)]
      rfl
    · have w3 : StAt CS C H3 st p g L B places ms es 0 := hst.keepR T.neS T.neC fun b o e n => by
        rw [hH3, upd_ne fun z => ?_]
        · exact e
        · rw [z, s2 _ _ e1] at e
          exact n _ _ (Option.some.inj e).symm
      refine w3.keepR T.neS T.neC fun b o e n => ?_
      have c1 : b ≠ dn := ne_of_none e n4
      have c2 : b ≠ un := ne_of_none e n3_un
      have c3 : b ≠ r := fun z => by
        rw [z, e3] at e
        exact n _ _ (Option.some.inj e).symm
      rw [wo_ne c1 c2, upd_ne c3]
      refine s6 _ _ ?_
      rw [hH5, upd_ne c3]
      exact s4 _ _ e
structure MkRd (P : Program) (w : World) (K : PySem.W.Frag) (mg : Str → Option Value) (base : Heap) (CD CS CR C : Addr) (k : Nat) : Prop where
  ex : ∃ f fd, Mk K CD f ∧ FnOk P w K mg base CX0 k f fd psRd (spRdInit CD CS CR C) ∧ Binds K fd psRd []
def tReader (CD CS CR C : Addr) (t : TA) : TE := fun σ H Q => t σ H fun vs H1 => ∃ (p : Addr) (L B : List Nat) (places : List (List Nat)) (ms : List Mv) (es : Fil), vs = [.ref p] ∧ PrAt C H1 p L B places ms es ∧
  ∀ r st dn un g H', Same H1 H' → H1 r = none → H1 dn = none → H1 un = none → H1 g = none → RdAt CD CS CR C H' r st dn un g p L B places ms es [] [] 0 → Q (.ref r) H'
theorem pe_reader {X : Cx} {k j : Nat} {e : Expr} {es : List Expr} {t : TA} {p pos : Pos} (D : MkRd X.prog X.w X.K X.mg X.base CD CS CR C k) (hr : Room j X.A) (hm : X.mg "Reader" = some (.ref CD)) (ha : PA X (e :: es) t) (neC : CD ≠ C) (hk : k + 1 ≤ j := by omega) (hg : Gl X "Reader" := by rfl)
    (he : starEach (e :: es) X.env = (false, eval e X.env) :: starEach es X.env := by rfl) (hpl : (backTo pos (starEach es X.env)).any (·.1) = false := by rfl) :
    PE X (.Call (.Name "Reader" p) (e :: es) [] pos) (tReader CD CS CR C t) := by
  obtain ⟨f, fd, M, F, b⟩ := D.ex
  refine PE.weak (pe_make M F (hr.mono hk) hg hm b .nil pass0 (PA.mono ha) (by decide) he hpl) fun σ H Q z => ⟨_, z, fun vs H1 ⟨p, L, B, places, ms, es, ev, hp, q⟩ x dx nx ndx ne => ?_⟩
  subst ev
  have s1 : Same H1 (upd (upd H1 dx (.own x)) x (.ins CD dx [])) := fun b o eb => by
    rw [upd_ne (ne_of_none eb nx), upd_ne (ne_of_none eb ndx)]
    exact eb
  have back : ∀ {c : Addr}, (upd (upd H1 dx (.own x)) x (.ins CD dx [])) c = none → H1 c = none := fun n => s1.free n
  exact ⟨x, dx, p, L, B, places, ms, es, rfl, upd_same, hp.same s1, fun st dn un g H' hb n1 n2 n3 R => ⟨rfl, q x st dn un g H' (fun b o eb => hb b o (s1 b o eb) (ne_of_none eb nx)) nx (back n1) (back n2) (back n3) R⟩⟩
end
end Tb

set_option Elab.async false
set_option linter.all false
set_option maxRecDepth 100000
set_option maxHeartbeats 4000000
/-! repr of a text, None, a bool, an int, a list of texts; the last asks that no repr is under way -/
namespace Tb
open PySem PySem.Spec PyProof.Rows L2 TL
/-- y is what repr gives of x -/
def RepV (H : Hp) (x : V) (y : Str) : Prop := match x with
  | .str z => y = reprText z ∧ (reprText z).length ≤ sizeLine
  | .non => y = "None"
  | .bl b => y = if b then Str.ofString "True" else Str.ofString "False"
  | .int i => y = Str.ofString (toString i) ∧ i.natAbs.log2 < 1920
  | .ref a => ∃ z : Str, H a = some (.lst [.str z]) ∧ y = (PyData.list [.str z]).shown ∧ (PyData.list [.str z]).shown.length ≤ sizeLine
  | _ => False
theorem RepV.same {H H' : Hp} (s : Same H H') {x : V} {y : Str} (h : RepV H x y) : RepV H' x y := by
  cases x with
  | ref a =>
    obtain ⟨z, e, r⟩ := h
    exact ⟨z, s _ _ e, r⟩
  | _ => exact h
section
variable {X : Cx}
theorem call_repr (hG : X.A.guards = some []) (hu : X.A.units + 64 < cLine) : CallR X (.builtin "repr") (fun xs H Q => ∃ x y, xs = [x] ∧ RepV H x y ∧ ∀ H', Same H H' → Q (.str y) H') := by
  intro pins s σ H xs us Q I r h
  obtain ⟨x, y, rfl, rep, q⟩ := h
  have q0 := q H fun _ _ e => e
  cases x with
  | str z =>
    obtain ⟨rfl, hz⟩ := rep
    obtain ⟨u, rfl, t, rfl⟩ := vals1 r
    exact PySem.P.repr_of_str ⟨.str _, H, I.tok _, ⟨_, rfl⟩, q0⟩ hz
  | non =>
    obtain rfl := rep
    obtain ⟨u, rfl, r1⟩ := vals1 r
    obtain rfl : u = .none := r1
    exact PySem.P.repr_of_none ⟨.str _, H, I.tok _, ⟨_, rfl⟩, q0⟩
  | bl b =>
    obtain rfl := rep
    obtain ⟨u, rfl, r1⟩ := vals1 r
    obtain rfl : u = .bool b := r1
    exact PySem.P.repr_of_bool ⟨.str _, H, I.tok _, ⟨_, rfl⟩, q0⟩
  | int i =>
    obtain ⟨rfl, hz⟩ := rep
    obtain ⟨u, rfl, t, rfl⟩ := vals1 r
    exact PySem.P.repr_of_int hz ⟨.str _, H, I.tok _, ⟨_, rfl⟩, q0⟩
  | ref a =>
    obtain ⟨z, ha, rfl, hz⟩ := rep
    obtain ⟨u, rfl, r1⟩ := vals1 r
    obtain rfl : u = .ref a := r1
    obtain ⟨_, its, n, rv, ga⟩ := I.hok a _ ha
    obtain ⟨v, rfl, t, rfl⟩ := vals1 rv
    have rd : Reads s.heap (.ref a) (.list [.str z]) [a] := .list ga rfl rfl (.cons (.str z t) .nil)
    exact repr_of_reads' rd rfl (fun e => nomatch e) hG (by show X.A.units + (1 + 1) < cLine; omega) (fun _ _ e => e) (fun h' u tk k => ⟨.str _, H, I.kept (t' := tk) k, ⟨_, rfl⟩, q0⟩) hz
  | byt _ => exact rep.elim
  | flt _ => exact rep.elim
  | ty _ => exact rep.elim
end
end Tb

set_option Elab.async false
set_option linter.all false
set_option maxRecDepth 100000
set_option maxHeartbeats 4000000
/-! _law_tried -/
namespace Tb
open PySem PySem.Spec PyProof.Rows L2 TL LamX
abbrev sTried : Stmt := topS 63
abbrev nTried : List Str := ["_law_job", "_law_found", "e"]
theorem scTried : FnScope nTried ["_law_job"] (defScope sTried) := ⟨rfl, rfl, rfl, by decide +kernel, rfl, by decide +kernel, by decide +kernel⟩
abbrev rRep : List V → Hp → VK → Prop := fun xs H Q => ∃ x y, xs = [x] ∧ RepV H x y ∧ ∀ H', Same H H' → Q (.str y) H'
/-- what _law_tried makes of its job -/
def TTried (NL ND : Addr) : (XK → Hp → VK → Prop) → Hp → VK → Prop := fun tl H Q => ∀ H1, Same H H1 → ∀ (E : XK) (R : VK),
  (∀ d H' x y, H' d = some (.xd [("letter", x)]) → RepV H' x y → (∀ T H'', Same H' H'' → H'' T = some (.tup [.str "sign", .str y]) → Q (.ref T) H'') → E (.ref NL) (some d) H') →
  (∀ H', (∀ T H'', Same H' H'' → H'' T = some (.tup [.str "deed", .non]) → Q (.ref T) H'') → E (.ref ND) none H') →
  (∀ v H', (∀ T H'', Same H' H'' → H'' T = some (.tup [.str "told", v]) → Q (.ref T) H'') → R v H') → tl E H1 R
theorem takes_len {X : Cx} {W : WX} (tk : Takes X W) : Takes X (fun cls d σ H => σ.length = X.N.length → W cls d σ H) := fun u s' x => by
  obtain ⟨a, B, sI, pins, σ, H, cls, d, e, J, nb, up, sky, na, os, ag, w⟩ := x
  exact tk u s' ⟨a, B, sI, pins, σ, H, cls, d, e, J, nb, up, sky, na, os, ag, w J.len⟩
theorem three {σ : L2.St} (h : σ.length = 3) : ∃ a b c, σ = [a, b, c] := match σ, h with
  | [a, b, c], _ => ⟨a, b, c, rfl⟩
section
variable {X : Cx} {NL ND : Addr}
theorem tried_gives {g : Addr} {cdg : Value} {q : Str} (xf : XfC X.K NL) (nf : PySem.W.findIn X.K (.ref NL) "letter" = some none) (m1 : X.mg "NotLetter" = some (.ref NL)) (m2 : X.mg "NoDeed" = some (.ref ND)) (mr : X.mg "repr" = none)
    (x1 : PySem.W.exmOne X.K (.ref NL) (.ref NL) = some true) (x2 : PySem.W.exmOne X.K (.ref ND) (.ref NL) = some false) (x3 : PySem.W.exmOne X.K (.ref ND) (.ref ND) = some true) (hG : X.A.guards = some []) (hr : Room 3 X.A) :
    GivesTo X nTried "_law_tried" (defScope sTried) g cdg (defBody sTried) "_law_job" q (TTried NL ND) := by
  intro f c' s H Q tl act hc h
  refine ⟨_, pss_cons (ps_set (i := 1) scTried.nd rfl (.inl rfl) (pe_tupS (pa_cons pe_str (pa_cons pe_non pa_nil))))
    (pss_cons (ps_two (X := (cxOf C8.CX0 X.prog X.w X.K X.mg X.base nTried "_law_tried" (defScope sTried) g cdg X.A X.stack s H C8.E0).nox) (i := 2) (c1 := .ref NL) (c2 := .ref ND)
      (tb := fun W D σ H => ∃ Ech : XK, (∀ cls d σ' H', Ech cls d H' → σ'.length = 3 → W cls d σ' H') ∧ (tAsg (tTupS (tCons (tC (.str "told")) (tCons (fun σZ HZ Q => σZ[0]? = some (some (.ref f)) ∧ HZ c' = some (CodeO c' q) ∧ tl Ech HZ Q) tNil))) (gName 1)) D σ H)
      (t1 := fun a cls d => tAsg (tTupS (tCons (tC (.str "sign")) (tCons (tCB rRep (tCons (tXf a cls d NL "letter" (tVar 2)) tNil)) tNil))) (gName 1))
      (t2 := fun _ _ _ => tAsg (tTupS (tCons (tC (.str "deed")) (tCons (tC .non) tNil))) (gName 1))
      rfl rfl scTried.nd rfl rfl ⟨rfl, by decide, .inl m1⟩ ⟨rfl, by decide, .inl m2⟩ (fun W pn xe tk _ => ?_) (fun a oe cls d pn hz hf => ?_) (fun a oe cls d pn hz hf => ?_))
    (pss_one (ps_ret (pv 1)))), ?_⟩
  · refine ⟨fun pins s' σ H' D I h' => ?_⟩
    obtain ⟨Ech, hW, h2⟩ := h'
    have hp := act (fun cls d σ H => σ.length = 3 → W cls d σ H) pn xe Ech
    exact (pss_one (ps_set (i := 1) scTried.nd rfl (.inl rfl) (pe_tupS (pa_cons pe_str (pa_cons (hp _ _ (takes_len tk) hW) pa_nil))))).run pins s' σ H' D I h2
  · exact pss_one (ps_set (i := 1) scTried.nd rfl (.inl rfl) (pe_tupS (pa_cons pe_str (pa_cons (pe_callB (call_repr hG (by have := hr.un; show X.A.units + 3 + 64 < cLine; omega)) (by rfl) mr PyProof.Rows.boot_repr (pa_cons (pe_xf xf nf hz hf (pv 2)) pa_nil)) pa_nil))))
  · exact pss_one (ps_set (i := 1) scTried.nd rfl (.inl rfl) (pe_tupS (pa_cons pe_str (pa_cons pe_non pa_nil))))
  · refine ⟨by show 2 ≤ sizeLine; decide, fun T0 H1 s1 n1 e1 => ?_⟩
    refine ⟨fun cls d H' => ∀ σ' : L2.St, σ'.length = 3 → wTwo X.K (.ref NL) (.ref ND) 2 _ _ _ cls d σ' H', fun cls d σ' H' hE l => hE σ' l, ⟨rfl, s1 _ _ hc, h H1 s1 _ _ (fun d H' x y e2 rp q => ?_) (fun H' q => ?_) (fun v H' q => ?_)⟩⟩
    · intro σ' l
      obtain ⟨a0, a1, a2, rfl⟩ := three l
      refine .inl ⟨x1, fun a na => ⟨_, rfl, rfl, rfl, d, _, x, rfl, e2, rfl, x, y, rfl, rp, fun H2 s2 => ⟨by show 2 ≤ sizeLine; decide, fun T H3 s3 n3 e3 => ?_⟩⟩⟩
      exact ⟨_, rfl, q T H3 (s2.trans s3) e3⟩
    · intro σ' l
      obtain ⟨a0, a1, a2, rfl⟩ := three l
      refine .inr ⟨x2, x3, fun a na => ⟨by show 2 ≤ sizeLine; decide, fun T H3 s3 n3 e3 => ⟨_, rfl, q T H3 s3 e3⟩⟩⟩
    · exact ⟨by show 2 ≤ sizeLine; decide, fun T H3 s3 n3 e3 => ⟨_, rfl, q T H3 s3 e3⟩⟩
end
end Tb

set_option Elab.async false
set_option linter.all false
set_option maxRecDepth 100000
set_option maxHeartbeats 4000000
namespace Tb
open PySem PySem.Spec PyProof.Rows L2 TL
section
variable {P : Program} {w : World} {K : PySem.W.Frag} {mg : Str → Option Value} {base : Heap}
abbrev nLState : List Str := ["_law_parts", "_law_text_here", "_law_place", "_law_texts", "_law_letter", "_law_fillings", "_law_box"]
theorem scLState : FnScope nLState ["_law_parts", "_law_text_here"] (defScope sLState) := ⟨rfl, rfl, rfl, by decide +kernel, rfl, by decide +kernel, by decide +kernel⟩
/-- the state by the law's own reading: of any parts whose boxes are B in order -/
def spLState : Sp := fun vs H Q _ => ∃ (a : Addr) (t : List Nat) (pt : Pt) (pl0 : List Nat) (pls : List (List Nat)), vs = [.ref a, .str (S t)] ∧ PtAt H a pt ∧ pt.places = pl0 :: pls ∧ (sortN pt.boxes).Nodup ∧ (∀ x ∈ sortN pt.boxes, isCap x = true) ∧ pt.boxes.length ≤ 6 ∧ (∀ m ∈ pt.moves, MvGood (sortN pt.boxes) m) ∧ t.length ≤ 300 ∧
  match runE pt.moves (sortN pt.boxes) (pl0, (sortN pt.boxes).map fun b => (b, [])) t with
  | none => ∀ H', Same H H' → Q .non H'
  | some s => ∀ T d H', Same H H' → H' T = some (.tup [.str (S s.1), .ref d]) → H' d = some (.dK (envK s.2)) → s.2.map (·.1) = sortN pt.boxes → (s.2.map (·.2.length)).sum ≤ 1000 * t.length → Q (.ref T) H'
theorem ok_lstate {f : Addr} {fd : FuncData} {k : Nat} (F : Fun K "_law_state" "_law_state" sLState f fd) (DF : Df P w K mg base (k + 1) "_law_filled" ["_law_filling", "_law_texts"] spLFilled) (md : mg "dict" = none) (ms' : mg "sorted" = none) : FnOk P w K mg base CX0 (k + 2) f fd ["_law_parts", "_law_text_here"] spLState := by
  refine F.ok scLState (fun vs H Q E h => ?_) (fun cdv A outer s H vs Q E hr h => ?_)
  · obtain ⟨a, t, pt, pl0, pls, rfl, _⟩ := h
    rfl
  · obtain ⟨a, t, pt, pl0, pls, rfl, hp, hpl, nB, cB, lB, hgood, ht, q⟩ := h
    have hu := hu_of hr
    refine ⟨_, (pss_cons (ps_asg (pe_tupS (pa_cons (pe_ix ix_list (pe_ix ix_list (pv 0) pe_int (fun _ _ => rfl)) pe_int (fun _ _ => rfl)) (pa_cons (pe_callTy (call_dictS rfl) (by rfl) md (by decide +kernel) (pa_cons (pe_lc (own := [("_law_box", 6)]) (g := gName 6) (tt := tYes) (te := tTupS (tCons (tVar 6) (tCons (tC (.str "")) tNil))) rfl scLState.nd (pi_list (pe_callB (call_sortStr rfl) (by rfl) ms' (by decide +kernel) (pa_cons (pe_ix ix_list (pv 0) pe_int (fun _ _ => rfl)) pa_nil))) (blkOk_by (own := [("_law_box", 6)]) (N := nLState) (sc := defScope sLState) (by decide +kernel)) (fun _ _ _ _ _ => pg_name (i := 6) scLState.nd rfl (.inl rfl)) (fun _ _ _ _ _ => pts_nil) (fun _ _ _ _ _ => pe_tupS (pa_cons (pv 6) (pa_cons pe_str pa_nil)))) pa_nil)) pa_nil))) (pg_tup rfl (pgs_cons (pg_name (i := 2) scLState.nd rfl (.inl rfl)) (pgs_cons (pg_name (i := 3) scLState.nd rfl (.inr rfl)) pgs_nil)))) (pss_cons (ps_for PassesOwn.never rfl (pi_str (pv 1)) (pg_name (i := 4) scLState.nd rfl (.inl rfl)) (pss_cons (ps_if (pt_cmp (pc_dnotin hu (pe_tupS (pa_cons (pv 2) (pa_cons (pv 4) pa_nil))) (pe_ix ix_list (pv 0) pe_int (fun _ _ => rfl)))) (pss_one (ps_ret pe_non)) pss_nil) (pss_cons (ps_asg (pe_dget hu (pe_ix ix_list (pv 0) pe_int (fun _ _ => rfl)) (pe_tupS (pa_cons (pv 2) (pa_cons (pv 4) pa_nil))) (fun _ _ => rfl)) (pg_tup rfl (pgs_cons (pg_name (i := 2) scLState.nd rfl (.inl rfl)) (pgs_cons (pg_name (i := 5) scLState.nd rfl (.inr rfl)) pgs_nil)))) (pss_one (ps_set (i := 3) scLState.nd rfl (.inr rfl) (pe_callTy (call_dictS rfl) (by rfl) md (by decide +kernel) (pa_cons (pe_lock (pe_lc (own := [("_law_box", 6)]) (g := gName 6) (tt := tYes) (te := tTupS (tCons (tVar 6) (tCons (tCall spLFilled [] E0 (tCons (tDGet2 (tVar 5) (tVar 6) (tC (.str ""))) (tCons (tVar 3) tNil))) tNil))) rfl scLState.nd (pi_keys (pv 3)) (blkOk_by (own := [("_law_box", 6)]) (N := nLState) (sc := defScope sLState) (by decide +kernel)) (fun _ _ _ _ _ => pg_name (i := 6) scLState.nd rfl (.inl rfl)) (fun _ _ _ _ _ => pts_nil) (fun _ _ _ _ _ => pe_tupS (pa_cons (pv 6) (pa_cons (pe_df DF hr (pa_cons (pe_dget2 hu (pv 5) (pv 6) pe_str ⟨rfl, rfl, rfl, rfl⟩) (pa_cons (pv 3) pa_nil))) pa_nil))))) pa_nil))))))) (pss_one (ps_ret (pe_tupS (pa_cons (pv 2) (pa_cons (pv 3) pa_nil))))))), ?_⟩
    obtain ⟨tp, tm, te, kvs, hL, hplc, hm, hmv, hte⟩ := hp.ex
    have l64 : pt.boxes.length < 64 := by omega
    have lBs : (sortN pt.boxes).length ≤ 6 := by rw [(sortN_perm _).length_eq]; exact lB
    generalize hB : sortN pt.boxes = B at nB cB hgood q lBs
    have hp0 : (txs pt.places)[0]? = some (.str (S pl0)) := by rw [hpl]; rfl
    refine ⟨_, rfl, a, _, 2, _, rfl, rfl, SqL.of hL, atI_nat (j := 2) rfl, tp, _, 0, _, rfl, rfl, SqL.of hplc, atI_nat (j := 0) hp0, ?_⟩
    refine ⟨_, rfl, a, _, 1, _, rfl, rfl, SqL.of hL, atI_nat (j := 1) rfl, pt.boxes, rfl, l64, fun ys hpm hss Lx H1 s1 n1 e1 => ?_⟩
    have ey := sorted_signs hpm hss
    subst ey
    have e1' : H1 Lx = some (.lst (sgs B)) := by
      rw [e1, hB]
      unfold sgs
      rw [List.map_map]
      rfl
    have lsg : (sgs B).length < sizeLine := by
      unfold sgs
      rw [List.length_map]
      exact small1000 (by omega)
    refine ⟨Lx, rfl, ⟨_, SqL.of e1'⟩, fun D nD => lc_pairsW (xs := sgs B) id (fun _ => .str (S [])) walk_list rfl (fun i H x H' y => ⟨y.1, y.2⟩) (fun H' s' => SqL.of (s' _ _ e1')) nD lsg (fun x hx H' R s' hN => ?_) (fun H2 ts s2 e2 hpair => ?_)⟩
    · refine ⟨_, rfl, by show 2 ≤ sizeLine; decide, ?_⟩
      rw [str_empty]
      exact hN
    have env0k : (B.map fun b => (b, ([] : List Nat))).map (·.1) = B := by
      rw [List.map_map]
      exact List.map_id _
    have hpair0 : Paired (fun p (kv : Key × V) => SqT K H2 p [kV kv.1, kv.2]) ts (envK (B.map fun b => (b, []))) := pairs_env (by rw [env0k]; exact hpair) fun q hq => by
      obtain ⟨b, _, rfl⟩ := List.mem_map.mp hq
      rfl
    refine ⟨D, ts, envK (B.map fun b => (b, [])), rfl, SqL.of e2, hpair0, fun d0 H3 s3 n3 e3 => ⟨by show 2 ≤ sizeLine; decide, fun T0 H4 s4 n4 e4 => ?_⟩⟩
    rw [merge_new _ [] (by rw [List.nil_append]; exact envK_nd env0k nB), List.nil_append] at e3
    have s14 := (s1.trans (s2.trans s3)).trans s4
    have nd0 : H d0 = none := s1.free (s2.free n3)
    refine ⟨T0, _, rfl, SqT.of e4, rfl, _, _, rfl, _, _, rfl, rfl, ?_⟩
    refine ⟨_, rfl, S t, rfl, for_it (walk_str (z := S t)) (fun j σ H' => ∃ (c : List Nat) (d : Addr) (env : Env) (v4 v5 : Option V), σ = [some (.ref a), some (.str (S t)), some (.str (S c)), some (.ref d), v4, v5, none] ∧ Same H H' ∧ H d = none ∧ H' d = some (.dK (envK env)) ∧
        runE pt.moves B (pl0, B.map fun b => (b, [])) (t.take j) = some (c, env) ∧ env.map (·.1) = B ∧ (env.map (·.2.length)).sum ≤ 1000 * j)
      ⟨pl0, d0, B.map fun b => (b, []), none, none, rfl, s14, nd0, s4 _ _ e3, rfl, env0k, ?_⟩ (fun _ _ _ _ _ => trivial) ?_ ?_⟩
    · have : ∀ l : List Nat, ((l.map fun b => (b, ([] : List Nat))).map (·.2.length)).sum = 0 := by
        intro l
        induction l with
        | nil => rfl
        | cons x l ih =>
          rw [List.map_cons, List.map_cons, List.sum_cons, ih]
          rfl
      rw [this]
      exact Nat.zero_le _
    · rintro j x σ H5 H5' hj ⟨c, d, env, v4, v5, rfl, s5, nd5, hd, hrun, hk, hW⟩ ⟨rfl, a', ha, rfl⟩
      have ha' : t[j]? = some a' := by
        rw [show (S t).cps = t.toArray from rfl, List.getElem?_toArray] at ha
        exact ha
      have hjt : j < t.length := (List.getElem?_eq_some_iff.mp ha').1
      have etake : t.take (j + 1) = t.take j ++ [a'] := by
        rw [List.take_add_one, ha']
        rfl
      have erun : runE pt.moves B (pl0, B.map fun b => (b, [])) (t.take (j + 1)) = stepE pt.moves B (c, env) a' := by
        rw [etake, runE_app, hrun]
        show (stepE pt.moves B (c, env) a').bind (fun s' => some s') = _
        cases stepE pt.moves B (c, env) a' <;> rfl
      refine ⟨_, rfl, _, rfl, by show 2 ≤ sizeLine; decide, fun kT H6 s6 n6 e6 => ?_⟩
      have s56 := s5.trans s6
      refine ⟨_, rfl, a, _, 3, _, rfl, rfl, SqL.of (s56 _ _ hL), atI_nat (j := 3) rfl, tm, _, rfl, DGet.t (k := mkey c a') (s56 _ _ hm) e6, _, rfl, ?_⟩
      have hv := val_moves (pl := c) (c := a') hmv
      cases hf : findM pt.moves c a' with
      | none =>
        rw [hf] at hv
        have hv' : valV kvs (mkey c a') = none := hv
        rw [hv']
        refine iteT ?_
        have hnone : runE pt.moves B (pl0, B.map fun b => (b, [])) t = none := by
          have e1 : t = t.take (j + 1) ++ t.drop (j + 1) := (List.take_append_drop _ _).symm
          rw [e1, runE_app, erun]
          unfold stepE
          rw [hf]
          rfl
        rw [hnone] at q
        exact q H6 s56
      | some m =>
        rw [hf] at hv
        obtain ⟨tt, fd', hv', htt, hfd⟩ := hv
        rw [hv']
        have hmm : m ∈ pt.moves := by
          unfold findM at hf
          exact List.mem_of_find?_eq_some hf
        have hMg := hgood m hmm
        refine iteF ⟨_, rfl, a, _, 3, _, rfl, rfl, SqL.of (s56 _ _ hL), atI_nat (j := 3) rfl, _, rfl, _, rfl, by show 2 ≤ sizeLine; decide, fun kT2 H7 s7 n7 e7 => ?_⟩
        have s57 := s56.trans s7
        refine ⟨tm, .ref tt, rfl, hv' ▸ DGet.t (k := mkey c a') (s57 _ _ hm) e7, tt, _, rfl, SqT.of (s57 _ _ htt), rfl, _, _, rfl, _, _, rfl, rfl, ?_⟩
        have hd7 := s7 _ _ (s6 _ _ hd)
        have nfd : fd' ≠ d := fun z => by rw [← z, hfd] at nd5; cases nd5
        have capE : ∀ q ∈ env, isCap q.1 = true := fun q hq => cB _ (by rw [← hk]; exact List.mem_map.mpr ⟨q, hq, rfl⟩)
        have inB : ∀ q ∈ env, q.1 ∈ B := fun q hq => by rw [← hk]; exact List.mem_map.mpr ⟨q, hq, rfl⟩
        refine ⟨d, _, hd7, trivial, fun od => ⟨_, rfl, d, od, rfl, .inl ⟨envK env, upd_same, fun D2 nD2 => ?_⟩⟩⟩
        have hfdl : (upd H7 d (.frz od (.dK (envK env)))) fd' = some (.dK (fkv m.fl)) := by rw [upd_ne nfd]; exact s57 _ _ hfd
        have hdl : (upd H7 d (.frz od (.dK (envK env)))) d = some (.frz od (.dK (envK env))) := upd_same
        have nD2d : D2 ≠ d := fun z => by rw [z, upd_same] at nD2; cases nD2
        generalize hHl : upd H7 d (.frz od (.dK (envK env))) = Hl at nD2 hfdl hdl
        have lenE : (envK env).length = (sgs B).length := by
          unfold envK sgs
          rw [List.length_map, List.length_map, ← hk, List.length_map]
        refine lc_pairsW (xs := sgs B) id (lawV env m.fl) walk_keys lenE (fun i H x H' y => ?_) (fun H' s' => s' _ _ hdl) nD2 lsg (fun x hx H' R s' hN => ?_) (fun H8 ts2 s8 e8 hpair8 => ?_)
        · obtain ⟨e, k', v', hk', ex⟩ := y
          refine ⟨e, ?_⟩
          rw [← hk, ← envK_keys, List.getElem?_map, hk', ex]
          rfl
        · obtain ⟨b, hb, rfl⟩ := List.mem_map.mp hx
          refine ⟨_, rfl, _, rfl, fd', rfl, .inl ⟨_, .inl (s' _ _ hfdl)⟩, _, rfl, _, DGet.k (k := Sum.inr (S [b])) (s' _ _ hfdl), ?_⟩
          rw [val_fkv]
          have ev : ((getF m.fl [b]).map fun f => V.str (S f)).getD (.str (Str.ofString "")) = .str (S (fil m.fl b)) := by
            unfold fil
            rw [str_empty]
            cases getF m.fl [b] <;> rfl
          rw [ev]
          have h1 := fil_len (fl := m.fl) hb
          have h2 := hMg.len
          have h3 := fillE_len (env := env) (L := partsOf (fil m.fl b)) (fun q hq => by
            rw [parts_count (capE q hq)]
            exact Nat.le_trans (fil_count hb) (hMg.one _ (inB q hq)))
          rw [parts_flat, fill_same capE] at h3
          refine ⟨_, rfl, fil m.fl b, d, env, rfl, .inr ⟨od, s' _ _ hdl⟩, by omega, by omega, fun H'' s'' => ⟨by show 2 ≤ sizeLine; decide, fun p3 H3' s3' n3' e3' => hN p3 H3' (s''.trans s3') (s''.free n3') e3'⟩⟩
        · have hd8 := s8 _ _ hdl
          have sH : Same H7 (upd H8 d (.dK (envK env))) := same_unlock hd7 (by rw [hHl]; exact s8)
          refine ⟨hd8, D2, ts2, envK (B.map fun b => (b, fillC env (fil m.fl b))), rfl, SqL.of (by rw [upd_ne nD2d]; exact e8), ?_, fun dn H9 s9 n9 e9 => ?_⟩
          · have hk2 : (B.map fun b => (b, fillC env (fil m.fl b))).map (·.1) = B := by
              rw [List.map_map]
              exact List.map_id _
            refine pairs_env (vf := lawV env m.fl) (by
              rw [hk2]
              refine Paired.mono (fun t x h => ?_) hpair8
              rw [upd_ne (ne_of h hd8 (by intro z; cases z))]
              exact h) fun q hq => by
                obtain ⟨b, _, rfl⟩ := List.mem_map.mp hq
                rfl
          · have hk2 : (B.map fun b => (b, fillC env (fil m.fl b))).map (·.1) = B := by
              rw [List.map_map]
              exact List.map_id _
            rw [merge_new _ [] (by rw [List.nil_append]; exact envK_nd hk2 nB), List.nil_append] at e9
            have s79 := sH.trans s9
            refine ⟨m.to, dn, B.map fun b => (b, fillC env (fil m.fl b)), _, _, rfl, s57.trans s79, s57.free (sH.free n9), e9, ?_, hk2, ?_⟩
            · rw [erun]
              unfold stepE
              rw [hf]
              show some (m.to, B.map fun b => (b, fillE env (partsOf (fil m.fl b)))) = _
              rw [List.map_congr_left fun b _ => by rw [fill_same capE]]
            · have hcnt : ∀ q ∈ env, (allP B m.fl).count [q.1] ≤ 1 := fun q hq => by
                rw [allP_count (capE q hq)]
                exact hMg.one _ (inB q hq)
              have h6 := fillE_len (env := env) hcnt
              have h8 := hMg.len
              rw [← sumE, allP_flat] at h6
              rw [List.map_congr_left (g := fun b => (b, fillE env (partsOf (fil m.fl b)))) fun b _ => by rw [fill_same capE]]
              omega
    · rintro σ H5 ⟨c, d, env, v4, v5, rfl, s5, nd5, hd, hrun, hk, hW⟩
      have lsz : (S t).cps.size = t.length := rfl
      rw [lsz] at hrun hW
      rw [List.take_length] at hrun
      rw [hrun] at q
      exact ⟨_, rfl, _, rfl, by show 2 ≤ sizeLine; decide, fun T' H6 s6 n6 e6 => q T' d H6 (s5.trans s6) e6 (s6 _ _ hd) hk hW⟩
end
end Tb

set_option Elab.async false
set_option linter.all false
set_option maxRecDepth 100000
set_option maxHeartbeats 4000000
namespace Tb
open PySem PySem.Spec PyProof.Rows L2 TL
section
variable {P : Program} {w : World} {K : PySem.W.Frag} {mg : Str → Option Value} {base : Heap}
abbrev nLTold : List Str := ["_law_parts", "_law_text_here", "_law_state_here"]
theorem scLTold : FnScope nLTold ["_law_parts", "_law_text_here"] (defScope sLTold) := ⟨rfl, rfl, rfl, by decide +kernel, rfl, by decide +kernel, by decide +kernel⟩
def spLTold : Sp := fun vs H Q _ => ∃ (a : Addr) (t : List Nat) (pt : Pt) (pl0 : List Nat) (pls : List (List Nat)), vs = [.ref a, .str (S t)] ∧ PtAt H a pt ∧ pt.places = pl0 :: pls ∧ (sortN pt.boxes).Nodup ∧ (∀ x ∈ sortN pt.boxes, isCap x = true) ∧ pt.boxes.length ≤ 6 ∧ (∀ m ∈ pt.moves, MvGood (sortN pt.boxes) m) ∧ t.length ≤ 300 ∧
  (∀ c f, getF pt.ends c = some f → f.length ≤ 1000 ∧ ∀ x ∈ sortN pt.boxes, f.count x ≤ 1) ∧ ∀ H', Same H H' → Q (optV (toldE pt.moves (sortN pt.boxes) pt.ends pl0 t)) H'
theorem ok_ltold {f : Addr} {fd : FuncData} {k : Nat} (F : Fun K "_law_told" "_law_told" sLTold f fd) (DS : Df P w K mg base (k + 2) "_law_state" ["_law_parts", "_law_text_here"] spLState) (DF : Df P w K mg base (k + 1) "_law_filled" ["_law_filling", "_law_texts"] spLFilled) : FnOk P w K mg base CX0 (k + 3) f fd ["_law_parts", "_law_text_here"] spLTold := by
  refine F.ok scLTold (fun vs H Q E h => ?_) (fun cdv A outer s H vs Q E hr h => ?_)
  · obtain ⟨a, t, pt, pl0, pls, rfl, _⟩ := h
    rfl
  · obtain ⟨a, t, pt, pl0, pls, rfl, hp, hpl, nB, cB, lB, hgood, ht, hen, q⟩ := h
    have hu := hu_of hr
    refine ⟨_, pss_cons (ps_set (i := 2) scLTold.nd rfl (.inl rfl) (pe_df DS hr (pa_cons (pv 0) (pa_cons (pv 1) pa_nil))))
      (pss_cons (ps_if (PW.pt (pw_or (pt_cmpR op_isN (pv 2) pe_non (nomark _)) (pw_or1 (pt_cmp (pc_dnotin hu (pe_ix ix_tup (pv 2) pe_int (fun _ _ => rfl)) (pe_ix ix_list (pv 0) pe_int (fun _ _ => rfl))))))) (pss_one (ps_ret pe_non)) pss_nil)
      (pss_one (ps_ret (pe_df DF hr (pa_cons (pe_dget hu (pe_ix ix_list (pv 0) pe_int (fun _ _ => rfl)) (pe_ix ix_tup (pv 2) pe_int (fun _ _ => rfl)) (fun _ _ => rfl)) (pa_cons (pe_ix ix_tup (pv 2) pe_int (fun _ _ => rfl)) pa_nil)))))), ?_⟩
    refine ⟨_, rfl, _, rfl, a, t, pt, pl0, pls, rfl, hp, hpl, nB, cB, lB, hgood, ht, ?_⟩
    unfold toldE at q
    cases hrun : runE pt.moves (sortN pt.boxes) (pl0, (sortN pt.boxes).map fun b => (b, [])) t with
    | none =>
      rw [hrun] at q
      exact fun H' s' => ⟨_, rfl, rfl, _, rfl, iteT (iteT (q H' s'))⟩
    | some st =>
      rw [hrun] at q
      intro T d H1 s1 e1 ed hk hW
      obtain ⟨tp, tm, te, kvs, hL, hplc, hm, hmv, hte⟩ := (hp.same s1).ex
      have ix0 : ([V.str (S st.1), .ref d])[0]? = some (.str (S st.1)) := rfl
      refine ⟨_, rfl, rfl, _, rfl, iteF ⟨_, rfl, T, _, 0, _, rfl, rfl, SqT.of e1, atI_nat (j := 0) rfl, _, rfl, a, _, 4, _, rfl, rfl, SqL.of hL, atI_nat (j := 4) rfl, te, _, rfl, DGet.k (k := Sum.inr (S st.1)) hte, _, rfl, ?_⟩⟩
      have hq := q H1 s1
      rw [show (some st).bind (fun s => (getF pt.ends s.1).map fun f => fillE s.2 (partsOf f)) = (getF pt.ends st.1).map fun f => fillE st.2 (partsOf f) from rfl] at hq q
      rw [val_fkv]
      cases hg : getF pt.ends st.1 with
      | none =>
        rw [hg] at hq
        exact iteT hq
      | some f =>
        obtain ⟨lf, cf⟩ := hen _ _ hg
        have hv : valV (fkv pt.ends) (Sum.inr (S st.1)) = some (.str (S f)) := by rw [val_fkv, hg]; rfl
        have inB : ∀ q ∈ st.2, q.1 ∈ sortN pt.boxes := fun q hq => by rw [← hk]; exact List.mem_map.mpr ⟨q, hq, rfl⟩
        have capE : ∀ q ∈ st.2, isCap q.1 = true := fun q hq => cB _ (inB q hq)
        have h3 := fillE_len (env := st.2) (L := partsOf f) (fun q hq => by
          rw [parts_count (capE q hq)]
          exact cf _ (inB q hq))
        rw [parts_flat, fill_same capE] at h3
        refine iteF ⟨_, rfl, a, _, 4, _, rfl, rfl, SqL.of hL, atI_nat (j := 4) rfl, _, rfl, T, _, 0, _, rfl, rfl, SqT.of e1, atI_nat (j := 0) rfl, te, _, rfl, hv ▸ DGet.k (k := Sum.inr (S st.1)) hte, _, rfl, T, _, 1, _, rfl, rfl, SqT.of e1, atI_nat (j := 1) rfl, ?_⟩
        refine ⟨f, d, st.2, rfl, .inl ed, by omega, by omega, fun H2 s2 => ?_⟩
        have h4 := q H2 (s1.trans s2)
        rw [hg] at h4
        rw [← fill_same capE]
        exact h4
end
end Tb

set_option Elab.async false
set_option linter.all false
set_option maxRecDepth 100000
set_option maxHeartbeats 2000000
/-! tuples that hold dicts: == and != -/
namespace PySem.SeqAt
open AutoSeq1 (wpAny_loadPart')
open MeetsSeq MeetsSeq2 MeetsSeq3 SeqRoads2
section
variable {prog : Program} {w : World}
theorem tuple_neIn (l b : Addr) (items items2 : Array Value) (n n2 : Nat) (dd dd2 : Option Addr) (sl sl2 : Array (Option Value)) (e : Nat → Bool) :
    MeetsIn prog w (Builtin.«tuple.__ne__» ⟨[.ref l, .ref b], []⟩)
      (fun A R s => s.heap.get? l = some { cls := .type "tuple", dict := dd, data := .seq items n, slots := sl } ∧ s.heap.get? b = some { cls := .type "tuple", dict := dd2, data := .seq items2 n2, slots := sl2 } ∧
        (∀ j (h1 : j < items.size) (h2 : j < items2.size), EqIn prog w A.in1 s items[j] items2[j] (e j)) ∧
        R (.ok (.ret (.bool (!((List.range (min items.size items2.size)).all e && items.size == items2.size))))) s) :=
  .of_wp fun A R s h => by
    obtain ⟨hp, g, d, tk, os⟩ := s; obtain ⟨hl, hb, he, h⟩ := h
    have f2 := AutoSeq1.sub_tuple_tuple
    have hZ : (items.toList.zip items2.toList).length = min items.size items2.size := by simp
    wp_walk using wpAny_loadPart' hl, wpAny_loadPart' hb, wpAny_forIn_list _ (fun rest b s' => b.1 = none ∧ s' = ⟨hp, g, d, tk, os⟩ ∧ ∃ i, rest = (items.toList.zip items2.toList).drop i ∧
      R (.ok (.ret (.bool (!(((List.range (min items.size items2.size)).drop i).all e && items.size == items2.size))))) ⟨hp, g, d, tk, os⟩) _
    case turn =>
      rintro ⟨y, x⟩ rest b s' ⟨hb', rfl, i, hz, hR⟩
      have hlt : i < (items.toList.zip items2.toList).length := by
        rcases Nat.lt_or_ge i (items.toList.zip items2.toList).length with h' | h'
        · exact h'
        · rw [List.drop_of_length_le h'] at hz; cases hz
      have hm : i < min items.size items2.size := hZ ▸ hlt
      have h1 : i < items.size := Nat.lt_of_lt_of_le hm (Nat.min_le_left _ _)
      have h2 : i < items2.size := Nat.lt_of_lt_of_le hm (Nat.min_le_right _ _)
      rw [List.drop_eq_getElem_cons hlt] at hz
      injection hz with hyx hrest
      have hy : y = items[i] := by have := congrArg Prod.fst hyx; simpa using this
      have hx : x = items2[i] := by have := congrArg Prod.snd hyx; simpa using this
      subst hy hx
      have hd : (List.range (min items.size items2.size)).drop i = i :: (List.range (min items.size items2.size)).drop (i + 1) := by simp [List.drop_eq_getElem_cons, hm]
      rw [hd, List.all_cons] at hR
      refine wpAny_bind (he i h1 h2 _ _ ?_)
      cases hy : e i with
      | true =>
        rw [hy] at hR
        wp_walk
        exact ⟨rfl, rfl, i + 1, hrest, by simpa using hR⟩
      | false =>
        rw [hy] at hR
        wp_walk
        exact ⟨_, rfl, by simpa using hR⟩
    case fin =>
      rintro ⟨b1, b2⟩ s' ⟨hb', rfl, i, hz, hR⟩
      simp only at hb'
      subst hb'
      have hge : min items.size items2.size ≤ i := by
        rcases Nat.lt_or_ge i (items.toList.zip items2.toList).length with h' | h'
        · rw [List.drop_eq_getElem_cons h'] at hz; cases hz
        · exact hZ ▸ h'
      rw [List.drop_of_length_le (by simpa using hge)] at hR
      wp_walk
      exact ⟨_, rfl, by simpa [Builtin.Tuple.tupleCompareSizes, bne] using hR⟩
    case h =>
      exact ⟨rfl, rfl, 0, rfl, by simpa using h⟩
end
section
variable {prog : Program} {w : World} {A : Around} {s : Shared}
theorem rneIn_tuples {E : Value → Shared → Prop} {l b : Addr} {items items2 : Array Value} {e : Nat → Bool} {Q : Value → Shared → Prop} (hl : s.heap.IsTuple l items) (hb : s.heap.IsTuple b items2) (hu : A.units < cLine)
    (he : ∀ j (h1 : j < items.size) (h2 : j < items2.size), EqIn prog w A.in1 s items[j] items2[j] (e j)) (h : Q (.bool (!((List.range (min items.size items2.size)).all e && items.size == items2.size))) s) :
    wpAny (model prog w) A (richCompare .NotEq (.ref l) (.ref b)) Q E s := by
  obtain ⟨⟨cls, dd, data, sl⟩, ho, hc, n, hd⟩ := id hl
  obtain ⟨⟨cls2, dd2, data2, sl2⟩, ho2, hc2, n2, hd2⟩ := id hb
  simp only at hc hd hc2 hd2
  subst hc hd hc2 hd2
  exact wpAny_richCompare_same_room (T := "tuple") (op := .NotEq) ⟨_, ho, rfl⟩ ⟨_, ho2, rfl⟩ F.slot_tuple_ne (call_meetsIn F.slot_tuple_ne ⟨_, ho, rfl⟩ F.entry_tuple_ne (F.args_tuple_ne_2 _ _) (tuple_neIn l b items items2 n n2 dd dd2 sl sl2 e)
    ⟨ho, ho2, he, show Value.bool (!((List.range (min items.size items2.size)).all e && items.size == items2.size)) ≠ Value.notImplemented ∧ Q (.bool (!((List.range (min items.size items2.size)).all e && items.size == items2.size))) s from ⟨(fun x => nomatch x), h⟩⟩) hu
end
end PySem.SeqAt
namespace PySem.W
open PySem PySem.Calls PyProof.Rows PyProof.V PySem.Spec
section
variable {prog : Program} {w : World} {A : Around} {E : Value → Shared → Prop} {s : Shared}
theorem ne_tuplesT {n : Nat} {l l' : Addr} {vs vs' : Array Value} {e : Nat → Bool} {Q : Value → Shared → Prop} (hl : s.heap.IsTuple l vs) (hl' : s.heap.IsTuple l' vs')
    (t : ∀ j (h1 : j < vs.size) (h2 : j < vs'.size), EqTree prog w s n vs[j] vs'[j] (e j)) (hu : A.units + (n + 1) < cLine) (h : Q (.bool (!((List.range (min vs.size vs'.size)).all e && vs.size == vs'.size))) s) :
    wpAny (model prog w) A (compareOp .NotEq (.ref l) (.ref l')) Q E s :=
  SeqAt.rneIn_tuples hl hl' (by omega) (fun j h1 h2 => (t j h1 h2).at A.in1 (by show A.units + 1 + _ < cLine; omega)) h
end
end PySem.W

set_option Elab.async false
set_option linter.all false
set_option maxRecDepth 100000
set_option maxHeartbeats 2000000
/-! data at any depth, dicts among them, that are equal -/
namespace Tb
open PySem PySem.Spec PyProof.Rows L2
/-- x and y are equal, and this is seen at most n deep -/
inductive DEq (H : Hp) : Nat → V → V → Prop
  | flat {n : Nat} {x : V} : flatB x = true → DEq H n x x
  | tup {n : Nat} {a b : Addr} {xs ys : List V} : Rd H a (.tup xs) → Rd H b (.tup ys) → xs.length = ys.length → (∀ (j : Nat) (x y : V), xs[j]? = some x → ys[j]? = some y → DEq H n x y) → DEq H (n + 1) (.ref a) (.ref b)
  | lst {n : Nat} {a b : Addr} {xs ys : List V} : Rd H a (.lst xs) → Rd H b (.lst ys) → xs.length = ys.length → (∀ (j : Nat) (x y : V), xs[j]? = some x → ys[j]? = some y → DEq H n x y) → DEq H (n + 1) (.ref a) (.ref b)
  | dK {n : Nat} {a b : Addr} {ks ls : List (Key × V)} : Rd H a (.dK ks) → Rd H b (.dK ls) → ks.length = ls.length → (∀ p ∈ ks, (valV ls p.1).isSome = true) → (∀ (p : Key × V) (y : V), p ∈ ks → valV ls p.1 = some y → DEq H n p.2 y) → DEq H (n + 1) (.ref a) (.ref b)
theorem DEq.two {H : Hp} {n : Nat} {a b : Addr} {x1 x2 y1 y2 : V} (ha : Rd H a (.tup [x1, x2])) (hb : Rd H b (.tup [y1, y2])) (h1 : DEq H n x1 y1) (h2 : DEq H n x2 y2) : DEq H (n + 1) (.ref a) (.ref b) :=
  .tup ha hb rfl fun j x y e1 e2 => by
    match j, e1, e2 with
    | 0, e1, e2 => cases e1; cases e2; exact h1
    | 1, e1, e2 => cases e1; cases e2; exact h2
section
variable {X : Cx} {pins : List (Addr × Obj)} {σ : L2.St} {H : Hp} {s : Shared}
theorem ix_of {xs : List V} {its : List Value} (r : Vals xs its) {j : Nat} (h : j < its.toArray.size) : ∃ x, xs[j]? = some x ∧ RelV x its.toArray[j] := by
  have h' : j < xs.length := by rw [r.length]; simpa using h
  obtain ⟨u, hu, ru⟩ := r.get (List.getElem?_eq_getElem h')
  have : its.toArray[j] = u := by
    have e : its[j]? = some its.toArray[j] := by simp at h ⊢
    rw [e] at hu
    exact Option.some.inj hu
  exact ⟨_, List.getElem?_eq_getElem h', by rw [this]; exact ru⟩
theorem all_true (n : Nat) : ((List.range n).all fun _ => true) = true := by simp
theorem DEq.tree (I : Inv X pins σ H s) {n : Nat} {x y : V} (t : DEq H n x y) : ∀ {v u : Value}, RelV x v → RelV y u → PySem.W.EqTree X.prog X.w s n v u true := by
  induction t with
  | flat hf => exact fun rx ry => .leaf fun A _ => eqAt_same rx ry hf
  | @tup n a b xs ys ha hb hl hx ih =>
    intro v u rx ry
    obtain rfl : v = Value.ref a := rx
    obtain rfl : u = Value.ref b := ry
    by_cases hab : a = b
    · rw [hab]
      exact .same
    obtain ⟨_, its, r1, p1⟩ := (show ObjOk X.prog X.w H s.heap a (.tup xs) from ha.ok I.hok)
    obtain ⟨_, its2, r2, p2⟩ := (show ObjOk X.prog X.w H s.heap b (.tup ys) from hb.ok I.hok)
    have q := PySem.W.EqTree.tuples (prog := X.prog) (w := X.w) (s := s) (n := n) (e := fun _ => true) hab (show s.heap.IsTuple a its.toArray from p1) (show s.heap.IsTuple b its2.toArray from p2) fun j h1 h2 => by
      obtain ⟨x, e1, rx⟩ := ix_of r1 h1
      obtain ⟨y, e2, ry⟩ := ix_of r2 h2
      exact ih j x y e1 e2 rx ry
    have hs : (its.toArray.size == its2.toArray.size) = true := by
      rw [List.size_toArray, List.size_toArray, ← r1.length, ← r2.length, hl]
      exact beq_self_eq_true _
    rw [all_true, hs] at q
    exact q
  | @lst n a b xs ys ha hb hl hx ih =>
    intro v u rx ry
    obtain rfl : v = Value.ref a := rx
    obtain rfl : u = Value.ref b := ry
    by_cases hab : a = b
    · rw [hab]
      exact .same
    obtain ⟨_, its, n1, r1, e1⟩ := (show ObjOk X.prog X.w H s.heap a (.lst xs) from ha.ok I.hok)
    obtain ⟨_, its2, n2, r2, e2⟩ := (show ObjOk X.prog X.w H s.heap b (.lst ys) from hb.ok I.hok)
    have hs : its.toArray.size = its2.toArray.size := by
      rw [List.size_toArray, List.size_toArray, ← r1.length, ← r2.length, hl]
    have q := PySem.W.EqTree.lists (prog := X.prog) (w := X.w) (s := s) (n := n) (e := fun _ => true) hab ⟨_, e1, rfl, _, rfl⟩ ⟨_, e2, rfl, _, rfl⟩ hs fun j h1 h2 => by
      obtain ⟨x, e1, rx⟩ := ix_of r1 h1
      obtain ⟨y, e2, ry⟩ := ix_of r2 h2
      exact ih j x y e1 e2 rx ry
    rw [all_true] at q
    exact q
  | @dK n a b ks ls ha hb hl hx _ ih =>
    intro v u rx ry
    obtain rfl : v = Value.ref a := rx
    obtain rfl : u = Value.ref b := ry
    by_cases hab : a = b
    · rw [hab]
      exact .same
    obtain ⟨_, ya, va, ra, da⟩ := dk_rd I.hok ha
    obtain ⟨_, yb, vb, rb, db⟩ := dk_rd I.hok hb
    have hit : ∀ k v, (k, v) ∈ va → ∃ p ∈ ks, p.1 = k ∧ RelV p.2 v := by
      intro k v hm
      obtain ⟨j, e1⟩ := List.mem_iff_getElem?.mp hm
      have hlt : j < ks.length := by rw [ra.length]; exact (List.getElem?_eq_some_iff.mp e1).1
      obtain ⟨q, hq, h1, h2⟩ := LiI.paired_get (show Paired _ ks va from ra) (List.getElem?_eq_getElem hlt)
      rw [e1] at hq
      obtain rfl := Option.some.inj hq
      exact ⟨ks[j], List.getElem_mem hlt, h1, h2⟩
    have q := PySem.W.EqTree.dicts (prog := X.prog) (w := X.w) (s := s) (knd := mixKind X.prog X.w) (n := n) (e := fun _ => true) hab ya yb da db fun k v z hm hv => by
      obtain ⟨p, hp, e1, r1⟩ := hit k v hm
      obtain ⟨y, hy⟩ := Option.isSome_iff_exists.mp (hx p hp)
      have rr : RelO (some y) (valueAt vb p.1) := by rw [← hy]; exact rb.val _
      obtain ⟨z', hz, rz⟩ := rr.some_of
      rw [e1, hv] at hz
      obtain rfl := Option.some.inj hz
      exact ih p y hp hy r1 rz
    have hs : (va.length == vb.length) = true := by
      rw [← ra.length, ← rb.length, hl]
      exact beq_self_eq_true _
    have h2 : (va.all fun p => (valueAt vb p.1).isSome && true) = true := by
      rw [List.all_eq_true]
      rintro ⟨k, v⟩ hm
      obtain ⟨p, hp, e1, r1⟩ := hit k v hm
      obtain ⟨y, hy⟩ := Option.isSome_iff_exists.mp (hx p hp)
      have rr : RelO (some y) (valueAt vb p.1) := by rw [← hy]; exact rb.val _
      obtain ⟨z', hz, rz⟩ := rr.some_of
      rw [e1] at hz
      show ((valueAt vb k).isSome && true) = true
      rw [hz]
      rfl
    rw [hs, h2] at q
    exact q
/-- == and != of two tuples that are equal -/
def rEqT : R2 := fun x y H Q => ∃ n a b xs ys, x = .ref a ∧ y = .ref b ∧ Rd H a (.tup xs) ∧ Rd H b (.tup ys) ∧ n ≤ 60 ∧ xs.length = ys.length ∧ (∀ (j : Nat) (x y : V), xs[j]? = some x → ys[j]? = some y → DEq H n x y) ∧ Q (.bl true) H
def rNeT : R2 := fun x y H Q => ∃ n a b xs ys, x = .ref a ∧ y = .ref b ∧ Rd H a (.tup xs) ∧ Rd H b (.tup ys) ∧ n ≤ 60 ∧ xs.length = ys.length ∧ (∀ (j : Nat) (x y : V), xs[j]? = some x → ys[j]? = some y → DEq H n x y) ∧ Q (.bl false) H
theorem op_eqT (hu : X.A.units + 64 < cLine) : OpR X (compareOp .Eq) rEqT := by
  intro pins s σ H x y v u Q I rx ry h
  obtain ⟨n, a, b, xs, ys, rfl, rfl, ha, hb, hn, hl, t, q⟩ := h
  obtain rfl : v = Value.ref a := rx
  obtain rfl : u = Value.ref b := ry
  obtain ⟨_, its, r1, p1⟩ := (show ObjOk X.prog X.w H s.heap a (.tup xs) from ha.ok I.hok)
  obtain ⟨_, its2, r2, p2⟩ := (show ObjOk X.prog X.w H s.heap b (.tup ys) from hb.ok I.hok)
  refine PySem.W.eq_tuplesT (n := n) (e := fun _ => true) (show s.heap.IsTuple a its.toArray from p1) (show s.heap.IsTuple b its2.toArray from p2) (fun j h1 h2 => ?_) (by omega) (fin_bl I q ?_)
  · obtain ⟨x, e1, rx⟩ := ix_of r1 h1
    obtain ⟨y, e2, ry⟩ := ix_of r2 h2
    exact (t j x y e1 e2).tree I rx ry
  · rw [all_true, List.size_toArray, List.size_toArray, ← r1.length, ← r2.length, hl]
    simp
theorem op_neT (hu : X.A.units + 64 < cLine) : OpR X (compareOp .NotEq) rNeT := by
  intro pins s σ H x y v u Q I rx ry h
  obtain ⟨n, a, b, xs, ys, rfl, rfl, ha, hb, hn, hl, t, q⟩ := h
  obtain rfl : v = Value.ref a := rx
  obtain rfl : u = Value.ref b := ry
  obtain ⟨_, its, r1, p1⟩ := (show ObjOk X.prog X.w H s.heap a (.tup xs) from ha.ok I.hok)
  obtain ⟨_, its2, r2, p2⟩ := (show ObjOk X.prog X.w H s.heap b (.tup ys) from hb.ok I.hok)
  refine PySem.W.ne_tuplesT (n := n) (e := fun _ => true) (show s.heap.IsTuple a its.toArray from p1) (show s.heap.IsTuple b its2.toArray from p2) (fun j h1 h2 => ?_) (by omega) (fin_bl I q ?_)
  · obtain ⟨x, e1, rx⟩ := ix_of r1 h1
    obtain ⟨y, e2, ry⟩ := ix_of r2 h2
    exact (t j x y e1 e2).tree I rx ry
  · rw [all_true, List.size_toArray, List.size_toArray, ← r1.length, ← r2.length, hl]
    simp
end
end Tb

set_option Elab.async false
set_option linter.all false
set_option maxRecDepth 100000
set_option maxHeartbeats 4000000
/-! _law_is_now -/
namespace Tb
open PySem PySem.Spec PyProof.Rows L2 TL
abbrev sIsNow : Stmt := topS 64
abbrev nIsNow : List Str := ["_law_reader", "_law_parts", "_law_text_here", "_law_state_here"]
theorem scIsNow : FnScope nIsNow ["_law_reader", "_law_parts", "_law_text_here"] (defScope sIsNow) := ⟨rfl, rfl, rfl, by decide +kernel, rfl, by decide +kernel, by decide +kernel⟩
theorem mt_dclear {X : Cx} : MtM X "dict.clear" (fun x vs H Q => ∃ d kvs, x = .ref d ∧ vs = [] ∧ H d = some (.dK kvs) ∧ Q .non (upd H d (.dK []))) := by
  intro pins s σ H x vs v us Q I rx rv h
  obtain ⟨d, kvs, rfl, rfl, hd, q⟩ := h
  cases rx
  have e := rv.zero
  subst e
  exact d_clear I hd fun s' J => ⟨.non, _, J, rfl, q⟩
theorem ne_self {x : V} {H : Hp} {Q : VK} (h : scal x x = true) (q : Q (.bl false) H) : rNe x x H Q := ⟨h, by rw [decide_eq_true rfl]; exact q⟩
theorem eq_self {x : V} {H : Hp} {Q : VK} (h : scal x x = true) (q : Q (.bl true) H) : rEq x x H Q := ⟨h, by rw [decide_eq_true rfl]; exact q⟩
theorem vmemN {κ : Type} [DecidableEq κ] : ∀ {kvs : List (κ × V)}, (kvs.map (·.1)).Nodup → ∀ {p : κ × V}, p ∈ kvs → valV kvs p.1 = some p.2
  | q :: r, nd, p, h => by
    rw [List.map_cons, List.nodup_cons] at nd
    rcases List.mem_cons.mp h with e | e
    · rw [e]
      exact valV_pos rfl
    · rw [valV_neg fun z => nd.1 (by rw [z]; exact List.mem_map.mpr ⟨p, e, rfl⟩)]
      exact vmemN nd.2 e
theorem scal_opt (r : Option (List Nat)) : scal (optV r) (optV r) = true := by cases r <;> rfl
theorem tell_told (pt : Pt) (pl0 t : List Nat) : tellM pt.ends (runE pt.moves (sortN pt.boxes) (pl0, (sortN pt.boxes).map fun b => (b, [])) t) = toldE pt.moves (sortN pt.boxes) pt.ends pl0 t := by
  unfold toldE
  cases runE pt.moves (sortN pt.boxes) (pl0, (sortN pt.boxes).map fun b => (b, [])) t <;> rfl
section
variable {P : Program} {w : World} {K : PySem.W.Frag} {mg : Str → Option Value} {base : Heap} {CD CS CR C : Addr}
def spIsNow (CD CS CR C : Addr) : Sp := fun vs H Q _ => ∃ (r a : Addr) (t : List Nat) (pt : Pt) (pl0 : List Nat) (pls : List (List Nat)) (done undone : List (List Nat × Mem)), vs = [.ref r, .ref a, .str (S t)] ∧ RdPre CD CS CR C H r (sortN pt.boxes) pl0 done undone (pt.moves.map keptM) pt.ends ∧ PtAt H a pt ∧ GoodP pt ∧ pt.places = pl0 :: pls ∧
  done.length ≤ 1000 ∧ t.length ≤ 300 ∧ textM done = t ∧ nowM pl0 (sortN pt.boxes) done = runE pt.moves (sortN pt.boxes) (pl0, (sortN pt.boxes).map fun b => (b, [])) t ∧ ∀ H', Same H H' → Q (.bl true) H'
theorem RdPre.same {H H' : Hp} {r : Addr} {B pl0 : List Nat} {done undone : List (List Nat × Mem)} {ms : List Mv} {es : Fil} (s : Same H H') (h : RdPre CD CS CR C H r B pl0 done undone ms es) : RdPre CD CS CR C H' r B pl0 done undone ms es := by
  obtain ⟨st, dn, un, g, p, L, places, n, R, G⟩ := h
  exact ⟨st, dn, un, g, p, L, places, n, R.same s, G⟩
theorem RdPre.obj {H : Hp} {r : Addr} {B pl0 : List Nat} {done undone : List (List Nat × Mem)} {ms : List Mv} {es : Fil} (h : RdPre CD CS CR C H r B pl0 done undone ms es) : ∃ dx p st dn un, H r = some (.ins CD dx (rdF p st dn un)) := by
  obtain ⟨st, dn, un, g, p, L, places, n, R, G⟩ := h
  obtain ⟨dx, xs, ys, h1, _⟩ := R.ob
  exact ⟨dx, p, st, dn, un, h1⟩
theorem ok_isNow {f : Addr} {fd : FuncData} (F : Fun K "_law_is_now" "_law_is_now" sIsNow f fd) (T : RdTxt K mg CD CS CR C) (DX : Mth P w K mg base CD 1 "text" [] (spRdText CD CS CR C)) (DS : Mth P w K mg base CD 5 "state" [] (spRdState CD CS CR C)) (DT : Mth P w K mg base CD 8 "told" [] (spRdTold CD CS CR C))
    (DLs : Df P w K mg base 2 "_law_state" ["_law_parts", "_law_text_here"] spLState) (DLt : Df P w K mg base 3 "_law_told" ["_law_parts", "_law_text_here"] spLTold) : FnOk P w K mg base CX0 9 f fd ["_law_reader", "_law_parts", "_law_text_here"] (spIsNow CD CS CR C) := by
  refine F.ok scIsNow (fun vs H Q E h => ?_) (fun cdv A outer s0 H vs Q E hr h => ?_)
  · obtain ⟨r, a, t, pt, pl0, pls, done, undone, rfl, _⟩ := h
    rfl
  · obtain ⟨r, a, t, pt, pl0, pls, done, undone, rfl, pre, hp, g, hpl, few, lt, ht, hn, q⟩ := h
    have hu64 := hr.units
    subst ht
    obtain ⟨dx, p, st, dn, un, h1⟩ := pre.obj
    have lb : pt.boxes.length ≤ 6 := g.b6
    have tl : tellM pt.ends (nowM pl0 (sortN pt.boxes) done) = toldE pt.moves (sortN pt.boxes) pt.ends pl0 (textM done) := by rw [hn, tell_told]
    cases hm : runE pt.moves (sortN pt.boxes) (pl0, (sortN pt.boxes).map fun b => (b, [])) (textM done) with
    | none =>
      rw [hm] at hn
      refine ⟨_, pss_cons (ps_set (i := 3) scIsNow.nd rfl (.inl rfl) (pe_df DLs hr (pa_cons (pv 1) (pa_cons (pv 2) pa_nil))))
        (pss_cons (ps_if (PW.pt (pw_or (pt_cmpR op_ne (pe_mthZ DX T.cl hr (pv 0)) (pv 2) (nomark _)) (pw_or (pt_cmpR op_ne (pe_mthZ DS T.cl hr (pv 0)) (pv 3) (nomark _)) (pw_or1 (pt_cmpR op_ne (pe_mthZ DT T.cl hr (pv 0)) (pe_df DLt hr (pa_cons (pv 1) (pa_cons (pv 2) pa_nil))) (nomark _)))))) (pss_one (ps_ret pe_bl)) pss_nil)
        (pss_cons (ps_if (pt_cmpR op_notN (pv 3) pe_non (nomark _)) (pss_one (ps_expr (pe_bm0 PySem.F.plainAttrs_dict PySem.F.slot_dict_clear PySem.F.type_dict_clear mt_dclear (pe_ix ix_tup (pe_mthZ DS T.cl hr (pv 0)) pe_int (fun _ _ => rfl))))) pss_nil)
        (pss_one (ps_ret (pe_cmpR op_eq (pe_mthZ DS T.cl hr (pv 0)) (pv 3) (nomark _)))))), ?_⟩
      refine ⟨_, rfl, _, rfl, a, _, pt, pl0, pls, rfl, hp, hpl, g.ndB, g.caps, lb, g.mvs, lt, ?_⟩
      rw [hm]
      intro H1 s1
      refine ⟨_, rfl, r, dx, _, rfl, s1 _ _ h1, rd_no _ _ _ _ (by decide +kernel), r, _, pl0, done, undone, _, _, rfl, pre.same s1, few, by omega, fun H2 s2 => ⟨_, rfl, ne_self rfl ⟨false, rfl, iteF ?_⟩⟩⟩
      have s12 := s1.trans s2
      refine ⟨_, rfl, r, dx, _, rfl, s12 _ _ h1, rd_no _ _ _ _ (by decide +kernel), r, _, pl0, done, undone, _, _, rfl, pre.same s12, ?_⟩
      rw [hn]
      intro H3 s3
      have s13 := s12.trans s3
      refine ⟨_, rfl, ne_self rfl ⟨false, rfl, iteF ?_⟩⟩
      refine ⟨_, rfl, r, dx, _, rfl, s13 _ _ h1, rd_no _ _ _ _ (by decide +kernel), r, _, pl0, done, undone, _, _, rfl, pre.same s13, fun H4 s4 => ?_⟩
      have s14 := s13.trans s4
      refine ⟨_, rfl, _, rfl, a, _, pt, pl0, pls, rfl, hp.same s14, hpl, g.ndB, g.caps, lb, g.mvs, lt, g.ends, fun H5 s5 => ?_⟩
      have s15 := s14.trans s5
      rw [tl]
      refine ne_self (scal_opt _) ⟨false, rfl, iteF ?_⟩
      refine ⟨_, rfl, rfl, _, rfl, iteF ?_⟩
      refine ⟨_, rfl, r, dx, _, rfl, s15 _ _ h1, rd_no _ _ _ _ (by decide +kernel), r, _, pl0, done, undone, _, _, rfl, pre.same s15, ?_⟩
      rw [hn]
      intro H6 s6
      exact ⟨_, rfl, eq_self rfl (q H6 (s15.trans s6))⟩
    | some z =>
      rw [hm] at hn
      refine ⟨_, pss_cons (ps_set (i := 3) scIsNow.nd rfl (.inl rfl) (pe_df DLs hr (pa_cons (pv 1) (pa_cons (pv 2) pa_nil))))
        (pss_cons (ps_if (PW.pt (pw_or (pt_cmpR op_ne (pe_mthZ DX T.cl hr (pv 0)) (pv 2) (nomark _)) (pw_or (pt_cmpR (op_neT hu64) (pe_mthZ DS T.cl hr (pv 0)) (pv 3) (nomark _)) (pw_or1 (pt_cmpR op_ne (pe_mthZ DT T.cl hr (pv 0)) (pe_df DLt hr (pa_cons (pv 1) (pa_cons (pv 2) pa_nil))) (nomark _)))))) (pss_one (ps_ret pe_bl)) pss_nil)
        (pss_cons (ps_if (pt_cmpR op_notN (pv 3) pe_non (nomark _)) (pss_one (ps_expr (pe_bm0 PySem.F.plainAttrs_dict PySem.F.slot_dict_clear PySem.F.type_dict_clear mt_dclear (pe_ix ix_tup (pe_mthZ DS T.cl hr (pv 0)) pe_int (fun _ _ => rfl))))) pss_nil)
        (pss_one (ps_ret (pe_cmpR (op_eqT hu64) (pe_mthZ DS T.cl hr (pv 0)) (pv 3) (nomark _)))))), ?_⟩
      refine ⟨_, rfl, _, rfl, a, _, pt, pl0, pls, rfl, hp, hpl, g.ndB, g.caps, lb, g.mvs, lt, ?_⟩
      rw [hm]
      intro T0 d0 H1 s1 eT ed ek es
      refine ⟨_, rfl, r, dx, _, rfl, s1 _ _ h1, rd_no _ _ _ _ (by decide +kernel), r, _, pl0, done, undone, _, _, rfl, pre.same s1, few, by omega, fun H2 s2 => ⟨_, rfl, ne_self rfl ⟨false, rfl, iteF ?_⟩⟩⟩
      have s12 := s1.trans s2
      have same2 : ∀ {H' : Hp} {T1 d1 : Addr}, Same H1 H' → H' T1 = some (.tup [.str (S z.1), .ref d1]) → H' d1 = some (.dK (envK z.2)) → ∀ (j : Nat) (x y : V), ([V.str (S z.1), .ref d1])[j]? = some x → ([V.str (S z.1), .ref d0])[j]? = some y → DEq H' 1 x y := fun {H' T1 d1} s eT1 ed1 j x y hx hy => by
        match j, hx, hy with
        | 0, rfl, rfl => exact .flat rfl
        | 1, rfl, rfl =>
          refine .dK (.inl ed1) (.inl (s _ _ ed)) rfl (fun p hp => ?_) fun p y hp hy => ?_
          · have nd : ((envK z.2).map (·.1)).Nodup := by
              unfold envK
              rw [List.map_map]
              have nb : (z.2.map (·.1)).Nodup := by rw [ek]; exact g.ndB
              have e2 : z.2.map ((fun x => x.1) ∘ fun q : Nat × List Nat => ((Sum.inr (S [q.1]) : Key), V.str (S q.2))) = (z.2.map (·.1)).map fun b => (Sum.inr (S [b]) : Key) := by
                rw [List.map_map]
                rfl
              rw [e2]
              exact List.Pairwise.map _ (fun a b hab e => hab (List.cons.inj (key_S.mp e)).1) nb
            rw [vmemN nd hp]
            rfl
          · have nd : ((envK z.2).map (·.1)).Nodup := by
              unfold envK
              rw [List.map_map]
              have nb : (z.2.map (·.1)).Nodup := by rw [ek]; exact g.ndB
              have e2 : z.2.map ((fun x => x.1) ∘ fun q : Nat × List Nat => ((Sum.inr (S [q.1]) : Key), V.str (S q.2))) = (z.2.map (·.1)).map fun b => (Sum.inr (S [b]) : Key) := by
                rw [List.map_map]
                rfl
              rw [e2]
              exact List.Pairwise.map _ (fun a b hab e => hab (List.cons.inj (key_S.mp e)).1) nb
            rw [vmemN nd hp] at hy
            obtain rfl := Option.some.inj hy
            unfold envK at hp
            obtain ⟨c, _, rfl⟩ := List.mem_map.mp hp
            exact .flat rfl
        | j + 2, hx, _ => simp at hx
      refine ⟨_, rfl, r, dx, _, rfl, s12 _ _ h1, rd_no _ _ _ _ (by decide +kernel), r, _, pl0, done, undone, _, _, rfl, pre.same s12, ?_⟩
      rw [hn]
      intro T1 d1 H3 s3 n3 eT1 ed1
      have s13 := s12.trans s3
      refine ⟨_, rfl, 1, T1, T0, _, _, rfl, rfl, .inl eT1, .inl (s3 _ _ (s2 _ _ eT)), by decide, rfl, same2 (s2.trans s3) eT1 ed1, false, rfl, iteF ?_⟩
      refine ⟨_, rfl, r, dx, _, rfl, s13 _ _ h1, rd_no _ _ _ _ (by decide +kernel), r, _, pl0, done, undone, _, _, rfl, pre.same s13, fun H4 s4 => ?_⟩
      have s14 := s13.trans s4
      refine ⟨_, rfl, _, rfl, a, _, pt, pl0, pls, rfl, hp.same s14, hpl, g.ndB, g.caps, lb, g.mvs, lt, g.ends, fun H5 s5 => ?_⟩
      have s15 := s14.trans s5
      rw [tl]
      refine ne_self (scal_opt _) ⟨false, rfl, iteF ?_⟩
      refine ⟨_, rfl, rfl, _, rfl, iteT ?_⟩
      refine ⟨_, rfl, r, dx, _, rfl, s15 _ _ h1, rd_no _ _ _ _ (by decide +kernel), r, _, pl0, done, undone, _, _, rfl, pre.same s15, ?_⟩
      rw [hn]
      intro T2 d2 H6 s6 n6 eT2 ed2
      have s16 := s15.trans s6
      refine ⟨T2, _, 1, _, rfl, rfl, SqT.of eT2, rfl, .inr (.inr (.inl ⟨rfl, .inl ⟨_, ed2⟩⟩)), d2, _, rfl, rfl, ed2, ?_⟩
      have n0 : ∀ {b : Addr} {o : HO}, H5 b = some o → (upd H6 d2 (.dK [])) b = some o := fun {b o} e => by
        rw [upd_ne (ne_of_none e n6)]
        exact s6 _ _ e
      have s5' : Same H5 (upd H6 d2 (.dK [])) := fun b o e => n0 e
      have s17 : Same H (upd H6 d2 (.dK [])) := s15.trans s5'
      refine ⟨_, rfl, r, dx, _, rfl, s17 _ _ h1, rd_no _ _ _ _ (by decide +kernel), r, _, pl0, done, undone, _, _, rfl, pre.same s17, ?_⟩
      rw [hn]
      intro T3 d3 H7 s7 n7 eT3 ed3
      have far : Same H1 H7 := (((s2.trans s3).trans s4).trans s5).trans (s5'.trans s7)
      exact ⟨_, rfl, 1, T3, T0, _, _, rfl, rfl, .inl eT3, .inl (far _ _ eT), by decide, rfl, same2 far eT3 ed3, q H7 (s17.trans s7)⟩
end
end Tb

set_option Elab.async false
set_option linter.all false
set_option maxRecDepth 100000
set_option maxHeartbeats 4000000
/-! a def that is called while no repr is under way, and the law's call where that is known -/
namespace Tb
open PySem PySem.Spec PyProof.Rows L2 TL LamX
structure FnG (P : Program) (w : World) (K : PySem.W.Frag) (mg : Str → Option Value) (base : Heap) (k : Nat) (f : Addr) (fd : FuncData) (ps : List Str) (sp : Sp) : Prop where
  len : ∀ vs H Q E, sp vs H Q E → vs.length = ps.length
  run : ∀ (A : Around) (outer : List PySem.Env) (s : Shared) (H : Hp) (args : Args) (us : List Value) (vs : List V) (Q : VK) (E : XK), A.guards = some [] → Room k A → Env0 P w K mg base A outer s H → BindsTo s fd args (ps.zip us) → Vals vs us → sp vs H Q E →
    codeAny (model P w) A (.call (.ref f) args) (CR CX0 outer P w H s Q E) s
/-- cdv is the code of the def at f -/
def CodeOf (K : PySem.W.Frag) (x qual : Str) (st : Stmt) (f : Addr) (cdv : Value) : Prop := ∃ (oc : Value) (od : Option Addr) (kV doc pm : Value) (an : Option Addr) (ct : Value) (osl : Array (Option Value)), K.lookup f = some ⟨oc, od, .func (PySem.W.fnOf x qual (defArgs st) (defBody st) (defScope st) .none kV doc pm an cdv ct), osl⟩
section
variable {P : Program} {w : World} {K : PySem.W.Frag} {mg : Str → Option Value} {base : Heap}
theorem fun_okG {x qual : Str} {st : Stmt} {f : Addr} {fd : FuncData} {N ps : List Str} {k : Nat} {sp : Sp} (F : Fun K x qual st f fd) (S : FnScope N ps (defScope st)) (len : ∀ vs H Q E, sp vs H Q E → vs.length = ps.length)
    (hbody : ∀ (cdv : Value) (A : Around) (outer : List PySem.Env) (s : Shared) (H : Hp) (vs : List V) (Q : VK) (E : XK), CodeOf K x qual st f cdv → (A.deeper (envOfC qual (defScope st) s.heap.objs.size f cdv)).guards = some [] → Room k (A.deeper (envOfC qual (defScope st) s.heap.objs.size f cdv)) → sp vs H Q E →
      ∃ t, PSs (cxOf CX0 P w K mg base N qual (defScope st) f cdv A outer s H E).nox (defBody st) t ∧ t { nx := fun _ H' => Q .non H', rt := Q } (L2.start N vs) H) : FnG P w K mg base (k + 1) f fd ps sp := by
  obtain ⟨oc, od, kV, doc, pm, an, cdv, ct, osl, rfl, lk, hcd⟩ := F.ex
  refine ⟨len, fun A outer s H args us vs Q E hG hr e0 hb r hsp => ?_⟩
  have hl := len _ _ _ _ hsp
  have KX : K.In s.heap := e0.mod.kin.keeps fun b o e => (e0.bs b o e).1
  have lim : s.heap.NoLimit := e0.mod.nolimit.keeps fun b o e => (e0.bs b o e).1
  have kinds : ∀ y ∈ ps.zip us, (defScope st).names.lookup y.1 = some .local ∨ ((defScope st).names.lookup y.1 = some .cell ∧ ((cellsFrom (s.heap.objs.size + 1) (defScope st).names []).lookup y.1).isSome = true) := fun ⟨n, v⟩ hy => by
    rcases S.par n (List.of_mem_zip hy).1 with q | q
    · exact .inl q
    · exact .inr ⟨q, PySem.W.cellsFrom_some _ _ _ (.inl q)⟩
  refine codeAny_call_function hr.depth (KX _ _ lk) rfl S.co S.gen rfl (PySem.W.codeRec_of KX hcd) (hb _ _ _ _ ?_)
  refine wpAny_newFunctionEnv_cells S.kind kinds fun env he s1 x => ?_
  subst he
  refine ⟨lim.keeps x.toInCall.keep, codeAny_func ?_⟩
  obtain ⟨t, body, goal⟩ := hbody cdv A outer s H vs Q E ⟨oc, od, kV, doc, pm, an, ct, osl, lk⟩ hG (hr.deeper _) hsp
  refine wpAny_mono (body.nox.run [] s1 (L2.start N vs) H _ (inv_start S hr.hd e0 hl r x) goal) ?_ fun e s' hs => wpAny_mono hs (fun _ _ z => z) fun _ _ z => z
  rintro fl s' hs
  match fl, hs with
  | .ret u, ⟨v, σ', H', J, rv, q⟩ => exact ⟨v, H', J.os, J.bare, J.base, J.hok, rv, q⟩
  | .next, ⟨σ', H', J, q⟩ => exact ⟨.non, H', J.os, J.bare, J.base, J.hok, rfl, q⟩
  | .brk, ⟨_, _, _, z⟩ => exact False.elim z
  | .cont, ⟨_, _, _, z⟩ => exact False.elim z
end
end Tb

set_option Elab.async false
set_option linter.all false
set_option maxRecDepth 100000
set_option maxHeartbeats 4000000
/-! the law's call from the caller's place, by FnG -/
namespace Tb
open PySem PySem.Spec PyProof.Rows L2 TL LamX
/-- the heap that the law is told: its empty tables, and the script where the row's fragment does not hold it -/
def hp0 (K : PySem.W.Frag) (ts : List Addr) (a : Addr) (vs : List Value) (ns : List Int) : Hp := fun b =>
  if b ∈ ts then some (.tbl #[]) else if b = a ∧ K.lookup a = none then some (.frz { cls := .type "list", data := .seq vs.toArray } (.lst (ns.map V.int))) else none
inductive Hp0 (K : PySem.W.Frag) (ts : List Addr) (a : Addr) (vs : List Value) (ns : List Int) (b : Addr) : Option HO → Prop
  | tbl : b ∈ ts → Hp0 K ts a vs ns b (some (.tbl #[]))
  | scr : b ∉ ts → b = a → K.lookup a = none → Hp0 K ts a vs ns b (some (.frz { cls := .type "list", data := .seq vs.toArray } (.lst (ns.map V.int))))
  | non : b ∉ ts → Hp0 K ts a vs ns b none
section
variable {K : PySem.W.Frag} {ts : List Addr} {a : Addr} {vs : List Value} {ns : List Int}
theorem hp0_is (b : Addr) : Hp0 K ts a vs ns b (hp0 K ts a vs ns b) := by
  unfold hp0
  by_cases h1 : b ∈ ts
  · rw [if_pos h1]
    exact .tbl h1
  · rw [if_neg h1]
    by_cases h2 : b = a ∧ K.lookup a = none
    · rw [if_pos h2]
      exact .scr h1 h2.1 h2.2
    · rw [if_neg h2]
      exact .non h1
theorem hp0_tbl {b : Addr} (h : b ∈ ts) : hp0 K ts a vs ns b = some (.tbl #[]) := if_pos h
end
theorem law_callG {P : Program} {w : World} {K : PySem.W.Frag} {mg mb : Str → Option Value} {k : Nat} {fa a : Addr} {cs : List (Addr × Addr)} {fd : FuncData} {x : Str} {sp : Sp} {s : Shared} {vs : List Value} {ns : List Int}
    (KX : K.In s.heap) (hns : s.heap.Ns mainGlobals mg) (hb : s.heap.Ns builtinsNs mb) (hbb : ∀ x : Str, x ≠ "__name__" → mb x = bootBuiltins x) (hlim : s.heap.NoLimit) (hg : s.gens = #[])
    (hT : ∀ p ∈ cs, s.heap.get? p.2 = some { cls := .none, data := .fields #[] }) (nT : ∀ p ∈ cs, K.lookup p.2 = none) (C : ∀ p ∈ cs, PySem.W.CodeHd s.heap p.1 p.2)
    (hbm : ∃ (bm : Addr) (ob : Obj), mg "__builtins__" = some (.ref bm) ∧ bm ≠ builtinsNs ∧ s.heap.get? bm = some ob ∧ ob.cls = .type "module" ∧ ob.dict = some builtinsNs ∧ ob.data = .plain)
    (ha : s.heap.get? a = some { cls := .type "list", data := .seq vs.toArray }) (hi : IntsAre vs ns) (hl : ns.length ≤ sizeLine) (hr : Room k callerA)
    (F : ∀ base : Heap, K.In base → base.Ns mainGlobals mg → (∀ p ∈ cs, TabB base mg p.1 p.2) → FnG P w K mg base k fa fd [x] sp) (hbind : ∀ (s : Shared) (u : Value), BindsTo s fd ⟨[u], []⟩ [(x, u)])
    (hsp : ∀ H : Hp, (∀ p ∈ cs, H p.2 = some (.tbl #[])) → SqL K H a (ns.map V.int) → sp [.ref a] H (fun v _ => v = .bl true) fun _ _ _ => False) :
    codeAny (model P w) callerA (.call (.ref fa) ⟨[.ref a], []⟩) (fun r s' => r = .ok (.ret (.bool true)) ∧ OldK s.heap s'.heap ∧ s'.os = s.os ∧ AllBare s'.gens) s := by
  have inT : ∀ {p}, p ∈ cs → p.2 ∈ cs.map (·.2) := fun {p} hp => List.mem_map.mpr ⟨p, hp, rfl⟩
  have tab : ∀ {b}, b ∈ cs.map (·.2) → ∃ p ∈ cs, p.2 = b := fun {b} hb => List.mem_map.mp hb
  have isT : ∀ {b}, b ∈ cs.map (·.2) → s.heap.get? b = some { cls := .none, data := .fields #[] } ∧ K.lookup b = none := fun {b} hb => by
    obtain ⟨p, hp, rfl⟩ := tab hb
    exact ⟨hT p hp, nT p hp⟩
  have ne : ∀ {b : Addr} {o : Obj}, s.heap.get? b = some o → o.data ≠ .fields #[] → b ∉ cs.map (·.2) := fun {b o} e d hm => by
    have z := (isT hm).1
    rw [e] at z
    exact d (congrArg Obj.data (Option.some.inj z))
  let H := hp0 K (cs.map (·.2)) a vs ns
  have free : ∀ {b : Addr} {o : Obj}, s.heap.get? b = some o → o.data ≠ .fields #[] → (∀ l n, o.data ≠ .seq l n) → H b = none := fun {b o} e d1 d2 => by
    have z := hp0_is (K := K) (ts := cs.map (·.2)) (a := a) (vs := vs) (ns := ns) b
    show hp0 K (cs.map (·.2)) a vs ns b = none
    revert z
    generalize hp0 K (cs.map (·.2)) a vs ns b = y
    intro z
    cases z with
    | tbl h => exact (ne e d1 h).elim
    | scr h1 h2 h3 =>
      subst h2
      rw [ha] at e
      exact (d2 _ _ (congrArg Obj.data (Option.some.inj e)).symm).elim
    | non h => rfl
  have dicts : ∀ {b : Addr} {m : Str → Option Value}, s.heap.Ns b m → (hidT s.heap H).Ns b m := fun {b m} ⟨o, es, ep, e, d, r⟩ => ⟨o, es, ep, hidT_get e (free e (by rw [d]; exact fun z => nomatch z) fun l n => by rw [d]; exact fun z => nomatch z), d, r⟩
  have Kb : K.In (hidT s.heap H) := fun b o e => hidT_get (KX b o e) (by
    have z := hp0_is (K := K) (ts := cs.map (·.2)) (a := a) (vs := vs) (ns := ns) b
    show hp0 K (cs.map (·.2)) a vs ns b = none
    revert z
    generalize hp0 K (cs.map (·.2)) a vs ns b = y
    intro z
    cases z with
    | tbl h =>
      rw [(isT h).2] at e
      cases e
    | scr h1 h2 h3 =>
      rw [h2, h3] at e
      cases e
    | non h => rfl)
  have hok : HOk P w H s.heap := fun b u e => by
    have z := hp0_is (K := K) (ts := cs.map (·.2)) (a := a) (vs := vs) (ns := ns) b
    have e' : hp0 K (cs.map (·.2)) a vs ns b = some u := e
    rw [e'] at z
    cases z with
    | tbl h => exact (isT h).1
    | scr h1 h2 h3 =>
      subst h2
      exact ⟨ha, by rw [List.length_map]; exact hl, vs, _, vals_ints hi, ha⟩
  have Sa : SqL K H a (ns.map V.int) := by
    cases q : K.lookup a with
    | none =>
      refine .inl (.inr ⟨{ cls := .type "list", data := .seq vs.toArray }, ?_⟩)
      show hp0 K (cs.map (·.2)) a vs ns a = _
      unfold hp0
      rw [if_neg (ne ha fun z => nomatch z), if_pos ⟨rfl, q⟩]
    | some o =>
      have e := KX a o q
      rw [ha] at e
      cases e
      exact .inr ⟨_, vs.toArray, _, q, rfl, rfl, rfl, by rw [List.size_toArray, hi.length]; exact hl, by simpa using vals_ints hi⟩
  have M : L2.Mod K mg (hidT s.heap H) := ⟨Kb, dicts hns, ⟨mb, dicts hb, hbb⟩, let ⟨mc, h1, h2⟩ := hlim; ⟨mc, dicts h1, h2⟩⟩
  have e0 : Env0 P w K mg (hidT s.heap H) callerA [] s H := ⟨rfl, M, fun b o e => of_hidT e, Nat.le_of_eq (hidT_size _ _), trivial, fun b (z : b ∈ ([] : List Addr)) => absurd z List.not_mem_nil, hok, AllBare.of_eq hg⟩
  have TB : ∀ p ∈ cs, TabB (hidT s.heap H) mg p.1 p.2 := fun p hp => by
    refine ⟨?_, ?_, fun z => ?_⟩
    · obtain ⟨o, us, file, tf, flags, tg, inF, text, tt, e, r1, r2, r3, rest⟩ := C p hp
      refine ⟨o, us, file, tf, flags, tg, inF, text, tt, hidT_get e (free e (fun z => ?_) fun l n => ?_), r1, r2, r3, rest⟩
      · rw [r2] at z
        cases z
        simp at r3
      · rw [r2]
        exact fun z => nomatch z
    · obtain ⟨bm, ob, b1, b2, b3, b4, b5, b6⟩ := hbm
      refine ⟨bm, ob, b1, b2, fun z => ?_, fun z => ?_, hidT_get b3 (free b3 (by rw [b6]; exact fun z => nomatch z) fun l n => by rw [b6]; exact fun z => nomatch z), b4, b5, b6⟩
      · obtain ⟨o, es, ep, e, d, _⟩ := hns
        rw [z, e] at b3
        cases b3
        rw [d] at b6
        cases b6
      · exact ne b3 (by rw [b6]; exact fun z => nomatch z) (z ▸ inT hp)
    · obtain ⟨o, es, ep, e, d, _⟩ := hns
      exact ne e (by rw [d]; exact fun z => nomatch z) (z ▸ inT hp)
  refine codeAny_mono ((F _ Kb (dicts hns) TB).run callerA [] s H ⟨[.ref a], []⟩ [.ref a] [.ref a] _ _ rfl hr e0 (hbind s (.ref a)) (.cons rfl .nil) (hsp H (fun p hp => hp0_tbl (inT hp)) Sa)) fun r s' h => ?_
  match r, h with
  | .ok (.ret u), ⟨v, H', os, bare, un, hok', r', q⟩ =>
    obtain rfl : v = .bl true := q
    obtain rfl : u = Value.bool true := r'
    have old : ∀ {b o}, b ∉ cs.map (·.2) → s.heap.get? b = some o → s'.heap.get? b = some o := fun {b o} nb e => by
      have z := hp0_is (K := K) (ts := cs.map (·.2)) (a := a) (vs := vs) (ns := ns) b
      cases y : hp0 K (cs.map (·.2)) a vs ns b with
      | none => exact un.keep b o e y (fun z => absurd (show b ∈ ([] : List Addr) from z) List.not_mem_nil) List.not_mem_nil
      | some u =>
        rw [y] at z
        cases z with
        | tbl h => exact (nb h).elim
        | scr h1 h2 h3 =>
          obtain ⟨e2, _⟩ := hok' b _ (un.frzs b _ _ y)
          subst h2
          rw [ha] at e
          cases e
          exact e2
    have more : ∀ {b}, b ∈ cs.map (·.2) → ∃ m : Array Value, s'.heap.get? b = some { cls := .none, data := .fields m } := fun {b} h => by
      obtain ⟨m, z⟩ := un.tbls b #[] (hp0_tbl h)
      exact ⟨_, hok' b _ z⟩
    refine ⟨rfl, ⟨fun b o e => ?_, fun b o e => ?_⟩, os, bare⟩
    · by_cases h : b ∈ cs.map (·.2)
      · obtain ⟨m, z⟩ := more h
        obtain ⟨p, hp, rfl⟩ := tab h
        rw [hT p hp] at e
        cases e
        exact .inr (.inl ⟨((C p hp).tab (hT p hp)).isCodeTable, rfl, #[], m, rfl, by rw [Array.empty_append]; exact z⟩)
      · exact .inl (old h e)
    · by_cases h : b ∈ cs.map (·.2)
      · obtain ⟨m, z⟩ := more h
        exact ⟨_, z⟩
      · exact ⟨o, old h e⟩
end Tb

set_option Elab.async false
set_option linter.all false
set_option maxRecDepth 100000
set_option maxHeartbeats 4000000
/-! the walk of a law that is known at the caller's place -/
namespace Tb
open PySem PySem.Spec PyProof.Rows L2 TL LamX
def LawG (P : Program) (w : World) (K : PySem.W.Frag) (k n : Nat) (x : Str) (mg : Str → Option Value) (fa : Addr) (h : Heap) : Prop :=
  ∃ (fd : FuncData) (cs : List (Addr × Addr)) (sp : Sp), (∀ p ∈ cs, h.get? p.2 = some { cls := .none, data := .fields #[] } ∧ K.lookup p.2 = none ∧ PySem.W.CodeHd h p.1 p.2) ∧ (∀ (s : Shared) (u : Value), BindsTo s fd ⟨[u], []⟩ [(x, u)]) ∧
    (∀ (H : Hp) (a : Addr) (ns : List Int), ns.length ≤ n → (∀ p ∈ cs, H p.2 = some (.tbl #[])) → SqL K H a (ns.map V.int) → sp [.ref a] H (fun v _ => v = .bl true) fun _ _ _ => False) ∧
    ∀ base : Heap, K.In base → base.Ns mainGlobals mg → (∀ p ∈ cs, TabB base mg p.1 p.2) → FnG P w K mg base k fa fd [x] sp
theorem walkG {l : PySem.W.OpenLaw} {n k : Nat} {q : Program} {loose : List Str} {XP : (Str → Option Value) → Heap → Prop} {YP : World → Heap → Prop} {d : DefRec} {K : Params → PySem.W.Frag} {x : Str}
    (hn : l.most = some n) (hn2 : n ≤ sizeLine) (hdf : d.params.defaults = []) (hr : Room k callerA) (hY : ∀ (w : World) (h : Heap), YP w h → (K w.params).In h)
    (F : ∀ (w : World) (mg : Str → Option Value) (fa : Addr) (h : Heap), YP w h → (K w.params).In h → h.Ns mainGlobals mg → mg d.name = some (.ref fa) → LawG l.prog w (K w.params) k n x mg fa h) :
    PySem.W.WalkO q loose XP YP l.row.toRowW d [] (fun f vs => PySem.call f vs) := by
  refine Att.attach_callB hn hdf fun w s₀ s mg mb fa o pm cd doc a vs ns G Y ho hd hcd hmg hobj hi hlen hbits hg => ?_
  have KX := hY w _ Y
  obtain ⟨fd, cs, sp, h1, h2, h3, h4⟩ := F w mg fa _ Y KX G.T.g hmg
  exact law_callG KX G.T.g G.T.b G.T.builtins G.T.nolimit hg (fun p hp => (h1 p hp).1) (fun p hp => (h1 p hp).2.1) (fun p hp => (h1 p hp).2.2) G.T.bmain hobj hi (Nat.le_trans hlen hn2) hr h4 h2 fun H hH hS => h3 H a ns hlen hH hS
end Tb

set_option Elab.async false
set_option linter.all false
set_option maxRecDepth 100000
set_option maxHeartbeats 4000000
/-! the law's lambdas -/
namespace Tb
open PySem PySem.Spec PyProof.Rows L2 TL LamX
abbrev sLawR : Stmt := topS 65
abbrev nLawR : List Str := ["_law_script", "_law_source_here", "_law_letters", "_law_parts", "_law_moments", "_law_at", "_law_turn", "_law_way", "_law_can", "_law_due", "_law_found", "_law_odd", "_law_back", "_law_more", "_law_reader", "_law_text_here"]
theorem scLawR : FnScope nLawR ["_law_script"] (defScope sLawR) := ⟨rfl, rfl, rfl, by decide +kernel, rfl, by decide +kernel, by decide +kernel⟩
/-- a method that may raise -/
structure MthX (P : Program) (w : World) (K : PySem.W.Frag) (mg : Str → Option Value) (base : Heap) (C : Addr) (k : Nat) (nm : Str) (ps : List Str) (sp : Sp) : Prop where
  ex : ∃ f fd, Meth K C nm f ∧ FnOk P w K mg base (L2.CX P w) k f fd ("self" :: ps) sp ∧ Binds K fd ("self" :: ps) []
section
variable {X : Cx} {C : Addr} {k j : Nat} {nm : Str} {ps : List Str} {sp : Sp} {o : Expr} {to : TE} {E : XK}
theorem pe_mthX {e : Expr} {es : List Expr} {t : TA} {apos pos : Pos} {pl : Sem Bool} (D : MthX X.prog X.w X.K X.mg X.base C k nm ps sp) (c : Cls X.K C) (hr : Room j X.A) (hx : Passes (L2.CX X.prog X.w) X E) (he : PE X o to) (ha : PA X (e :: es) t) (hk : k ≤ j := by omega)
    (hst : starEach (e :: es) X.env = (false, eval e X.env) :: starEach es X.env := by rfl) (hpl : (backTo pos (starEach es X.env)).any (·.1) = false := by rfl)
    (ht : eval (.Call (.Attribute o nm apos) (e :: es) [] pos) X.env = (do
      let ov ← eval o X.env
      standAt apos.atName
      let (f, first) ← holding [ov] (getMethod ov nm pl)
      callWith pos f first (backTo pos (starEach (e :: es) X.env)) (backToKw pos (keywordEach [] X.env))) := by rfl) :
    PE X (.Call (.Attribute o nm apos) (e :: es) [] pos) (tMeth C nm sp [] E to t) := by
  obtain ⟨f, fd, hm, F, b⟩ := D.ex
  exact pe_meth he c hm F (hr.mono hk) b .nil hx ha hst hpl ht
theorem pe_mthX0 {apos pos : Pos} {pl : Sem Bool} (D : MthX X.prog X.w X.K X.mg X.base C k nm [] sp) (c : Cls X.K C) (hr : Room j X.A) (hx : Passes (L2.CX X.prog X.w) X E) (he : PE X o to) (hk : k ≤ j := by omega)
    (ht : eval (.Call (.Attribute o nm apos) [] [] pos) X.env = (do
      let ov ← eval o X.env
      standAt apos.atName
      let (f, first) ← holding [ov] (getMethod ov nm pl)
      callWith pos f first (backTo pos (starEach [] X.env)) (backToKw pos (keywordEach [] X.env))) := by rfl) :
    PE X (.Call (.Attribute o nm apos) [] [] pos) (tMeth C nm sp [] E to tNil) := by
  obtain ⟨f, fd, hm, F, b⟩ := D.ex
  exact pe_meth0 he c hm F (hr.mono hk) b .nil hx ht
end
/-- the fragment's word of _law_tried -/
structure TriedAt (K : PySem.W.Frag) (mg : Str → Option Value) (g : Addr) (NL ND : Addr) : Prop where
  hm : mg "_law_tried" = some (.ref g)
  hk : PySem.W.keepIn K (.ref g) = true
  ex : ∃ (oc : Value) (od : Option Addr) (kV doc pm : Value) (an : Option Addr) (cdv ct : Value) (osl : Array (Option Value)), K.lookup g = some ⟨oc, od, .func (PySem.W.fnOf "_law_tried" "_law_tried" (defArgs sTried) (defBody sTried) (defScope sTried) .none kV doc pm an cdv ct), osl⟩ ∧ PySem.W.codeIn K cdv "_law_tried" = true
  xf : XfC K NL
  nf : PySem.W.findIn K (.ref NL) "letter" = some none
  m1 : mg "NotLetter" = some (.ref NL)
  m2 : mg "NoDeed" = some (.ref ND)
  mr : mg "repr" = none
  x1 : PySem.W.exmOne K (.ref NL) (.ref NL) = some true
  x2 : PySem.W.exmOne K (.ref ND) (.ref NL) = some false
  x3 : PySem.W.exmOne K (.ref ND) (.ref ND) = some true
section
variable {X : Cx} {g c P NL ND : Addr} {k : Nat}
/-- _law_tried(lambda: body) -/
theorem pe_tried {q : Str} {params : Arguments} {body : Expr} {scope : Scope} {t : XK → TE} {p lpos pos : Pos} (N : TriedAt X.K X.mg g NL ND) (hg : Gl X "_law_tried") (hG : X.A.guards = some []) (TB : TabB X.base X.mg c P) (hcode : X.env.code = .ref c) (hq : X.env.qual ++ "<lambda>" = q)
    (hr : Room (k + 3) X.A) (L : LamS X.env.scope scope) (hdef : defaultsOf params X.env = ([], []))
    (hbind : ∀ (q : Str) (cl : List (Str × Addr)) (pm cv ctv : Value), bindArgs (PySem.W.kla_fn "<lambda>" q params body scope cl pm cv ctv) ⟨[], []⟩ = pure [])
    (hbody : ∀ (A : Around) (outer : List PySem.Env) (s : Shared) (H : Hp) (E : XK) (f c' : Addr), Room (k + 1) (A.deeper (lamEnv X scope s.heap.objs.size f c')) → PE (lamCx X A outer s H E scope f c') body (t E)) (h3 : 3 ≤ k + 3 := by omega) :
    PE X (.Call (.Name "_law_tried" p) [.Lambda params body scope lpos] [] pos) (tLam [(P, q)] (TTried NL ND) t) := by
  obtain ⟨oc, od, kV, doc, pm, an, cdv, ct, osl, lk, hcd⟩ := N.ex
  subst hq
  exact pe_lamcall hg N.hm N.hk lk hcd (.all (fun us hl => match us, hl with | [_], _ => rfl)) scTried rfl (.inl rfl) (tried_gives N.xf N.nf N.m1 N.m2 N.mr N.x1 N.x2 N.x3 hG (hr.mono h3)) TB hcode (List.mem_singleton.mpr rfl) (fun p hp _ => by rw [List.mem_singleton.mp hp]) hr L hdef hbind hbody
end
end Tb

set_option Elab.async false
set_option linter.all false
set_option maxRecDepth 100000
set_option maxHeartbeats 4000000
/-! what stays when a table grows -/
namespace Tb
open PySem PySem.Spec PyProof.Rows L2 TL LamX
theorem same_extN {H H' : Hp} (s : Same H H') : ExtN H H' := fun b o e _ => s b o e
theorem MvAt.extN {H H' : Hp} (x : ExtN H H') {kv : List Key × V} {m : Mv} (h : MvAt H kv m) : MvAt H' kv m := by
  obtain ⟨e, t, d, a, b, c⟩ := h
  exact ⟨e, t, d, a, x _ _ b (by intro _ z; cases z), x _ _ c (by intro _ z; cases z)⟩
theorem PtAt.extN {H H' : Hp} (x : ExtN H H') {L : Addr} {pt : Pt} (h : PtAt H L pt) : PtAt H' L pt := by
  obtain ⟨tp, tm, te, kvs, h1, h2, h3, h4, h5⟩ := h.ex
  exact ⟨tp, tm, te, kvs, x _ _ h1 (by intro _ z; cases z), x _ _ h2 (by intro _ z; cases z), x _ _ h3 (by intro _ z; cases z), Paired.mono (fun _ _ z => z.extN x) h4, x _ _ h5 (by intro _ z; cases z)⟩
theorem Src.extN {H H' : Hp} {p : Addr} {n : Nat} (h : Src H p n) (x : ExtN H H') : Src H' p n := by
  obtain ⟨o, e, h⟩ := h
  obtain ⟨g, s, c, rfl, r⟩ := id h
  exact ⟨_, x _ _ e (by intro _ z; cases z), h⟩
theorem PrAt.extN {C : Addr} {H H' : Hp} (x : ExtN H H') {p : Addr} {L B : List Nat} {places : List (List Nat)} {ms : List Mv} {es : Fil} (h : PrAt C H p L B places ms es) : PrAt C H' p L B places ms es := by
  obtain ⟨dx, pl, mv, en, kk, h1, h2, h3, h4, h5⟩ := h.ob
  exact ⟨dx, pl, mv, en, kk, x _ _ h1 (by intro _ z; cases z), x _ _ h2 (by intro _ z; cases z), x _ _ h3 (by intro _ z; cases z), Paired.mono (fun _ _ z => z.extN x) h4, x _ _ h5 (by intro _ z; cases z)⟩
theorem PrNe.extN {C : Addr} {H H' : Hp} {p g : Addr} {L B : List Nat} {places : List (List Nat)} {ms : List Mv} {es : Fil} (x : ExtN H H') (h : PrNe C H p g L B places ms es) : PrNe C H' p g L B places ms es := by
  obtain ⟨dx, pl, mv, en, kk, h1, h2, h3, h4, h5, h6⟩ := h.ob
  exact ⟨dx, pl, mv, en, kk, x _ _ h1 (by intro _ z; cases z), x _ _ h2 (by intro _ z; cases z), x _ _ h3 (by intro _ z; cases z), Paired.mono (fun _ _ z => z.extN x) h4, x _ _ h5 (by intro _ z; cases z), h6⟩
theorem CacheS.extN {H H' : Hp} (x : ExtN H H') {ms : List Mv} {B c : List Nat} {a : Nat} {v : V} (h : CacheS H ms B c a v) : CacheS H' ms B c a v := by
  unfold CacheS at *
  cases e : findM ms c a with
  | none =>
    rw [e] at h
    exact h
  | some m =>
    rw [e] at h
    obtain ⟨t, d, kv, e1, h1, h2, h3⟩ := h
    exact ⟨t, d, kv, e1, x _ _ h1 (by intro _ z; cases z), x _ _ h2 (by intro _ z; cases z), Paired.mono (fun _ _ ⟨e, a, e2, h⟩ => ⟨e, a, e2, x _ _ h (by intro _ z; cases z)⟩) h3⟩
theorem StAt.extN {CS C : Addr} {H H' : Hp} {s p g : Addr} {L B : List Nat} {places : List (List Nat)} {ms : List Mv} {es : Fil} {n : Nat} (x : ExtN H H') (h : StAt CS C H s p g L B places ms es n) : StAt CS C H' s p g L B places ms es n := by
  obtain ⟨dx, kvs, h1, h2, h3, h4, h5⟩ := h.ob
  exact ⟨dx, kvs, x _ _ h1 (by intro _ z; cases z), h2.extN x, x _ _ h3 (by intro _ z; cases z), h4, fun c a v e => (h5 c a v e).extN x⟩
theorem wo_extN {H H' : Hp} {a b : Addr} (x : ExtN H H') : ExtN (wo H a b) (wo H' a b) := fun c o h n => by
  obtain ⟨h1, h2, e⟩ := wo_some h
  rw [wo_ne h1 h2]
  exact x _ _ e n
theorem extN_kpD {CR : Addr} {H H' : Hp} (x : ExtN H H') : KpD CR H H' := fun b o e k => x b o e fun ps z => by
  subst z
  rcases k with ⟨_, z⟩ | ⟨_, z⟩ | ⟨_, _, z⟩ <;> cases z
theorem RdAt.extN {CD CS CR C : Addr} {H H' : Hp} {r st dn un g p : Addr} {L B : List Nat} {places : List (List Nat)} {ms : List Mv} {es : Fil} {done undone : List (List Nat × Mem)} {n : Nat} (x : ExtN H H') (h : RdAt CD CS CR C H r st dn un g p L B places ms es done undone n) : RdAt CD CS CR C H' r st dn un g p L B places ms es done undone n := by
  obtain ⟨dx, xs, ys, h1, h2, h3, h4, h5⟩ := h.ob
  exact ⟨⟨dx, xs, ys, x _ _ h1 (by intro _ z; cases z), x _ _ h2 (by intro _ z; cases z), Paired.mono (fun _ _ z => z.keepD (extN_kpD x)) h3, x _ _ h4 (by intro _ z; cases z), Paired.mono (fun _ _ z => z.keepD (extN_kpD x)) h5⟩, h.sw.extN (wo_extN x), h.ne⟩
/-! what stays when the reader's own lists change -/
/-- a place where none of l stands -/
def Off (l : List Addr) (H : Hp) (b : Addr) : Prop := b ∉ l ∧ ∃ o, H b = some o
theorem MvAt.out {l : List Addr} {H H' : Hp} (x : Out l H H') {kv : List Key × V} {m : Mv} (h : MvAt H kv m) (n : ∀ e t d, kv.2 = .ref t → H t = some (.tup [e, .ref d]) → t ∉ l ∧ d ∉ l) : MvAt H' kv m := by
  obtain ⟨e, t, d, a, b, c⟩ := h
  obtain ⟨n1, n2⟩ := n _ t d a b
  exact ⟨e, t, d, a, x _ _ b n1, x _ _ c n2⟩
end Tb

set_option Elab.async false
set_option linter.all false
set_option maxRecDepth 100000
set_option maxHeartbeats 4000000
/-! a == b of two dicts whose keys are tuples, equal -/
namespace PySem.W
open PySem PySem.Calls PyProof.Rows PyProof.V PySem.Spec
open PySem.SeqAt (EqIn EqAt rcIn_lists rcIn_tuples)
section
variable {prog : Program} {w : World} {K : Type} [DecidableEq K] {knd : HeapKind prog w K} {A : Around} {E : Value → Shared → Prop} {s : Shared}
theorem keqH_samePairs {nm : String} {a b : Addr} {ka kb : List (K × Addr × Value)} {Q : Bool → Shared → Prop} (hu : knd.room A) (ha : (a == sysModules) = false) (hb : (b == sysModules) = false)
    (da : s.heap.DictOfH knd a ka) (db : s.heap.DictOfH knd b kb) (hl : ka.length = kb.length) (hits : ∀ x ∈ ka, ∃ q : Addr × Value, (x.1, q) ∈ kb ∧ EqIn prog w A s x.2.2 q.2 true) (h : Q true s) :
    wpAny (model prog w) A (Builtin.Dict.samePairs nm a b) Q E s := by
  obtain ⟨oa, es, ep, hoa, _, hda, hea, hia, hna⟩ := da
  obtain ⟨ob, es', ep', hob, _, hdb, heb, hib, hnb⟩ := db
  have hla : es.size = ka.length := size_of_entries hea
  have hlb : es'.size = kb.length := size_of_entries heb
  unfold Builtin.Dict.samePairs Builtin.Dict.showsAll
  rw [if_neg (show ¬ (a == sysModules) = true by rw [ha]; exact Bool.false_ne_true), if_neg (show ¬ (b == sysModules) = true by rw [hb]; exact Bool.false_ne_true)]
  refine wpAny_bind (wpAny_pure (wpAny_bind (wpAny_pure ?_)))
  refine wpAny_bind (wpAny_dictEntries hoa hda ?_)
  dsimp only
  refine wpAny_bind (wpAny_dictEntries hob hdb ?_)
  have hsz : es.size = es'.size := by rw [hla, hlb, hl]
  rw [if_neg (by rw [hsz]; simp)]
  refine wpAny_bind (wpAny_dictEpoch hoa hda ?_)
  refine wpAny_bind ?_
  rw [Std.Legacy.Range.forIn_eq_forIn_range']
  simp only [Std.Legacy.Range.size, Nat.sub_zero, Nat.add_sub_cancel, Nat.div_one]
  refine wpAny_forIn_list _
    (fun rest q s' => s' = s ∧ q = (none, ()) ∧ ∃ i, rest = List.range' i (es.size - i) ∧ i ≤ es.size)
    _ ?_ ?_ _ _ ⟨rfl, rfl, 0, by simp, Nat.zero_le _⟩
  · rintro x rest q s' ⟨rfl, rfl, i, hr, hi⟩
    have hlt : i < es.size := by
      rcases Nat.lt_or_ge i es.size with h | h
      · exact h
      · rw [Nat.sub_eq_zero_of_le h] at hr; simp at hr
    obtain ⟨rfl, hrest⟩ : x = i ∧ rest = List.range' (i + 1) (es.size - (i + 1)) := by
      have e : es.size - i = (es.size - (i + 1)) + 1 := by omega
      rw [e, List.range'_succ] at hr
      injection hr with h1 h2
      exact ⟨h1, h2⟩
    refine wpAny_bind (wpAny_dictEntries hoa hda ?_)
    have hlt' : x < ka.length := by rw [← hla]; exact hlt
    rw [entry_at hea x, List.getElem?_eq_getElem hlt']
    obtain ⟨k, p, hkv⟩ : ∃ k p, ka[x] = (k, p) := ⟨_, _, rfl⟩
    have hmem : (k, p) ∈ ka := by rw [← hkv]; exact List.getElem_mem hlt'
    rw [hkv]
    obtain ⟨q, hq, heq⟩ := hits _ hmem
    obtain ⟨j, hj⟩ := List.mem_iff_getElem?.mp hq
    show wpAny _ _ (holding [(entryOfKey knd (k, p)).key, (entryOfKey knd (k, p)).val] _ >>= _) _ _ _
    refine wpAny_bind (wpAny_holding (wpAny_bind (wpAny_dictFind_heap (k := k) hu (hia _ hmem) hob hdb heb hib hnb (fun hno => absurd hj (hno j q)) fun j' p' hj' => ?_)))
    have hep : p' = q := by
      have e1 : j' = j := idxH_unique hnb hj' hj
      rw [e1, hj] at hj'
      injection hj' with hj'
      injection hj' with _ e2
      exact e2.symm
    subst hep
    refine wpAny_bind (wpAny_dictEntries hob hdb ?_)
    rw [entry_at heb j', hj']
    refine wpAny_holding (heq _ _ ?_)
    show wpAny _ _ (if (!true) = true then _ else _) _ _ _
    rw [if_neg (by decide)]
    refine wpAny_bind (wpAny_dictEpoch hoa hda ?_)
    rw [if_neg (by simp)]
    exact wpAny_pure ⟨rfl, rfl, x + 1, hrest, hlt⟩
  · rintro q s' ⟨rfl, rfl, i, hr, hi⟩
    exact wpAny_pure h
theorem keqH_eq {a b : Addr} {ka kb : List (K × Addr × Value)} {Q : Value → Shared → Prop} (hr : knd.room A.in1) (ha : (a == sysModules) = false) (hb : (b == sysModules) = false)
    (da : s.heap.DictOfH knd a ka) (db : s.heap.DictOfH knd b kb) (hu : A.units < cLine) (hl : ka.length = kb.length) (hits : ∀ x ∈ ka, ∃ q : Addr × Value, (x.1, q) ∈ kb ∧ EqIn prog w A.in1 s x.2.2 q.2 true) (h : Q (.bool true) s) :
    wpAny (model prog w) A (compareOp .Eq (.ref a) (.ref b)) Q E s := by
  refine wpAny_richCompare_same_room (op := .Eq) da.typeIs db.typeIs PySem.F.slot_dict_eq (wpAny_call_entry PySem.F.slot_dict_eq da.typeIs PySem.F.entry_dict_eq ?_ (PySem.F.args_dict_eq_2 _ _)) hu
  show wpAny _ _ (Builtin.Dict.dictSlotArgs "__eq__" ⟨[.ref a, .ref b], []⟩ >>= _) _ _ s
  refine wpAny_bind ?_
  unfold Builtin.Dict.dictSlotArgs
  refine wpAny_bind (wpAny_notOrdered_dict da.typeIs ?_)
  show wpAny _ _ (pure (Value.ref a, Value.ref b)) _ _ s
  refine wpAny_pure ?_
  refine wpAny_bind (wpAny_isInstance (T := "dict") db.typeIs PySem.F.sub_dict_dict ?_)
  simp only [Bool.not_true, Bool.false_eq_true, if_false]
  refine wpAny_bind (wpAny_pure (wpAny_bind (wpAny_pure ?_)))
  refine wpAny_bind (keqH_samePairs hr ha hb da db hl hits ?_)
  refine wpAny_pure ⟨_, rfl, ?_, ?_⟩
  · exact fun x => nomatch x
  · simpa using h
end
end PySem.W
namespace Tb
open PySem PySem.Spec PyProof.Rows L2
theorem atKey_mem {κ : Type} [DecidableEq κ] {xs : List (κ × Addr × Value)} {k : κ} {p : Addr × Value} (h : atKey xs k = some p) : (k, p) ∈ xs := by
  unfold atKey at h
  obtain ⟨x, hx, rfl⟩ := Option.map_eq_some_iff.mp h
  have h1 := List.find?_some hx
  have h2 := List.mem_of_find?_eq_some hx
  obtain ⟨k', p'⟩ := x
  have e : k' = k := by simpa using h1
  rw [← e]
  exact h2
section
variable {X : Cx} {pins : List (Addr × Obj)} {σ : L2.St} {H : Hp} {s : Shared}
/-- a == b, two dicts whose keys are tuples, equal -/
def rEqDT : R2 := fun x y H Q => ∃ a b ks ls n, x = .ref a ∧ y = .ref b ∧ H a = some (.dT ks) ∧ H b = some (.dT ls) ∧ n ≤ 50 ∧ ks.length = ls.length ∧ (∀ p ∈ ks, ∃ y, valV ls p.1 = some y ∧ DEq H n p.2 y) ∧ Q (.bl true) H
theorem op_eqDT (hu : X.A.units + 64 < cLine) : OpR X (compareOp .Eq) rEqDT := by
  intro pins s σ H x y v u Q I rx ry h
  obtain ⟨a, b, ks, ls, n, rfl, rfl, ha, hb, hn, hl, t, q⟩ := h
  obtain rfl : v = Value.ref a := rx
  obtain rfl : u = Value.ref b := ry
  obtain ⟨za, sa, xa, ra, da⟩ := dt_of I.hok ha
  obtain ⟨zb, sb, xb, rb, db⟩ := dt_of I.hok hb
  have la : ks.length = xa.length := Paired.length ra
  have lb : ls.length = xb.length := Paired.length rb
  refine PySem.W.keqH_eq (tupleKind_room_in1 (by omega)) sa sb da db (by omega) (by rw [← la, ← lb, hl]) (fun z hz => ?_) (fin_bl I q rfl)
  obtain ⟨j, hj⟩ := List.mem_iff_getElem?.mp hz
  have hlt : j < ks.length := by rw [la]; exact (List.getElem?_eq_some_iff.mp hj).1
  obtain ⟨z', hz', h1, h2, h3⟩ := LiI.paired_get (show Paired _ ks xa from ra) (List.getElem?_eq_getElem hlt)
  rw [hj] at hz'
  obtain rfl := Option.some.inj hz'
  obtain ⟨y, hy, hd⟩ := t ks[j] (List.getElem_mem hlt)
  have rr : RelO (some y) ((atKey xb ks[j].1).map (·.2)) := by rw [← hy]; exact rb.val _
  obtain ⟨w', hw, rw'⟩ := rr.some_of
  obtain ⟨p, hp, hp2⟩ := Option.map_eq_some_iff.mp hw
  subst hp2
  refine ⟨p, by rw [← h1]; exact atKey_mem hp, ?_⟩
  exact (hd.tree I h3 rw').at X.A.in1 (by show X.A.units + 1 + n < cLine; omega)
end
end Tb

set_option Elab.async false
set_option linter.all false
set_option maxRecDepth 100000
set_option maxHeartbeats 4000000
namespace Tb
open PySem PySem.Spec PyProof.Rows L2 TL
section
variable {P : Program} {w : World} {K : PySem.W.Frag} {mg : Str → Option Value} {base : Heap}
/-! ### Program.__eq__ of two programs that are alike, their dicts in any order -/
theorem valV_of_mem {κ : Type} [DecidableEq κ] : ∀ {kvs : List (κ × V)}, (kvs.map (·.1)).Nodup → ∀ {p : κ × V}, p ∈ kvs → valV kvs p.1 = some p.2
  | q :: r, nd, p, h => by
    rw [List.map_cons, List.nodup_cons] at nd
    rcases List.mem_cons.mp h with e | e
    · rw [e]
      exact valV_pos rfl
    · rw [valV_neg fun z => nd.1 (by rw [z]; exact List.mem_map.mpr ⟨p, e, rfl⟩)]
      exact valV_of_mem nd.2 e
theorem paired_mem {α β : Type} {F : α → β → Prop} : ∀ {l : List α} {m : List β}, Paired F l m → ∀ {x : α}, x ∈ l → ∃ y ∈ m, F x y
  | _, _, .cons h t, x, hx => by
    rcases List.mem_cons.mp hx with e | e
    · exact ⟨_, List.mem_cons_self, by rw [e]; exact h⟩
    · obtain ⟨y, hy, f⟩ := paired_mem t e
      exact ⟨y, List.mem_cons_of_mem _ hy, f⟩
theorem paired_mem' {α β : Type} {F : α → β → Prop} : ∀ {l : List α} {m : List β}, Paired F l m → ∀ {y : β}, y ∈ m → ∃ x ∈ l, F x y
  | _, _, .cons h t, y, hy => by
    rcases List.mem_cons.mp hy with e | e
    · exact ⟨_, List.mem_cons_self, by rw [e]; exact h⟩
    · obtain ⟨x, hx, f⟩ := paired_mem' t e
      exact ⟨x, List.mem_cons_of_mem _ hx, f⟩
def PrEq (C : Addr) (a b : Addr) (H : Hp) : Prop := ∃ L B places ms ms' es es', PrAt C H a L B places ms es ∧ PrAt C H b L B places ms' es' ∧ ms.Perm ms' ∧ (ms.map Mv.key).Nodup ∧ (∀ m ∈ ms, (m.fl.map (·.1)).Nodup) ∧ es.Perm es' ∧ (es.map (·.1)).Nodup
/-- the class's words for isinstance -/
structure PrIs (K : PySem.W.Frag) (C : Addr) : Prop where
  ha : PySem.W.findIn K (.ref C) "__class__" = some (some (.builtin "object.__class__"))
  hn : PySem.W.specialIn K (.builtin "object.__class__") "__get__" = some (some (.builtin "getset_descriptor.__get__"))
  htk : PySem.W.takesIn K (.builtin "object.__class__") = some true
  hm : PySem.W.mroIn K C (.type "object") = some true
theorem kitOne_self {K : PySem.W.Frag} {C : Addr} : PySem.W.kitOne K (.ref C) (.ref C) = some true := by
  unfold PySem.W.kitOne
  rw [if_pos (by simp)]
theorem fkv_nd {fl : Fil} (h : (fl.map (·.1)).Nodup) : ((fkv fl).map (·.1)).Nodup := by
  unfold fkv
  rw [List.map_map]
  have : ((fun x : Key × V => x.1) ∘ fun q : List Nat × List Nat => ((Sum.inr (S q.1) : Key), V.str (S q.2))) = (fun c : List Nat => (Sum.inr (S c) : Key)) ∘ fun q : List Nat × List Nat => q.1 := rfl
  rw [this, ← List.map_map]
  exact List.Pairwise.map _ (fun a b hab z => hab (key_S.mp z)) h
theorem fkv_flat {fl : Fil} {p : Key × V} (h : p ∈ fkv fl) : flatB p.2 = true := by
  unfold fkv at h
  obtain ⟨q, _, rfl⟩ := List.mem_map.mp h
  rfl
theorem mv_deq {H : Hp} {kv kv' : List Key × V} {m : Mv} (nd : (m.fl.map (·.1)).Nodup) (h : MvAt H kv m) (h' : MvAt H kv' m) : DEq H 2 kv.2 kv'.2 := by
  obtain ⟨e1, t1, d1, v1, t1h, d1h⟩ := h
  obtain ⟨e2, t2, d2, v2, t2h, d2h⟩ := h'
  rw [v1, v2]
  refine DEq.two (.inl t1h) (.inl t2h) (.flat rfl) (.dK (.inl d1h) (.inl d2h) rfl (fun p hp => ?_) fun p y hp hy => ?_)
  · rw [valV_of_mem (fkv_nd nd) hp]
    rfl
  · rw [valV_of_mem (fkv_nd nd) hp] at hy
    rw [← Option.some.inj hy]
    exact .flat (fkv_flat hp)
theorem scEq : FnScope ["self", "other"] ["self", "other"] (defScope sEq) := ⟨rfl, rfl, rfl, by decide +kernel, rfl, by decide +kernel, by decide +kernel⟩
theorem ok_eq {f C : Addr} {fd : FuncData} {k : Nat} (F : Fun K "__eq__" "Program.__eq__" sEq f fd) (T : PrTxt K mg C) (I : PrIs K C) (mi : mg "isinstance" = none) : FnOk P w K mg base CX0 (k + 1) f fd ["self", "other"] (spEq (PrEq C)) := by
  refine F.ok scEq (fun vs H Q E h => ?_) (fun cdv A outer s H vs Q E hr h => ?_)
  · obtain ⟨a, b, rfl, _⟩ := h
    rfl
  · obtain ⟨a, b, rfl, ⟨L, B, places, ms, ms', es, es', pa, pb, pm, nk, nf, pe, ne⟩, q⟩ := h
    obtain ⟨dx, pl, mv, en, kk, h1, h2, h3, h4, h5⟩ := pa.ob
    obtain ⟨dx', pl', mv', en', kk', h1', h2', h3', h4', h5'⟩ := pb.ob
    have hu := hu_of hr
    have hu64 := hr.units
    refine ⟨_, pss_one (ps_ret (pe_and (pe_callB call_isi (by rfl) mi (by decide +kernel) (pa_cons (pv 1) (pa_cons (pe_glob (v := .ref C) (by rfl) T.mgC rfl) pa_nil))) (pe_and (pe_cmpR op_eq (pe_fld (pv 0) rfl) (pe_fld (pv 1) rfl) (nomark _)) (pe_and (pe_cmpR op_eq (pe_fld (pv 0) rfl) (pe_fld (pv 1) rfl) (nomark _)) (pe_and (pe_cmpR (op_eqT hu64) (pe_fld (pv 0) rfl) (pe_fld (pv 1) rfl) (nomark _)) (pe_and (pe_cmpR (op_eqDT hu64) (pe_fld (pv 0) rfl) (pe_fld (pv 1) rfl) (nomark _)) (pe_one (pe_cmpR (op_eqV hu64) (pe_fld (pv 0) rfl) (pe_fld (pv 1) rfl) (nomark _))))))))), ?_⟩
    refine ⟨_, rfl, _, .ref C, .ref C, .ref C, true, rfl, .own C, .base (.ins h1' T.cl I.ha I.hn I.htk I.hm), kitOne_self, true, rfl, iteT ?_⟩
    refine ⟨_, rfl, a, C, dx, _, _, rfl, h1, T.cl, T.nL, fl_l _ _ _ _ _, _, rfl, b, C, dx', _, _, rfl, h1', T.cl, T.nL, fl_l _ _ _ _ _, rfl, true, ?_, iteT ?_⟩
    · rw [decide_eq_true rfl]
    refine ⟨_, rfl, a, C, dx, _, _, rfl, h1, T.cl, T.nB, fl_b _ _ _ _ _, _, rfl, b, C, dx', _, _, rfl, h1', T.cl, T.nB, fl_b _ _ _ _ _, rfl, true, ?_, iteT ?_⟩
    · rw [decide_eq_true rfl]
    refine ⟨_, rfl, a, C, dx, _, _, rfl, h1, T.cl, T.nP, fl_p _ _ _ _ _, _, rfl, b, C, dx', _, _, rfl, h1', T.cl, T.nP, fl_p _ _ _ _ _, 1, pl, pl', txs places, txs places, rfl, rfl, .inl h2, .inl h2', by decide, rfl, ?_, true, rfl, iteT ?_⟩
    · intro j x y e1 e2
      rw [e1] at e2
      cases e2
      unfold txs at e1
      obtain ⟨c, _, rfl⟩ := List.mem_map.mp (List.mem_of_getElem? e1)
      exact .flat rfl
    refine ⟨_, rfl, a, C, dx, _, _, rfl, h1, T.cl, T.nM, fl_m _ _ _ _ _, _, rfl, b, C, dx', _, _, rfl, h1', T.cl, T.nM, fl_m _ _ _ _ _, mv, mv', kk, kk', 2, rfl, rfl, h3, h3', by decide, ?_, ?_, true, rfl, iteT ?_⟩
    · rw [Paired.length h4, Paired.length h4', pm.length_eq]
    · intro p hp
      obtain ⟨m, hm, f1⟩ := paired_mem h4 hp
      obtain ⟨p', hp', f2⟩ := paired_mem' h4' (pm.mem_iff.mp hm)
      have nd' : (kk'.map (·.1)).Nodup := by
        rw [keys_of h4']
        exact (pm.map Mv.key).nodup_iff.mp nk
      refine ⟨p'.2, ?_, mv_deq (nf m hm) f1 f2⟩
      rw [f1.1, ← f2.1]
      exact valV_of_mem nd' hp'
    refine ⟨_, rfl, a, C, dx, _, _, rfl, h1, T.cl, T.nE, fl_e _ _ _ _ _, _, rfl, b, C, dx', _, _, rfl, h1', T.cl, T.nE, fl_e _ _ _ _ _, 1, by decide, .inr ⟨en, en', fkv es, fkv es', rfl, rfl, h5, h5', ?_, ?_⟩, q H (fun _ _ e => e)⟩
    · unfold fkv
      rw [List.length_map, List.length_map, pe.length_eq]
    · intro p hp
      have hp2 : p ∈ fkv es' := by
        unfold fkv at hp ⊢
        exact (pe.map _).mem_iff.mp hp
      exact ⟨p.2, valV_of_mem (fkv_nd ((pe.map _).nodup_iff.mp ne)) hp2, .inl ⟨rfl, fkv_flat hp⟩⟩
end
section
variable {X : Cx} {C : Addr} {k j : Nat} {nm : Str} {sp : Sp} {o : Expr} {to : TE}
/-- the class's own ==, proved -/
structure EqM (P : Program) (w : World) (K : PySem.W.Frag) (mg : Str → Option Value) (base : Heap) (C : Addr) (k : Nat) (R : Addr → Addr → Hp → Prop) : Prop where
  ex : ∃ f fd, PySem.W.findIn K (.ref C) "__eq__" = some (some (.ref f)) ∧ PySem.W.isFn K (.ref f) = true ∧ FnOk P w K mg base CX0 k f fd ["self", "other"] (spEq R) ∧ Binds K fd ["self", "other"] []
theorem op_eqM {R : Addr → Addr → Hp → Prop} (D : EqM X.prog X.w X.K X.mg X.base C k R) (hr : Room j X.A) (hk : k ≤ j) : OpR X (compareOp .Eq) (rEqG (DIns C R)) := by
  obtain ⟨f, fd, hs, hf, F, b⟩ := D.ex
  exact op_eqG (rcG_ins F hs hf b pass0) (hr.mono hk)
end

end Tb

set_option Elab.async false
set_option linter.all false
set_option maxRecDepth 100000
set_option maxHeartbeats 8000000
namespace Tb
open PySem PySem.Spec PyProof.Rows L2 TL LamX
def spLawR (K : PySem.W.Frag) (TP : Addr) : Sp := fun vs H Q _ => ∃ (a : Addr) (ns : List Int), vs = [.ref a] ∧ SqL K H a (ns.map V.int) ∧ H TP = some (.tbl #[]) ∧ ∀ H', Q (.bl true) H'
abbrev tDo (K : PySem.W.Frag) (CD CS CR C ND : Addr) : XK → TE := fun E => tIf (fun σ H Q => tVar 12 σ H fun x H1 => ∃ k, TruV K x H1 k ∧ Q k H1) (tMeth CD "undo" (spUndo CD CS CR C ND) [] E (tVar 14) tNil) (tMeth CD "again" (spAgain CD CS CR C ND) [] E (tVar 14) tNil)
section
variable {P : Program} {w : World} {K : PySem.W.Frag} {mg : Str → Option Value} {base : Heap} {CD CS CR C NL ND : Addr}
theorem law_term {f g TP : Addr} {fd : FuncData} (T : RdTxt K mg CD CS CR C) (N : TriedAt K mg g NL ND) {c : Addr} {A : Around} {outer : List PySem.Env} {s : Shared} {H : Hp} {E : XK} (hG : (A.deeper (envOfC "law" (defScope sLawR) s.heap.objs.size f (.ref c))).guards = some []) (hr : Room 11 (A.deeper (envOfC "law" (defScope sLawR) s.heap.objs.size f (.ref c)))) (TBc : TabB base mg c TP)
    (DSrc : Df P w K mg base 1 "_law_source" ["_law_script"] (spSource K)) (DS : Df P w K mg base 3 "_law_signs" ["_law_source_here", "_law_signs_here", "_law_many"] spSigns) (DD : Df P w K mg base 1 "_law_draw" ["_law_source_here", "_law_many"] spDrawS)
    (DPg : Df P w K mg base 5 "_law_program" ["_law_source_here", "_law_letters", "_law_most_boxes", "_law_most_places"] spProgram) (DMd : Df P w K mg base 7 "_law_made" ["_law_parts"] (spMade C)) (MR : MkRd P w K mg base CD CS CR C 8)
    (DPk : Df P w K mg base 2 "_law_pick" ["_law_source_here", "_law_things"] (spPick K)) (DTx : Df P w K mg base 3 "_law_text" ["_law_source_here", "_law_letters", "_law_most"] spLText) (DLt : Df P w K mg base 3 "_law_told" ["_law_parts", "_law_text_here"] spLTold)
    (MU : MthX P w K mg base CD 9 "undo" [] (spUndo CD CS CR C ND)) (MA : MthX P w K mg base CD 9 "again" [] (spAgain CD CS CR C ND)) (ME : MthX P w K mg base CD 9 "read" ["text"] (spRead K CD CS CR C NL))
    (DN : Df P w K mg base 9 "_law_is_now" ["_law_reader", "_law_parts", "_law_text_here"] (spIsNow CD CS CR C)) (DE : EqM P w K mg base C 1 (PrEq C)) (DPr : Prp P w K mg base CD 1 "program" (getSp CD "_program")) (mr : mg "range" = none) (ml : mg "len" = none) (mI : mg "int" = none) (mi : mg "isinstance" = none) (ms : mg "str" = none) :
    ∃ t, PSs (cxOf CX0 P w K mg base nLawR "law" (defScope sLawR) f (.ref c) A outer s H E).nox (defBody sLawR) t := by
  exact ⟨_, (pss_cons (ps_set (i := 1) scLawR.nd rfl (.inl rfl) (pe_df DSrc hr (pa_cons (pv 0) pa_nil)))
       (pss_cons (ps_set (i := 2) scLawR.nd rfl (.inl rfl) (pe_df DS hr (pa_cons (pv 1) (pa_cons pe_str (pa_cons (pe_op op_add pe_int (pe_df DD hr (pa_cons (pv 1) (pa_cons pe_int pa_nil)))) pa_nil)))))
       (pss_cons (ps_set (i := 3) scLawR.nd rfl (.inl rfl) (pe_df DPg hr (pa_cons (pv 1) (pa_cons (pv 2) (pa_cons pe_int (pa_cons pe_int pa_nil))))))
       (pss_cons (ps_set (i := 14) scLawR.nd rfl (.inr rfl) (pe_reader MR hr T.mgC (pa_cons (pe_df DMd hr (pa_cons (pv 3) pa_nil)) pa_nil) T.neC))
       (pss_cons (ps_par (i := 4) (j := 5) rfl scLawR.nd rfl rfl (by decide) rfl rfl (pa_cons (pe_lstS (pa_cons pe_str pa_nil)) (pa_cons pe_int pa_nil)) (by rfl))
       (pss_cons (ps_for PassesOwn.never rfl (pi_range1 rfl mr (pa_cons (pe_op op_add pe_int (pe_df DD hr (pa_cons (pv 1) (pa_cons pe_int pa_nil)))) pa_nil)) (pg_name (i := 6) scLawR.nd rfl (.inl rfl))
       (pss_cons (ps_set (i := 7) scLawR.nd rfl (.inl rfl) (pe_df DD hr (pa_cons (pv 1) (pa_cons pe_int pa_nil))))
       (pss_cons (ps_if (pt_cmpR op_lt (pv 7) pe_int (nomark _))
       (pss_cons (ps_set (i := 12) scLawR.nd rfl (.inr rfl) (pe_cmpR op_eq (pv 7) pe_int (nomark _)))
       (pss_cons (ps_set (i := 8) scLawR.nd rfl (.inl rfl) (pe_ifExp (pt_truth (pv 12) (fun _ => rfl)) (pe_cmpR op_gt (pv 5) pe_int (nomark _)) (pe_cmpR op_lt (pe_op op_add (pv 5) pe_int) (pe_callB call_len_seq (by rfl) ml PySem.boot_len (pa_cons (pv 4) pa_nil)) (nomark _))))
       (pss_cons (ps_set (i := 5) scLawR.nd rfl (.inl rfl) (pe_op op_add (pv 5) (pe_op op_mul (pe_callTy call_int1 (by rfl) mI (by decide +kernel) (pa_cons (pv 8) pa_nil)) (pe_op op_sub pe_int (pe_op op_mul pe_int (pe_callTy call_int1 (by rfl) mI (by decide +kernel) (pa_cons (pv 12) pa_nil)))))))
       (pss_cons (ps_set (i := 9) scLawR.nd rfl (.inl rfl) (pe_ifExp (pt_truth (pv 8) (fun _ => rfl)) (pe_tupS (pa_cons pe_str (pa_cons (pe_df DLt hr (pa_cons (pv 3) (pa_cons (pe_ix ix_list (pv 4) (pv 5) (fun _ _ => rfl)) pa_nil))) pa_nil))) (pe_tupS (pa_cons pe_str (pa_cons pe_non pa_nil)))))
       (pss_one (ps_set (i := 10) scLawR.nd rfl (.inl rfl) (pe_tried (k := 8) (t := tDo K CD CS CR C ND) N (by rfl) hG TBc rfl rfl hr (lamS_by (by rfl)) rfl (fun _ _ _ _ _ => rfl) (fun A outer s H E f c' hr' => by exact pe_ifExp (pt_truth (pv 12) (fun _ => rfl)) (pe_mthX0 (E := E) MU T.cl hr' (passes_call (takes_of rfl rfl rfl rfl) fun _ _ _ _ h => h) (pv 14)) (pe_mthX0 (E := E) MA T.cl hr' (passes_call (takes_of rfl rfl rfl rfl) fun _ _ _ _ h => h) (pv 14))))))))))
       (pss_one (ps_if (pt_cmpR op_eq (pv 7) pe_int (nomark _))
       (pss_cons (ps_set (i := 11) scLawR.nd rfl (.inl rfl) (pe_df DPk hr (pa_cons (pv 1) (pa_cons (pe_lstS (pa_cons pe_str (pa_cons pe_str (pa_cons pe_non (pa_cons pe_int (pa_cons (pe_lstS (pa_cons pe_str pa_nil)) (pa_cons pe_str (pa_cons pe_bl pa_nil)))))))) pa_nil))))
       (pss_cons (ps_set (i := 13) scLawR.nd rfl (.inr rfl) (pe_ifExp (pt_val (pe_isStr (pv 11) mi (by rfl) ms (by rfl))) (pe_op op_add_str (pe_op op_add_str (pe_slice sl_str (pv 2) po_none (po_some pe_int)) (pv 11)) (pv 2)) (pv 11)))
       (pss_one (ps_par (i := 10) (j := 9) rfl scLawR.nd rfl rfl (by decide) rfl rfl (pa_cons (pe_tried (k := 8) N (by rfl) hG TBc rfl rfl hr (lamS_by (by rfl)) rfl (fun _ _ _ _ _ => rfl) (fun A outer s H E f c' hr' => by exact (pe_mthX (E := E) ME T.cl hr' (passes_call (takes_of rfl rfl rfl rfl) fun _ _ _ _ h => h) (pv 14) (pa_cons (pv 13) pa_nil)))) (pa_cons (pe_tupS (pa_cons pe_str (pa_cons (pe_callB (call_repr hG hr.units) (by rfl) N.mr PyProof.Rows.boot_repr (pa_cons (pv 11) pa_nil)) pa_nil))) pa_nil)) (by rfl)))))
       (pss_cons (ps_set (i := 15) scLawR.nd rfl (.inr rfl) (pe_df DTx hr (pa_cons (pv 1) (pa_cons (pv 2) (pa_cons (pe_ix ix_list (pe_lstS (pa_cons pe_int (pa_cons pe_int (pa_cons pe_int (pa_cons pe_int (pa_cons pe_int pa_nil)))))) (pe_df DD hr (pa_cons (pv 1) (pa_cons pe_int pa_nil))) (fun _ _ => rfl)) pa_nil)))))
       (pss_cons (ps_set (i := 4) scLawR.nd rfl (.inl rfl) (pe_op op_cat (pe_slice sl_listS (pv 4) po_none (po_some (pe_op op_add (pv 5) pe_int))) (pe_lstS (pa_cons (pe_op op_add_str (pe_ix ix_list (pv 4) (pv 5) (fun _ _ => rfl)) (pv 15)) pa_nil))))
       (pss_cons (ps_set (i := 5) scLawR.nd rfl (.inl rfl) (pe_op op_add (pv 5) pe_int))
       (pss_one (ps_par (i := 10) (j := 9) rfl scLawR.nd rfl rfl (by decide) rfl rfl (pa_cons (pe_tried (k := 8) N (by rfl) hG TBc rfl rfl hr (lamS_by (by rfl)) rfl (fun _ _ _ _ _ => rfl) (fun A outer s H E f c' hr' => by exact (pe_mthX (E := E) ME T.cl hr' (passes_call (takes_of rfl rfl rfl rfl) fun _ _ _ _ h => h) (pv 14) (pa_cons (pv 15) pa_nil)))) (pa_cons (pe_tupS (pa_cons pe_str (pa_cons (pe_df DLt hr (pa_cons (pv 3) (pa_cons (pe_ix ix_list (pv 4) (pv 5) (fun _ _ => rfl)) pa_nil))) pa_nil))) pa_nil)) (by rfl)))))))))
       (pss_one (ps_if (PW.pt (pw_or (pt_cmpR (op_neT hr.units) (pv 10) (pv 9) (nomark _)) (pw_or1 (pt_not (pt_truth (pe_df DN hr (pa_cons (pv 14) (pa_cons (pv 3) (pa_cons (pe_ix ix_list (pv 4) (pv 5) (fun _ _ => rfl)) pa_nil)))) (fun _ => rfl)))))) (pss_one (ps_ret pe_bl)) pss_nil)))))
       (pss_one (ps_ret (pe_cmpR (op_eqM DE hr (by omega)) (pe_prp DPr T.cl hr (pv 14)) (pe_df DMd hr (pa_cons (pv 3) pa_nil)) (nomark _))))))))))⟩
end
end Tb

set_option Elab.async false
set_option linter.all false
set_option maxRecDepth 100000
set_option maxHeartbeats 4000000
/-! what stays when lists change that are not the reader's own -/
namespace Tb
open PySem PySem.Spec PyProof.Rows L2 TL LamX
/-- a source's own value -/
def IntsO (o : HO) : Prop := ∃ g s c : Int, o = .lst [.int g, .int s, .int c]
/-- all but sources and tables stay -/
def Kpt (H H' : Hp) : Prop := ∀ b o, H b = some o → ¬ IntsO o → (∀ ps, o ≠ .tbl ps) → H' b = some o
theorem Kpt.but {H H' : Hp} {p : Addr} {n : Nat} (s : Src H p n) (x : But p H H') : Kpt H H' := fun b o h l _ => x b o h fun z => by
  obtain ⟨u, e, g, s, c, eu, _⟩ := s
  rw [z, e] at h
  exact l ⟨g, s, c, (Option.some.inj h).symm.trans eu⟩
theorem Kpt.extN {H H' : Hp} (x : ExtN H H') : Kpt H H' := fun b o h _ t => x b o h t
theorem txs_ni (l : List (List Nat)) : ¬ IntsO (.lst (txs l)) := by
  rintro ⟨g, s, c, z⟩
  have e := HO.lst.inj z
  cases l with
  | nil => cases e
  | cons a r => cases (List.cons.inj e).1
theorem deeds_ni {CR : Addr} {H : Hp} {B : List Nat} : ∀ {xs : List V} {q : List (List Nat × Mem)}, Paired (DeedV CR H B) xs q → ¬ IntsO (.lst xs)
  | _, _, .nil => by rintro ⟨g, s, c, z⟩; cases z
  | _, _, .cons ⟨a, w, e, _⟩ t => by
    rintro ⟨g, s, c, z⟩
    have e' := (List.cons.inj (HO.lst.inj z)).1
    rw [e] at e'
    cases e'
theorem MvAt.kpt {H H' : Hp} (x : Kpt H H') {kv : List Key × V} {m : Mv} (h : MvAt H kv m) : MvAt H' kv m := by
  obtain ⟨e, t, d, a, b, c⟩ := h
  exact ⟨e, t, d, a, x _ _ b (by first | exact txs_ni _ | (rintro ⟨_, _, _, z⟩; cases z)) (by intro _ z; cases z), x _ _ c (by first | exact txs_ni _ | (rintro ⟨_, _, _, z⟩; cases z)) (by intro _ z; cases z)⟩
theorem PrAt.kpt {C : Addr} {H H' : Hp} (x : Kpt H H') {p : Addr} {L B : List Nat} {places : List (List Nat)} {ms : List Mv} {es : Fil} (h : PrAt C H p L B places ms es) : PrAt C H' p L B places ms es := by
  obtain ⟨dx, pl, mv, en, kk, h1, h2, h3, h4, h5⟩ := h.ob
  exact ⟨dx, pl, mv, en, kk, x _ _ h1 (by first | exact txs_ni _ | (rintro ⟨_, _, _, z⟩; cases z)) (by intro _ z; cases z), x _ _ h2 (by first | exact txs_ni _ | (rintro ⟨_, _, _, z⟩; cases z)) (by intro _ z; cases z), x _ _ h3 (by first | exact txs_ni _ | (rintro ⟨_, _, _, z⟩; cases z)) (by intro _ z; cases z), Paired.mono (fun _ _ z => z.kpt x) h4, x _ _ h5 (by first | exact txs_ni _ | (rintro ⟨_, _, _, z⟩; cases z)) (by intro _ z; cases z)⟩
theorem PrNe.kpt {C : Addr} {H H' : Hp} {p g : Addr} {L B : List Nat} {places : List (List Nat)} {ms : List Mv} {es : Fil} (x : Kpt H H') (h : PrNe C H p g L B places ms es) : PrNe C H' p g L B places ms es := by
  obtain ⟨dx, pl, mv, en, kk, h1, h2, h3, h4, h5, h6⟩ := h.ob
  exact ⟨dx, pl, mv, en, kk, x _ _ h1 (by first | exact txs_ni _ | (rintro ⟨_, _, _, z⟩; cases z)) (by intro _ z; cases z), x _ _ h2 (by first | exact txs_ni _ | (rintro ⟨_, _, _, z⟩; cases z)) (by intro _ z; cases z), x _ _ h3 (by first | exact txs_ni _ | (rintro ⟨_, _, _, z⟩; cases z)) (by intro _ z; cases z), Paired.mono (fun _ _ z => z.kpt x) h4, x _ _ h5 (by first | exact txs_ni _ | (rintro ⟨_, _, _, z⟩; cases z)) (by intro _ z; cases z), h6⟩
theorem CacheS.kpt {H H' : Hp} (x : Kpt H H') {ms : List Mv} {B c : List Nat} {a : Nat} {v : V} (h : CacheS H ms B c a v) : CacheS H' ms B c a v := by
  unfold CacheS at *
  cases e : findM ms c a with
  | none =>
    rw [e] at h
    exact h
  | some m =>
    rw [e] at h
    obtain ⟨t, d, kv, e1, h1, h2, h3⟩ := h
    exact ⟨t, d, kv, e1, x _ _ h1 (by first | exact txs_ni _ | (rintro ⟨_, _, _, z⟩; cases z)) (by intro _ z; cases z), x _ _ h2 (by first | exact txs_ni _ | (rintro ⟨_, _, _, z⟩; cases z)) (by intro _ z; cases z), Paired.mono (fun _ _ ⟨e, a, e2, h⟩ => ⟨e, a, e2, x _ _ h (by first | exact txs_ni _ | (rintro ⟨_, _, _, z⟩; cases z)) (by intro _ z; cases z)⟩) h3⟩
theorem StAt.kpt {CS C : Addr} {H H' : Hp} {s p g : Addr} {L B : List Nat} {places : List (List Nat)} {ms : List Mv} {es : Fil} {n : Nat} (x : Kpt H H') (h : StAt CS C H s p g L B places ms es n) : StAt CS C H' s p g L B places ms es n := by
  obtain ⟨dx, kvs, h1, h2, h3, h4, h5⟩ := h.ob
  exact ⟨dx, kvs, x _ _ h1 (by first | exact txs_ni _ | (rintro ⟨_, _, _, z⟩; cases z)) (by intro _ z; cases z), h2.kpt x, x _ _ h3 (by first | exact txs_ni _ | (rintro ⟨_, _, _, z⟩; cases z)) (by intro _ z; cases z), h4, fun c a v e => (h5 c a v e).kpt x⟩
theorem wo_kpt {H H' : Hp} {a b : Addr} (x : Kpt H H') : Kpt (wo H a b) (wo H' a b) := fun c o h n n2 => by
  obtain ⟨h1, h2, e⟩ := wo_some h
  rw [wo_ne h1 h2]
  exact x _ _ e n n2
theorem kpt_kpD {CR : Addr} {H H' : Hp} (x : Kpt H H') : KpD CR H H' := fun b o e k => x b o e (fun ⟨_, _, _, z⟩ => by
  subst z
  rcases k with ⟨_, z⟩ | ⟨_, z⟩ | ⟨_, _, z⟩ <;> cases z) fun ps z => by
  subst z
  rcases k with ⟨_, z⟩ | ⟨_, z⟩ | ⟨_, _, z⟩ <;> cases z
theorem RdAt.kpt {CD CS CR C : Addr} {H H' : Hp} {r st dn un g p : Addr} {L B : List Nat} {places : List (List Nat)} {ms : List Mv} {es : Fil} {done undone : List (List Nat × Mem)} {n : Nat} (x : Kpt H H') (h : RdAt CD CS CR C H r st dn un g p L B places ms es done undone n) : RdAt CD CS CR C H' r st dn un g p L B places ms es done undone n := by
  obtain ⟨dx, xs, ys, h1, h2, h3, h4, h5⟩ := h.ob
  exact ⟨⟨dx, xs, ys, x _ _ h1 (by first | exact txs_ni _ | (rintro ⟨_, _, _, z⟩; cases z)) (by intro _ z; cases z), x _ _ h2 (deeds_ni h3) (by intro _ z; cases z), Paired.mono (fun _ _ z => z.keepD (kpt_kpD x)) h3, x _ _ h4 (deeds_ni h5) (by intro _ z; cases z), Paired.mono (fun _ _ z => z.keepD (kpt_kpD x)) h5⟩, h.sw.kpt (wo_kpt x), h.ne⟩
end Tb

set_option Elab.async false
set_option linter.all false
set_option maxRecDepth 100000
set_option maxHeartbeats 4000000
/-! the middle of a turn: what is known of the heap, and how it is carried -/
namespace Tb
open PySem PySem.Spec PyProof.Rows L2 TL LamX
theorem codeO_inj {c : Addr} {q : Str} {o : HO} (h : CodeO c q = o) : (∀ xs, o ≠ .lst xs) ∧ (∀ d x y, o ≠ .ins d x y) ∧ (∀ k, o ≠ .dT k) := by
  subst h
  exact ⟨fun _ z => (by unfold CodeO at z; cases z), fun _ _ _ z => (by unfold CodeO at z; cases z), fun _ z => (by unfold CodeO at z; cases z)⟩
/-- tables and code objects stay -/
theorem Tabs.keep {T : List (Addr × Str)} {H H' : Hp} (e : ∀ b o, H b = some o → (∀ xs, o ≠ .lst xs) → (∀ d x y, o ≠ .ins d x y) → (∀ k, o ≠ .dT k) → H' b = some o) (t : Tabs T H) : Tabs T H' := fun p hp => by
  obtain ⟨ps, h1, h2, h3⟩ := t p hp
  refine ⟨ps, e _ _ h1 (by intro _ z; cases z) (by intro _ _ _ z; cases z) (by intro _ z; cases z), h2, fun pos cv hc => ?_⟩
  obtain ⟨c, e1, e2⟩ := h3 pos cv hc
  obtain ⟨n1, n2, n3⟩ := codeO_inj (c := c) (q := p.2) rfl
  exact ⟨c, e1, e _ _ e2 n1 n2 n3⟩
/-- the middle of a turn -/
structure LMid (CD CS CR C : Addr) (Hb : Hp) (p TP r st dn un g pm M : Addr) (qn : Str) (L B pl0 : List Nat) (places : List (List Nat)) (ms : List Mv) (es : Fil) (done undone : List (List Nat × Mem)) (n sn : Nat) (mm : List (List Nat)) (H : Hp) : Prop where
  src : Src H p sn
  base : ∀ b o, Hb b = some o → b ≠ p → (∀ ps, o ≠ .tbl ps) → H b = some o
  out : ∀ b o, Hb b = some o → b ≠ p → (∀ ps, o ≠ .tbl ps) → b ∉ [r, dn, un, g]
  tab : Tabs [(TP, qn)] H
  rd : RdAt CD CS CR C H r st dn un g pm L B (pl0 :: places) ms es done undone n
  neM : M ∉ [r, dn, un, g]
  mo : H M = some (.lst (txs mm))
section
variable {CD CS CR C : Addr} {Hb H H' : Hp} {p TP r st dn un un' g pm M : Addr} {qn : Str} {L B pl0 : List Nat} {places : List (List Nat)} {ms : List Mv} {es : Fil} {done undone done' undone' : List (List Nat × Mem)} {n n' sn sn' : Nat} {mm : List (List Nat)}
theorem LMid.le (a : LMid CD CS CR C Hb p TP r st dn un g pm M qn L B pl0 places ms es done undone n sn mm H) (l : sn ≤ sn') : LMid CD CS CR C Hb p TP r st dn un g pm M qn L B pl0 places ms es done undone n sn' mm H :=
  ⟨a.src.le l, a.base, a.out, a.tab, a.rd, a.neM, a.mo⟩
/-- the source's object -/
theorem LMid.so (a : LMid CD CS CR C Hb p TP r st dn un g pm M qn L B pl0 places ms es done undone n sn mm H) : ∃ g s c : Int, H p = some (.lst [.int g, .int s, .int c]) := by
  obtain ⟨o, e, g, s, c, rfl, _⟩ := a.src
  exact ⟨g, s, c, e⟩
theorem LMid.neP (a : LMid CD CS CR C Hb p TP r st dn un g pm M qn L B pl0 places ms es done undone n sn mm H) {b : Addr} {o : HO} (e : H b = some o) (h : ¬ IntsO o) : b ≠ p := fun z => by
  obtain ⟨g, s, c, e2⟩ := a.so
  rw [z, e2] at e
  exact h ⟨g, s, c, (Option.some.inj e).symm⟩
theorem LMid.but (a : LMid CD CS CR C Hb p TP r st dn un g pm M qn L B pl0 places ms es done undone n sn mm H) (x : But p H H') (s : Src H' p sn') : LMid CD CS CR C Hb p TP r st dn un g pm M qn L B pl0 places ms es done undone n sn' mm H' := by
  refine ⟨s, fun b o e nb nt => x _ _ (a.base b o e nb nt) nb, a.out, Tabs.keep (fun b o e n1 _ _ => x _ _ e (a.neP e fun ⟨g, s, c, z⟩ => n1 _ z)) a.tab, a.rd.kpt (Kpt.but a.src x), a.neM, x _ _ a.mo (a.neP a.mo (txs_ni _))⟩
theorem LMid.extN (a : LMid CD CS CR C Hb p TP r st dn un g pm M qn L B pl0 places ms es done undone n sn mm H) (x : ExtN H H') (t : Tabs [(TP, qn)] H') : LMid CD CS CR C Hb p TP r st dn un g pm M qn L B pl0 places ms es done undone n sn mm H' :=
  ⟨a.src.extN x, fun b o e nb nt => x _ _ (a.base b o e nb nt) nt, a.out, t, a.rd.extN x, a.neM, x _ _ a.mo (by intro _ z; cases z)⟩
theorem LMid.same (a : LMid CD CS CR C Hb p TP r st dn un g pm M qn L B pl0 places ms es done undone n sn mm H) (x : Same H H') : LMid CD CS CR C Hb p TP r st dn un g pm M qn L B pl0 places ms es done undone n sn mm H' :=
  a.extN (same_extN x) (a.tab.ext x)
/-- the objects of the reader -/
theorem LMid.objs (a : LMid CD CS CR C Hb p TP r st dn un g pm M qn L B pl0 places ms es done undone n sn mm H) : ∀ b ∈ [r, dn, un, g], ∃ o, H b = some o ∧ ¬ IntsO o ∧ ((∃ xs, o = .lst xs) ∨ (∃ d x y, o = .ins d x y) ∨ ∃ k, o = .dT k) := by
  obtain ⟨dx, xs, ys, h1, h2, h3, h4, h5⟩ := a.rd.ob
  obtain ⟨dxs, kvs, _, _, h6, _⟩ := a.rd.sa.ob
  intro b hb
  simp only [List.mem_cons, List.not_mem_nil, or_false] at hb
  rcases hb with rfl | rfl | rfl | rfl
  · exact ⟨_, h1, (by rintro ⟨_, _, _, z⟩; cases z), .inr (.inl ⟨_, _, _, rfl⟩)⟩
  · exact ⟨_, h2, deeds_ni h3, .inl ⟨_, rfl⟩⟩
  · exact ⟨_, h4, deeds_ni h5, .inl ⟨_, rfl⟩⟩
  · exact ⟨_, h6, (by rintro ⟨_, _, _, z⟩; cases z), .inr (.inr ⟨_, rfl⟩)⟩
/-- the reader's own objects change -/
theorem LMid.outs (a : LMid CD CS CR C Hb p TP r st dn un g pm M qn L B pl0 places ms es done undone n sn mm H) (x : Out [r, dn, un, g] H H') (hu : un' = un ∨ H un' = none) (R : RdAt CD CS CR C H' r st dn un' g pm L B (pl0 :: places) ms es done' undone' n') : LMid CD CS CR C Hb p TP r st dn un' g pm M qn L B pl0 places ms es done' undone' n' sn mm H' := by
  have np : p ∉ [r, dn, un, g] := fun z => by
    obtain ⟨o, e, h, _⟩ := a.objs p z
    exact a.neP e h rfl
  have mem : ∀ {b : Addr} {o : HO}, H b = some o → b ∉ [r, dn, un, g] → b ∉ [r, dn, un', g] := fun {b o} e n z => by
    simp only [List.mem_cons, List.not_mem_nil, or_false, not_or] at n z
    rcases z with z | z | z | z
    · exact n.1 z
    · exact n.2.1 z
    · rcases hu with h | h
      · exact n.2.2.1 (z.trans h)
      · rw [z, h] at e
        cases e
    · exact n.2.2.2 z
  refine ⟨?_, fun b o e nb nt => x _ _ (a.base b o e nb nt) (a.out b o e nb nt), fun b o e nb nt => mem (a.base b o e nb nt) (a.out b o e nb nt), Tabs.keep (fun b o e n1 n2 n3 => x _ _ e fun z => ?_) a.tab, R, mem a.mo a.neM, x _ _ a.mo a.neM⟩
  · obtain ⟨o, e, s⟩ := a.src
    exact ⟨o, x _ _ e np, s⟩
  · obtain ⟨o', e', _, h⟩ := a.objs b z
    rw [e] at e'
    obtain rfl := Option.some.inj e'
    rcases h with ⟨_, h⟩ | ⟨_, _, _, h⟩ | ⟨_, h⟩
    · exact n1 _ h
    · exact n2 _ _ _ h
    · exact n3 _ h
/-- a new list of moments -/
theorem LMid.mom {mm' : List (List Nat)} {M' : Addr} (a : LMid CD CS CR C Hb p TP r st dn un g pm M qn L B pl0 places ms es done undone n sn mm H) (x : Same H H') (nM : H M' = none) (e : H' M' = some (.lst (txs mm'))) : LMid CD CS CR C Hb p TP r st dn un g pm M' qn L B pl0 places ms es done undone n sn mm' H' := by
  have b := a.same x
  refine ⟨b.src, b.base, b.out, b.tab, b.rd, fun z => ?_, e⟩
  obtain ⟨o, e', _⟩ := a.objs M' z
  rw [nM] at e'
  cases e'
end
end Tb

set_option Elab.async false
set_option linter.all false
set_option maxRecDepth 100000
set_option maxHeartbeats 4000000
/-! the moments -/
namespace Tb
open PySem PySem.Spec PyProof.Rows L2 TL LamX
theorem findM_isM {ms : List Mv} {c : List Nat} {a : Nat} {m : Mv} (h : findM ms c a = some m) : m ∈ ms := by
  unfold findM at h
  exact List.mem_of_find?_eq_some h
theorem run_tight {ms : List Mv} {B : List Nat} {es : Fil} (G : PgOk B ms es) : ∀ (t : List Nat) (s z : List Nat × Env), s.2.map (·.1) = B → runE ms B s t = some z → z.2.map (·.1) = B ∧ (z.2.map (·.2.length)).sum ≤ (s.2.map (·.2.length)).sum + t.length * (7 * B.length)
  | [], s, z, hk, h => by
    obtain rfl := Option.some.inj h
    exact ⟨hk, Nat.le_add_right _ _⟩
  | a :: r, s, z, hk, h => by
    have h' : (stepE ms B s a).bind (fun s' => runE ms B s' r) = some z := h
    unfold stepE at h'
    cases hf : findM ms s.1 a with
    | none =>
      rw [hf] at h'
      cases h'
    | some m =>
      rw [hf] at h'
      have h2 : runE ms B (m.to, nextE s.2 B m.fl) r = some z := h'
      obtain ⟨k, l⟩ := run_tight G r _ z (nextE_keys _ _ _) h2
      have l2 := step_tight G (findM_isM hf) hk
      refine ⟨k, ?_⟩
      rw [List.length_cons, Nat.succ_mul]
      have l3 : (z.2.map (·.2.length)).sum ≤ ((nextE s.2 B m.fl).map (·.2.length)).sum + r.length * (7 * B.length) := l
      omega
theorem now_sum {ms : List Mv} {B : List Nat} {es : Fil} (G : PgOk B ms es) (pl0 t : List Nat) : sumM (runE ms B (pl0, B.map fun b => (b, [])) t) ≤ t.length * (7 * B.length) := by
  cases h : runE ms B (pl0, B.map fun b => (b, [])) t with
  | none => exact Nat.zero_le _
  | some z =>
    have := (run_tight G t _ z (start_keys B) h).2
    rw [start_sum] at this
    show (z.2.map (·.2.length)).sum ≤ _
    omega
theorem runM_app (ms : List Mv) (B : List Nat) (z : List Nat × Env) (a b : List Nat) : runM ms B (runE ms B z a) b = runE ms B z (a ++ b) := by
  rw [runE_app]
  cases runE ms B z a <;> rfl
abbrev Deed := List Nat × Mem
/-- the moments of the law -/
def moms (all : List Deed) : List (List Nat) := (List.range (all.length + 1)).map fun j => textM (all.take j)
theorem moms_len (all : List Deed) : (moms all).length = all.length + 1 := by simp [moms]
theorem moms_at {all : List Deed} {j : Nat} (h : j ≤ all.length) : (moms all)[j]? = some (textM (all.take j)) := by
  unfold moms
  rw [List.getElem?_map, List.getElem?_range (by omega)]
  rfl
theorem textM_app (a b : List Deed) : textM (a ++ b) = textM a ++ textM b := by simp [textM]
theorem textM_one (t : List Nat) (m : Mem) : textM [(t, m)] = t := by simp [textM]
theorem textM_len {all : List Deed} (h : ∀ x ∈ all, x.1.length ≤ 12) : (textM all).length ≤ 12 * all.length := by
  induction all with
  | nil => exact Nat.le_refl _
  | cons a r ih =>
    have h1 := h a List.mem_cons_self
    have h2 := ih fun x hx => h x (List.mem_cons_of_mem _ hx)
    have : textM (a :: r) = a.1 ++ textM r := by simp [textM]
    rw [this, List.length_append, List.length_cons]
    omega
theorem textM_mem {all : List Deed} {P : Nat → Prop} (h : ∀ x ∈ all, ∀ c ∈ x.1, P c) : ∀ c ∈ textM all, P c := fun c hc => by
  unfold textM at hc
  obtain ⟨l, hl, hc2⟩ := List.mem_flatten.mp hc
  obtain ⟨x, hx, rfl⟩ := List.mem_map.mp hl
  exact h x hx c hc2
theorem take_take_le {α : Type} {l : List α} {i j : Nat} (h : i ≤ j) : (l.take j).take i = l.take i := by
  rw [List.take_take, Nat.min_eq_left h]
section
variable {all : List Deed} {k : Nat} {t : List Nat} {m : Mem}
theorem new_len (h : k ≤ all.length) : (all.take k ++ [(t, m)]).length = k + 1 := by
  rw [List.length_append, List.length_take, Nat.min_eq_left h]
  rfl
theorem new_take (h : k ≤ all.length) {j : Nat} (hj : j ≤ k) : (all.take k ++ [(t, m)]).take j = all.take j := by
  rw [List.take_append_of_le_length (by rw [List.length_take]; omega), take_take_le hj]
theorem new_whole (h : k ≤ all.length) : (all.take k ++ [(t, m)]).take (k + 1) = all.take k ++ [(t, m)] := by
  rw [List.take_of_length_le (by rw [new_len h]; exact Nat.le_refl _)]
theorem new_rest (h : k ≤ all.length) : (all.take k ++ [(t, m)]).drop (k + 1) = [] := by
  rw [List.drop_eq_nil_iff, new_len h]
  exact Nat.le_refl _
theorem moms_new (h : k ≤ all.length) : (moms all).take (k + 1) ++ [textM (all.take k) ++ t] = moms (all.take k ++ [(t, m)]) := by
  unfold moms
  rw [new_len h, ← List.map_take, List.take_range, Nat.min_eq_left (by omega), List.range_succ (n := k + 1), List.map_append]
  congr 1
  · refine List.map_congr_left fun j hj => ?_
    rw [new_take h (by have := List.mem_range.mp hj; omega)]
  · rw [List.map_cons, List.map_nil, new_whole h, textM_app, textM_one]
theorem new_now {ms : List Mv} {B pl0 : List Nat} (h : k ≤ all.length) (hm : m = runM ms B (nowM pl0 B (all.take k)) t) (old : ∀ j ≤ all.length, nowM pl0 B (all.take j) = runE ms B (pl0, B.map fun b => (b, [])) (textM (all.take j))) :
    ∀ j ≤ (all.take k ++ [(t, m)]).length, nowM pl0 B ((all.take k ++ [(t, m)]).take j) = runE ms B (pl0, B.map fun b => (b, [])) (textM ((all.take k ++ [(t, m)]).take j)) := fun j hj => by
  rw [new_len h] at hj
  by_cases hjk : j ≤ k
  · rw [new_take h hjk]
    exact old j (by omega)
  · obtain rfl : j = k + 1 := by omega
    rw [new_whole h, textM_app, textM_one]
    have : nowM pl0 B (all.take k ++ [(t, m)]) = m := by
      unfold nowM
      rw [List.getLast?_concat]
    rw [this, hm, old k h, runM_app]
end
/-- a step back -/
theorem back_done {all : List Deed} {k : Nat} (h : k + 1 ≤ all.length) : ∃ q, all.take (k + 1) = all.take k ++ [q] ∧ (all.drop k).reverse = (all.drop (k + 1)).reverse ++ [q] := by
  have lt : k < all.length := h
  refine ⟨all[k], ?_, ?_⟩
  · rw [List.take_add_one, List.getElem?_eq_getElem lt]
    rfl
  · rw [← List.reverse_cons, ← List.drop_eq_getElem_cons lt]
theorem now_last {pl0 B : List Nat} {l : List Deed} {q : Deed} : nowM pl0 B (l ++ [q]) = q.2 := by
  unfold nowM
  rw [List.getLast?_concat]
end Tb

set_option Elab.async false
set_option linter.all false
set_option maxRecDepth 100000
set_option maxHeartbeats 4000000
/-! what a turn's parts ask and tell -/
namespace Tb
open PySem PySem.Spec PyProof.Rows L2 TL LamX
theorem sw_asg {te : TE} {i : Nat} {u : TS} {D : Ends} {σ : L2.St} {H : Hp} (h : te σ H fun v H1 => u D (σ.set i (some v)) H1) : tSeq (tAsg te (gName i)) u D σ H := h
theorem sw_one {te : TE} {i : Nat} {D : Ends} {σ : L2.St} {H : Hp} (h : te σ H fun v H1 => D.nx (σ.set i (some v)) H1) : tAsg te (gName i) D σ H := h
theorem sw_if {tt : TT} {t u' u : TS} {D : Ends} {σ : L2.St} {H : Hp} (h : tt σ H fun b H1 => if b = true then t { D with nx := u D } σ H1 else u' { D with nx := u D } σ H1) : tSeq (tIfS tt t u') u D σ H := h
theorem sw_ifl {tt : TT} {t u' : TS} {D : Ends} {σ : L2.St} {H : Hp} (h : tt σ H fun b H1 => if b = true then t D σ H1 else u' D σ H1) : tIfS tt t u' D σ H := h
theorem sw_par {ta : TA} {i j : Nat} {D : Ends} {σ : L2.St} {H : Hp} (h : ta σ H fun vs H1 => ∃ v w, vs = [v, w] ∧ D.nx ((σ.set i (some v)).set j (some w)) H1) : tPar i j ta D σ H := h
theorem sw_no {A B : Prop} (h : B) : if false = true then A else B := by
  rw [if_neg Bool.false_ne_true]
  exact h
theorem sw_yes {A B : Prop} (h : A) : if true = true then A else B := by
  rw [if_pos rfl]
  exact h
theorem MvAt.kpt2 {H H' : Hp} (x : Kpt H H') {kv : List Key × V} {m : Mv} (h : MvAt H kv m) : MvAt H' kv m := h.kpt x
theorem PtAt.kpt {H H' : Hp} (x : Kpt H H') {L : Addr} {pt : Pt} (h : PtAt H L pt) : PtAt H' L pt := by
  obtain ⟨tp, tm, te, kvs, h1, h2, h3, h4, h5⟩ := h.ex
  exact ⟨tp, tm, te, kvs, x _ _ h1 (by rintro ⟨_, _, _, z⟩; cases z) (by intro _ z; cases z), x _ _ h2 (txs_ni _) (by intro _ z; cases z), x _ _ h3 (by rintro ⟨_, _, _, z⟩; cases z) (by intro _ z; cases z), Paired.mono (fun _ _ z => z.kpt x) h4, x _ _ h5 (by rintro ⟨_, _, _, z⟩; cases z) (by intro _ z; cases z)⟩
/-- what is fixed for the loop -/
structure LFix (Hb : Hp) (p L : Addr) (pt : Pt) (pl0 : List Nat) (pls : List (List Nat)) : Prop where
  sp : ∃ n, Src Hb p n
  pa : PtAt Hb L pt
  g : GoodP pt
  pl : pt.places = pl0 :: pls
section
variable {CD CS CR C ND NL : Addr} {K : PySem.W.Frag} {Hb H H' : Hp} {p TP r st dn un g pm M L : Addr} {qn : Str} {pl0 : List Nat} {pls : List (List Nat)} {pt : Pt} {done undone : List Deed} {n sn : Nat} {mm : List (List Nat)}
abbrev LMp (CD CS CR C : Addr) (Hb : Hp) (p TP r st dn un g pm M : Addr) (qn : Str) (pt : Pt) (pl0 : List Nat) (pls : List (List Nat)) (done undone : List Deed) (n sn : Nat) (mm : List (List Nat)) (H : Hp) : Prop :=
  LMid CD CS CR C Hb p TP r st dn un g pm M qn (sortN pt.letters) (sortN pt.boxes) pl0 pls (pt.moves.map keptM) pt.ends done undone n sn mm H
theorem LMid.ptAt (I : LMp CD CS CR C Hb p TP r st dn un g pm M qn pt pl0 pls done undone n sn mm H) (X : LFix Hb p L pt pl0 pls) : PtAt H L pt :=
  X.pa.kpt fun b o e l nt => I.base b o e (fun z => by
    obtain ⟨_, u, e2, g, s, c, eu, _⟩ := X.sp
    rw [z, e2] at e
    exact l ⟨g, s, c, (Option.some.inj e).symm.trans eu⟩) nt
theorem LMid.pre (I : LMp CD CS CR C Hb p TP r st dn un g pm M qn pt pl0 pls done undone n sn mm H) (G : GoodP pt) : RdPre CD CS CR C H r (sortN pt.boxes) pl0 done undone (pt.moves.map keptM) pt.ends := ⟨st, dn, un, g, pm, _, _, n, I.rd, G.pg⟩
abbrev tEnd (K : PySem.W.Frag) (CD CS CR C : Addr) : TT := tOr (tTest (tOp rNeT (tVar 10) (tVar 9))) (tNot fun σ H Q => tCall (spIsNow CD CS CR C) [] E0 (tCons (tVar 14) (tCons (tVar 3) (tCons (tOp (rIxL K) (tVar 4) (tVar 5)) tNil))) σ H fun x H' => ∃ k, TruV K x H' k ∧ Q k H')
/-- a turn's end: what was found is what was due, and the reader is where it should be -/
theorem fin_ok {D : Ends} {σ : L2.St} {F U : Addr} {k : Nat} {tag : Str} {v : V} {t : List Nat} (X : LFix Hb p L pt pl0 pls) (I : LMp CD CS CR C Hb p TP r st dn un g pm M qn pt pl0 pls done undone n sn mm H) (i10 : σ[10]? = some (some (.ref F))) (i9 : σ[9]? = some (some (.ref U))) (i14 : σ[14]? = some (some (.ref r))) (i3 : σ[3]? = some (some (.ref L))) (i4 : σ[4]? = some (some (.ref M))) (i5 : σ[5]? = some (some (.int (k : Nat))))
    (eF : H F = some (.tup [.str tag, v])) (eU : H U = some (.tup [.str tag, v])) (hv : flatB v = true) (mk : mm[k]? = some t) (few : done.length ≤ 1000) (tx : textM done = t) (short : t.length ≤ 300) (now : nowM pl0 (sortN pt.boxes) done = runE (pt.moves.map keptM) (sortN pt.boxes) (pl0, (sortN pt.boxes).map fun b => (b, [])) t)
    (q : ∀ H', Same H H' → D.nx σ H') : tIfS (tEnd K CD CS CR C) (tRet (tC (.bl false))) tNext D σ H := by
  refine ⟨_, i10, _, i9, 1, F, U, _, _, rfl, rfl, .inl eF, .inl eU, by decide, rfl, fun j x y hx hy => ?_, false, rfl, sw_no ?_⟩
  · rw [hx] at hy
    obtain rfl := Option.some.inj hy
    match j, hx with
    | 0, rfl => exact .flat rfl
    | 1, rfl => exact .flat hv
    | j + 2, hx => simp at hx
  · refine ⟨_, i14, _, i3, _, i4, _, i5, M, txs mm, k, .str (S t), rfl, rfl, SqL.of I.mo, atI_nat (by unfold txs; rw [List.getElem?_map, mk]; rfl), ?_⟩
    refine ⟨r, L, t, pt, pl0, pls, done, undone, rfl, I.pre X.g, I.ptAt X, X.g, X.pl, few, short, tx, ?_, fun H' s => ⟨true, rfl, sw_no (q H' s)⟩⟩
    rw [now]
    exact runE_kept X.g.ones t _
/-- what the law tells at a moment -/
theorem due_ok {σ : L2.St} {Q : VK} {k : Nat} {t : List Nat} (X : LFix Hb p L pt pl0 pls) (I : LMp CD CS CR C Hb p TP r st dn un g pm M qn pt pl0 pls done undone n sn mm H) (i3 : σ[3]? = some (some (.ref L))) (i4 : σ[4]? = some (some (.ref M))) (i5 : σ[5]? = some (some (.int (k : Nat)))) (mk : mm[k]? = some t) (short : t.length ≤ 300)
    (q : ∀ U H', Same H H' → H' U = some (.tup [.str "told", optV (tellM pt.ends (runE (pt.moves.map keptM) (sortN pt.boxes) (pl0, (sortN pt.boxes).map fun b => (b, [])) t))]) → Q (.ref U) H') :
    tTupS (tCons (tC (.str "told")) (tCons (tCall spLTold [] E0 (tCons (tVar 3) (tCons (tOp (rIxL K) (tVar 4) (tVar 5)) tNil))) tNil)) σ H Q := by
  refine ⟨_, i3, _, i4, _, i5, M, txs mm, k, .str (S t), rfl, rfl, SqL.of I.mo, atI_nat (by unfold txs; rw [List.getElem?_map, mk]; rfl), ?_⟩
  refine ⟨L, t, pt, pl0, pls, rfl, I.ptAt X, X.pl, X.g.ndB, X.g.caps, X.g.b6, X.g.mvs, short, X.g.ends, fun H1 s1 => ?_⟩
  refine ⟨by show 2 ≤ sizeLine; decide, fun U H2 s2 _ e2 => q U H2 (s1.trans s2) ?_⟩
  rw [e2, runE_kept X.g.ones t (pl0, (sortN pt.boxes).map fun b => (b, [])), tell_told]
/-- a job tried -/
theorem job_ok {t : XK → TE} {σ : L2.St} {Q : VK} (I : LMp CD CS CR C Hb p TP r st dn un g pm M qn pt pl0 pls done undone n sn mm H) (h : ∀ H2, LMp CD CS CR C Hb p TP r st dn un g pm M qn pt pl0 pls done undone n sn mm H2 → ExtN H H2 → ∀ (E : XK) (R : VK),
      (∀ d H' x y, H' d = some (.xd [("letter", x)]) → RepV H' x y → (∀ T H'', Same H' H'' → H'' T = some (.tup [.str "sign", .str y]) → Q (.ref T) H'') → E (.ref NL) (some d) H') →
      (∀ H', (∀ T H'', Same H' H'' → H'' T = some (.tup [.str "deed", .non]) → Q (.ref T) H'') → E (.ref ND) none H') →
      (∀ v H', (∀ T H'', Same H' H'' → H'' T = some (.tup [.str "told", v]) → Q (.ref T) H'') → R v H') → t E σ H2 R) : tLam [(TP, qn)] (TTried NL ND) t σ H Q :=
  ⟨I.tab, fun H1 x tb H2 s E R a b c => h H2 ((I.extN x tb).same s) (x.trans (same_extN s)) E R a b c⟩
theorem LMid.notup (I : LMp CD CS CR C Hb p TP r st dn un g pm M qn pt pl0 pls done undone n sn mm H) {U : Addr} {xs : List V} (e : H U = some (.tup xs)) : U ∉ [r, dn, un, g] := fun z => by
  obtain ⟨o, e2, _, h⟩ := I.objs U z
  rw [e] at e2
  obtain rfl := Option.some.inj e2
  rcases h with ⟨_, h⟩ | ⟨_, _, _, h⟩ | ⟨_, h⟩ <;> cases h
theorem LMid.ref (I : LMp CD CS CR C Hb p TP r st dn un g pm M qn pt pl0 pls done undone n sn mm H) : ∃ dx, H r = some (.ins CD dx (rdF pm st dn un)) := by
  obtain ⟨dx, xs, ys, h1, _⟩ := I.rd.ob
  exact ⟨dx, h1⟩
end
end Tb

set_option Elab.async false
set_option linter.all false
set_option maxRecDepth 100000
set_option maxHeartbeats 4000000
/-! undo, again, read within a turn -/
namespace Tb
open PySem PySem.Spec PyProof.Rows L2 TL LamX
section
variable {CD CS CR C ND NL : Addr} {K : PySem.W.Frag} {Hb H H' : Hp} {p TP r st dn un g pm M L : Addr} {qn : Str} {pl0 : List Nat} {pls : List (List Nat)} {pt : Pt} {all : List Deed} {k n sn : Nat} {mm : List (List Nat)} {σ : L2.St} {E : XK} {R : VK}
theorem undo_none (I : LMp CD CS CR C Hb p TP r st dn un g pm M qn pt pl0 pls [] all n sn mm H) (G : GoodP pt) (few : all.length < 1000) (i14 : σ[14]? = some (some (.ref r))) (q : E (.ref ND) none H) : tMeth CD "undo" (spUndo CD CS CR C ND) [] E (tVar 14) tNil σ H R := by
  obtain ⟨dx, h1⟩ := I.ref
  exact ⟨_, i14, r, dx, _, rfl, h1, rd_no _ _ _ _ (by decide +kernel), r, st, dn, un, g, pm, _, _, pl0, pls, _, _, _, _, n, rfl, I.rd, G.pg, few, .inl ⟨rfl, q⟩⟩
theorem undo_ok (I : LMp CD CS CR C Hb p TP r st dn un g pm M qn pt pl0 pls (all.take (k + 1)) (all.drop (k + 1)).reverse n sn mm H) (G : GoodP pt) (few : all.length < 1000) (hk : k + 1 ≤ all.length) (i14 : σ[14]? = some (some (.ref r)))
    (q : ∀ H', Out [r, dn, un, g] H H' → LMp CD CS CR C Hb p TP r st dn un g pm M qn pt pl0 pls (all.take k) (all.drop k).reverse n sn mm H' → R (optV (tellM pt.ends (nowM pl0 (sortN pt.boxes) (all.take k)))) H') : tMeth CD "undo" (spUndo CD CS CR C ND) [] E (tVar 14) tNil σ H R := by
  obtain ⟨dx, h1⟩ := I.ref
  obtain ⟨q0, e1, e2⟩ := back_done hk
  refine ⟨_, i14, r, dx, _, rfl, h1, rd_no _ _ _ _ (by decide +kernel), r, st, dn, un, g, pm, _, _, pl0, pls, _, _, _, _, n, rfl, I.rd, G.pg, ?_, .inr ⟨all.take k, q0, e1, fun H' o R' => q H' o ?_⟩⟩
  · rw [List.length_reverse, List.length_drop]
    omega
  · rw [e2]
    exact I.outs o (.inl rfl) R'
theorem again_none (I : LMp CD CS CR C Hb p TP r st dn un g pm M qn pt pl0 pls all [] n sn mm H) (G : GoodP pt) (few : all.length < 1000) (i14 : σ[14]? = some (some (.ref r))) (q : E (.ref ND) none H) : tMeth CD "again" (spAgain CD CS CR C ND) [] E (tVar 14) tNil σ H R := by
  obtain ⟨dx, h1⟩ := I.ref
  exact ⟨_, i14, r, dx, _, rfl, h1, rd_no _ _ _ _ (by decide +kernel), r, st, dn, un, g, pm, _, _, pl0, pls, _, _, _, _, n, rfl, I.rd, G.pg, few, .inl ⟨rfl, q⟩⟩
theorem again_ok (I : LMp CD CS CR C Hb p TP r st dn un g pm M qn pt pl0 pls (all.take k) (all.drop k).reverse n sn mm H) (G : GoodP pt) (few : all.length < 1000) (hk : k + 1 ≤ all.length) (i14 : σ[14]? = some (some (.ref r)))
    (q : ∀ H', Out [r, dn, un, g] H H' → LMp CD CS CR C Hb p TP r st dn un g pm M qn pt pl0 pls (all.take (k + 1)) (all.drop (k + 1)).reverse n sn mm H' → R (optV (tellM pt.ends (nowM pl0 (sortN pt.boxes) (all.take (k + 1))))) H') : tMeth CD "again" (spAgain CD CS CR C ND) [] E (tVar 14) tNil σ H R := by
  obtain ⟨dx, h1⟩ := I.ref
  obtain ⟨q0, e1, e2⟩ := back_done hk
  refine ⟨_, i14, r, dx, _, rfl, h1, rd_no _ _ _ _ (by decide +kernel), r, st, dn, un, g, pm, _, _, pl0, pls, _, _, _, _, n, rfl, I.rd, G.pg, ?_, .inr ⟨(all.drop (k + 1)).reverse, q0, e2, fun H' o R' => ?_⟩⟩
  · rw [List.length_take]
    omega
  · have := q H' o (by rw [e1]; exact I.outs o (.inl rfl) R')
    rw [e1, now_last] at this
    exact this
theorem read_ok {t : List Nat} {i : Nat} (I : LMp CD CS CR C Hb p TP r st dn un g pm M qn pt pl0 pls (all.take k) (all.drop k).reverse n sn mm H) (G : GoodP pt) (few : all.length < 1000) (hk : k ≤ all.length) (i14 : σ[14]? = some (some (.ref r))) (it : σ[i]? = some (some (.str (S t)))) (lt : t.length ≤ 12) (hn : n < 10000) (ht : ∀ c ∈ t, c ∈ sortN pt.letters)
    (sum : sumM (nowM pl0 (sortN pt.boxes) (all.take k)) ≤ 100000)
    (q : ∀ un' H' m, m = runM (pt.moves.map keptM) (sortN pt.boxes) (nowM pl0 (sortN pt.boxes) (all.take k)) t → Out [r, dn, un, g] H H' → LMp CD CS CR C Hb p TP r st dn un' g pm M qn pt pl0 pls (all.take k ++ [(t, m)]) [] (n + t.length) sn mm H' → R (optV (tellM pt.ends m)) H') : tMeth CD "read" (spRead K CD CS CR C NL) [] E (tVar 14) (tCons (tVar i) tNil) σ H R := by
  obtain ⟨dx, h1⟩ := I.ref
  have lb : (sortN pt.boxes).length ≤ 6 := G.pg.lB
  have mul : t.length * (7 * (sortN pt.boxes).length) ≤ 12 * 42 := Nat.mul_le_mul lt (by omega)
  refine ⟨_, i14, r, dx, _, rfl, h1, rd_no _ _ _ _ (by decide +kernel), _, it, r, st, dn, un, g, pm, _, _, pl0, pls, _, _, _, _, n, I.rd, G.pg, .inl ⟨t, rfl, by omega, ?_, by omega, by omega, fun _ un' H' o nu R' => q un' H' _ rfl o (I.outs o (.inr nu) R'), fun u s v e _ no => absurd (ht s (by rw [e]; simp)) no⟩⟩
  rw [List.length_take]
  omega
theorem read_odd {x : V} {i : Nat} {done undone : List Deed} (I : LMp CD CS CR C Hb p TP r st dn un g pm M qn pt pl0 pls done undone n sn mm H) (G : GoodP pt) (few : done.length < 1000) (i14 : σ[14]? = some (some (.ref r))) (it : σ[i]? = some (some x)) (hx : Isi K H x "str" false) (q : NlX NL x H E) : tMeth CD "read" (spRead K CD CS CR C NL) [] E (tVar 14) (tCons (tVar i) tNil) σ H R := by
  obtain ⟨dx, h1⟩ := I.ref
  exact ⟨_, i14, r, dx, _, rfl, h1, rd_no _ _ _ _ (by decide +kernel), _, it, r, st, dn, un, g, pm, _, _, pl0, pls, _, _, _, _, n, I.rd, G.pg, .inr ⟨x, rfl, hx, q⟩⟩
theorem read_sign {a s : Nat} {b : List Nat} {i : Nat} {done undone : List Deed} (I : LMp CD CS CR C Hb p TP r st dn un g pm M qn pt pl0 pls done undone n sn mm H) (G : GoodP pt) (few : done.length < 1000) (i14 : σ[14]? = some (some (.ref r))) (it : σ[i]? = some (some (.str (S (a :: s :: b))))) (lb : b.length ≤ 10) (hn : n < 10000) (ha : a ∈ sortN pt.letters) (hs : s ∉ sortN pt.letters)
    (sum : sumM (nowM pl0 (sortN pt.boxes) done) ≤ 100000) (q : NlX NL (.str (S [s])) H E) : tMeth CD "read" (spRead K CD CS CR C NL) [] E (tVar 14) (tCons (tVar i) tNil) σ H R := by
  obtain ⟨dx, h1⟩ := I.ref
  have l2 : (a :: s :: b).length ≤ 12 := by simp; omega
  have l6 : (sortN pt.boxes).length ≤ 6 := G.pg.lB
  have mul : (a :: s :: b).length * (7 * (sortN pt.boxes).length) ≤ 12 * 42 := Nat.mul_le_mul l2 (by omega)
  refine ⟨_, i14, r, dx, _, rfl, h1, rd_no _ _ _ _ (by decide +kernel), _, it, r, st, dn, un, g, pm, _, _, pl0, pls, _, _, _, _, n, I.rd, G.pg, .inl ⟨a :: s :: b, rfl, by omega, few, by omega, by omega, fun z => absurd (z s (by simp)) hs, fun u y v e hu ny => ?_⟩⟩
  have : y = s := by
    cases u with
    | nil =>
      obtain ⟨e1, _⟩ := List.cons.inj e
      rw [e1] at ha
      exact absurd ha ny
    | cons a' u' =>
      obtain ⟨e1, e2⟩ := List.cons.inj e
      cases u' with
      | nil => exact (List.cons.inj e2).1.symm
      | cons s' u'' =>
        obtain ⟨e3, _⟩ := List.cons.inj e2
        exact absurd (hu s (by rw [e3]; simp)) hs
  rw [this]
  exact q
end
end Tb

set_option Elab.async false
set_option linter.all false
set_option maxRecDepth 100000
set_option maxHeartbeats 4000000
/-! the three ways of a turn -/
namespace Tb
open PySem PySem.Spec PyProof.Rows L2 TL LamX
/-- what is known of all deeds -/
structure LAll (ms : List Mv) (B pl0 L : List Nat) (all : List Deed) (i : Nat) : Prop where
  few : all.length ≤ i
  lim : i ≤ 16
  short : ∀ x ∈ all, x.1.length ≤ 12 ∧ ∀ c ∈ x.1, c ∈ L
  now : ∀ j ≤ all.length, nowM pl0 B (all.take j) = runE ms B (pl0, B.map fun b => (b, [])) (textM (all.take j))
theorem LAll.len {ms : List Mv} {B pl0 L : List Nat} {all : List Deed} {i : Nat} (A : LAll ms B pl0 L all i) (k : Nat) : (textM (all.take k)).length ≤ 192 := by
  have h1 := textM_len (all := all.take k) fun x hx => (A.short x (List.mem_of_mem_take hx)).1
  have h2 : (all.take k).length ≤ all.length := by rw [List.length_take]; omega
  have h3 := A.few
  have h4 := A.lim
  omega
abbrev rInt1 : List V → Hp → VK → Prop := fun xs H Q => (∃ i, xs = [.int i] ∧ Q (.int i) H) ∨ ∃ k, xs = [.bl k] ∧ Q (.int (if k then 1 else 0)) H
abbrev rLenS (K : PySem.W.Frag) : List V → Hp → VK → Prop := fun xs H Q => ∃ p ys, xs = [V.ref p] ∧ (SqL K H p ys ∨ SqT K H p ys) ∧ Q (V.int ys.length) H
abbrev tTru (K : PySem.W.Frag) (i : Nat) : TT := fun σ H Q => tVar i σ H fun x H' => ∃ k, TruV K x H' k ∧ Q k H'
abbrev tCan (K : PySem.W.Frag) : TE := tIf (tTru K 12) (tOp (rI0 fun i j => V.bl (decide (j < i))) (tVar 5) (tC (V.int 0))) (tOp (rI0 fun i j => V.bl (decide (i < j))) (tOp (rI0 fun i j => V.int (i + j)) (tVar 5) (tC (V.int 1))) (tCB (rLenS K) (tCons (tVar 4) tNil)))
abbrev tAt : TE := tOp (rI0 fun i j => V.int (i + j)) (tVar 5) (tOp (rI CMul fun i j => V.int (i * j)) (tCB rInt1 (tCons (tVar 8) tNil)) (tOp (rI0 fun i j => V.int (i - j)) (tC (V.int 1)) (tOp (rI CMul fun i j => V.int (i * j)) (tC (V.int 2)) (tCB rInt1 (tCons (tVar 12) tNil)))))
abbrev tTold (K : PySem.W.Frag) : TE := tTupS (tCons (tC (.str "told")) (tCons (tCall spLTold [] E0 (tCons (tVar 3) (tCons (tOp (rIxL K) (tVar 4) (tVar 5)) tNil))) tNil))
abbrev tDue (K : PySem.W.Frag) : TE := tIf (tTru K 8) (tTold K) (tTupS (tCons (tC (.str "deed")) (tCons (tC .non) tNil)))
section
variable {CD CS CR C ND NL : Addr} {K : PySem.W.Frag} {Hb H H' : Hp} {p TP r st dn un g pm M L : Addr} {qn : Str} {pl0 : List Nat} {pls : List (List Nat)} {pt : Pt} {all : List Deed} {k n sn i : Nat} {σ : L2.St} {Q : VK}
theorem can_ok {mm : List (List Nat)} {back can : Bool} (i12 : σ[12]? = some (some (.bl back))) (i5 : σ[5]? = some (some (.int (k : Nat)))) (i4 : σ[4]? = some (some (.ref M))) (hM : H M = some (.lst (txs mm))) (e : can = if back = true then decide (0 < k) else decide (k + 1 < mm.length)) (q : Q (.bl can) H) : tCan K σ H Q := by
  cases back with
  | true =>
    refine ⟨_, i12, true, rfl, sw_yes ⟨_, i5, _, _, rfl, rfl, ?_⟩⟩
    have : decide ((0 : Int) < (k : Nat)) = can := by
      rw [e, if_pos rfl]
      exact decide_eq_decide.mpr (by omega)
    show Q (.bl (decide ((0 : Int) < (k : Nat)))) H
    rw [this]
    exact q
  | false =>
    refine ⟨_, i12, false, rfl, sw_no ⟨_, i5, _, _, rfl, rfl, _, i4, M, _, rfl, .inl (SqL.of hM), _, _, rfl, rfl, ?_⟩⟩
    have : decide (((k : Nat) : Int) + 1 < ((txs mm).length : Nat)) = can := by
      rw [e, if_neg Bool.false_ne_true]
      exact decide_eq_decide.mpr (by unfold txs; rw [List.length_map]; omega)
    show Q (.bl (decide (((k : Nat) : Int) + 1 < ((txs mm).length : Nat)))) H
    rw [this]
    exact q
theorem at_ok {k' : Nat} {back can : Bool} (i12 : σ[12]? = some (some (.bl back))) (i8 : σ[8]? = some (some (.bl can))) (i5 : σ[5]? = some (some (.int (k : Nat)))) (e : ((k : Nat) : Int) + (if can = true then 1 else 0) * (1 - 2 * (if back = true then 1 else 0)) = (k' : Nat)) (q : Q (.int (k' : Nat)) H) : tAt σ H Q := by
  refine ⟨_, i5, _, i8, .inr ⟨_, rfl, _, i12, .inr ⟨_, rfl, _, _, rfl, rfl, ?_, _, _, rfl, rfl, _, _, rfl, rfl, ?_, _, _, rfl, rfl, ?_⟩⟩⟩
  · exact .inl (by decide)
  · cases can <;> exact .inl (by decide)
  · show Q (.int (((k : Nat) : Int) + (if can = true then 1 else 0) * (1 - 2 * (if back = true then 1 else 0)))) H
    rw [e]
    exact q
theorem flat_opt (o : Option (List Nat)) : flatB (optV o) = true := by cases o <;> rfl
/-- what was found and what was due -/
def Both (F U : Addr) (H : Hp) : Prop := ∃ (tag : Str) (v : V), H F = some (.tup [.str tag, v]) ∧ H U = some (.tup [.str tag, v]) ∧ flatB v = true
abbrev tA (K : PySem.W.Frag) (CD CS CR C ND NL TP : Addr) (qn : Str) : TS := tSeq (tAsg (tOp rEq (tVar 7) (tC (.int 0))) (gName 12)) (tSeq (tAsg (tCan K) (gName 8)) (tSeq (tAsg tAt (gName 5)) (tSeq (tAsg (tDue K) (gName 9)) (tAsg (tLam [(TP, qn)] (TTried NL ND) (tDo K CD CS CR C ND)) (gName 10)))))
theorem wayA_ok {D : Ends} {v0 v1 v2 v6 v8 v9 v10 v11 v12 v13 v15 : Option V} {wv : Int} {back : Bool} (X : LFix Hb p L pt pl0 pls) (A : LAll (pt.moves.map keptM) (sortN pt.boxes) pl0 (sortN pt.letters) all i) (hk : k ≤ all.length) (I : LMp CD CS CR C Hb p TP r st dn un g pm M qn pt pl0 pls (all.take k) (all.drop k).reverse n sn (moms all) H) (hb : decide (V.int wv = V.int 0) = back)
    (q : ∀ k' F U can H', k' ≤ all.length → LMp CD CS CR C Hb p TP r st dn un g pm M qn pt pl0 pls (all.take k') (all.drop k').reverse n sn (moms all) H' → Both F U H' → D.nx [v0, v1, v2, some (.ref L), some (.ref M), some (.int (k' : Nat)), v6, some (.int wv), some (.bl can), some (.ref U), some (.ref F), v11, some (.bl back), v13, some (.ref r), v15] H') :
    tA K CD CS CR C ND NL TP qn D [v0, v1, v2, some (.ref L), some (.ref M), some (.int (k : Nat)), v6, some (.int wv), v8, v9, v10, v11, v12, v13, some (.ref r), v15] H := by
  have few : all.length < 1000 := by have := A.few; have := A.lim; omega
  refine sw_asg ⟨_, rfl, rfl, ?_⟩
  rw [hb]
  have ml : (moms all).length = all.length + 1 := moms_len all
  -- what can be done
  obtain ⟨can, hcan⟩ : ∃ can, can = if back = true then decide (0 < k) else decide (k + 1 < (moms all).length) := ⟨_, rfl⟩
  refine sw_asg (σ := [v0, v1, v2, some (.ref L), some (.ref M), some (.int (k : Nat)), v6, some (.int wv), v8, v9, v10, v11, some (.bl back), v13, some (.ref r), v15]) (can_ok rfl rfl rfl I.mo hcan ?_)
  have due : ∀ {k' : Nat} {R : VK} {c : Bool}, k' ≤ all.length → c = true → (∀ U H1, Same H H1 → H1 U = some (.tup [.str "told", optV (tellM pt.ends (nowM pl0 (sortN pt.boxes) (all.take k')))]) → R (.ref U) H1) → tDue K [v0, v1, v2, some (.ref L), some (.ref M), some (.int (k' : Nat)), v6, some (.int wv), some (.bl c), v9, v10, v11, some (.bl back), v13, some (.ref r), v15] H R := by
    rintro k' R c hk' rfl q'
    refine ⟨_, rfl, true, rfl, sw_yes (due_ok X I rfl rfl rfl (moms_at hk') (Nat.le_trans (A.len k') (by decide)) fun U H1 s1 e1 => q' U H1 s1 ?_)⟩
    rw [A.now k' hk']
    exact e1
  have dueN : ∀ {k' : Nat} {R : VK}, (∀ U H1, Same H H1 → H1 U = some (.tup [.str "deed", .non]) → R (.ref U) H1) → tDue K [v0, v1, v2, some (.ref L), some (.ref M), some (.int (k' : Nat)), v6, some (.int wv), some (.bl false), v9, v10, v11, some (.bl back), v13, some (.ref r), v15] H R := fun q' =>
    ⟨_, rfl, false, rfl, sw_no ⟨by show 2 ≤ sizeLine; decide, fun U H1 s1 n1 e1 => q' U H1 s1 e1⟩⟩
  cases back with
  | true =>
    rw [if_pos rfl] at hcan
    cases k with
    | zero =>
      obtain rfl : can = false := hcan
      refine sw_asg (σ := [v0, v1, v2, some (.ref L), some (.ref M), some (.int ((0 : Nat) : Int)), v6, some (.int wv), some (.bl false), v9, v10, v11, some (.bl true), v13, some (.ref r), v15]) (at_ok (k' := 0) rfl rfl rfl rfl ?_)
      refine sw_asg (σ := [v0, v1, v2, some (.ref L), some (.ref M), some (.int ((0 : Nat) : Int)), v6, some (.int wv), some (.bl false), v9, v10, v11, some (.bl true), v13, some (.ref r), v15]) (dueN fun U H1 s1 eU => ?_)
      have I1 := I.same s1
      refine sw_one (σ := [v0, v1, v2, some (.ref L), some (.ref M), some (.int ((0 : Nat) : Int)), v6, some (.int wv), some (.bl false), some (.ref U), v10, v11, some (.bl true), v13, some (.ref r), v15]) (job_ok I1 fun H2 I2 x2 E R _ deed _ => ?_)
      refine ⟨_, rfl, true, rfl, sw_yes (undo_none (all := (all.drop 0).reverse) I2 X.g (by rw [List.length_reverse]; simpa using few) rfl (deed H2 fun F H3 s3 eF => ?_))⟩
      exact q 0 F U false H3 (Nat.zero_le _) (I2.same s3) ⟨"deed", .non, eF, s3 _ _ (x2 _ _ eU (by intro _ z; cases z)), rfl⟩
    | succ k' =>
      obtain rfl : can = true := hcan.trans (decide_eq_true (Nat.succ_pos _))
      refine sw_asg (σ := [v0, v1, v2, some (.ref L), some (.ref M), some (.int ((k' + 1 : Nat) : Int)), v6, some (.int wv), some (.bl true), v9, v10, v11, some (.bl true), v13, some (.ref r), v15]) (at_ok (k' := k') rfl rfl rfl (by simp; omega) ?_)
      refine sw_asg (σ := [v0, v1, v2, some (.ref L), some (.ref M), some (.int (k' : Nat)), v6, some (.int wv), some (.bl true), v9, v10, v11, some (.bl true), v13, some (.ref r), v15]) (due (by omega) rfl fun U H1 s1 eU => ?_)
      have I1 := I.same s1
      refine sw_one (σ := [v0, v1, v2, some (.ref L), some (.ref M), some (.int (k' : Nat)), v6, some (.int wv), some (.bl true), some (.ref U), v10, v11, some (.bl true), v13, some (.ref r), v15]) (job_ok I1 fun H2 I2 x2 E R _ _ told => ?_)
      have eU2 := x2 _ _ eU (by intro _ z; cases z)
      refine ⟨_, rfl, true, rfl, sw_yes (undo_ok I2 X.g few hk rfl fun H3 o3 I3 => told _ _ fun F H4 s4 eF => ?_)⟩
      exact q k' F U true H4 (by omega) (I3.same s4) ⟨"told", _, eF, s4 _ _ (o3 _ _ eU2 (I2.notup eU2)), flat_opt _⟩
  | false =>
    rw [if_neg Bool.false_ne_true, ml] at hcan
    by_cases hlt : k + 1 ≤ all.length
    · obtain rfl : can = true := hcan.trans (decide_eq_true (by omega))
      refine sw_asg (σ := [v0, v1, v2, some (.ref L), some (.ref M), some (.int (k : Nat)), v6, some (.int wv), some (.bl true), v9, v10, v11, some (.bl false), v13, some (.ref r), v15]) (at_ok (k' := k + 1) rfl rfl rfl (by simp) ?_)
      refine sw_asg (σ := [v0, v1, v2, some (.ref L), some (.ref M), some (.int (k + 1 : Nat)), v6, some (.int wv), some (.bl true), v9, v10, v11, some (.bl false), v13, some (.ref r), v15]) (due hlt rfl fun U H1 s1 eU => ?_)
      have I1 := I.same s1
      refine sw_one (σ := [v0, v1, v2, some (.ref L), some (.ref M), some (.int (k + 1 : Nat)), v6, some (.int wv), some (.bl true), some (.ref U), v10, v11, some (.bl false), v13, some (.ref r), v15]) (job_ok I1 fun H2 I2 x2 E R _ _ told => ?_)
      have eU2 := x2 _ _ eU (by intro _ z; cases z)
      refine ⟨_, rfl, false, rfl, sw_no (again_ok I2 X.g few hlt rfl fun H3 o3 I3 => told _ _ fun F H4 s4 eF => ?_)⟩
      exact q (k + 1) F U true H4 hlt (I3.same s4) ⟨"told", _, eF, s4 _ _ (o3 _ _ eU2 (I2.notup eU2)), flat_opt _⟩
    · obtain rfl : can = false := hcan.trans (decide_eq_false (by omega))
      refine sw_asg (σ := [v0, v1, v2, some (.ref L), some (.ref M), some (.int (k : Nat)), v6, some (.int wv), some (.bl false), v9, v10, v11, some (.bl false), v13, some (.ref r), v15]) (at_ok (k' := k) rfl rfl rfl (by simp) ?_)
      refine sw_asg (σ := [v0, v1, v2, some (.ref L), some (.ref M), some (.int (k : Nat)), v6, some (.int wv), some (.bl false), v9, v10, v11, some (.bl false), v13, some (.ref r), v15]) (dueN fun U H1 s1 eU => ?_)
      have I1 := I.same s1
      refine sw_one (σ := [v0, v1, v2, some (.ref L), some (.ref M), some (.int (k : Nat)), v6, some (.int wv), some (.bl false), some (.ref U), v10, v11, some (.bl false), v13, some (.ref r), v15]) (job_ok I1 fun H2 I2 x2 E R _ deed _ => ?_)
      have ed : (all.drop k).reverse = [] := by
        rw [List.drop_of_length_le (by omega)]
        rfl
      have I2' := I2
      rw [ed] at I2'
      refine ⟨_, rfl, false, rfl, sw_no (again_none I2' X.g (by rw [List.length_take]; omega) rfl (deed H2 fun F H3 s3 eF => ?_))⟩
      exact q k F U false H3 hk (I2.same s3) ⟨"deed", .non, eF, s3 _ _ (x2 _ _ eU (by intro _ z; cases z)), rfl⟩
end
end Tb

set_option Elab.async false
set_option linter.all false
set_option maxRecDepth 100000
set_option maxHeartbeats 4000000
/-! the second and the third way of a turn -/
namespace Tb
open PySem PySem.Spec PyProof.Rows L2 TL LamX
theorem cutS_head (cs : List Nat) (k : Nat) : cutS (S cs) none (some (k : Int)) = S (cs.take k) := by
  refine ext_tl ?_
  show ((cs.drop (HT.sIx (S cs).length 0 none)).take (HT.sIx (S cs).length (S cs).length (some (k : Int)) - HT.sIx (S cs).length 0 none)) = cs.take k
  rw [HT.sIx_nat, HT.sIx_none, len_S, List.drop_zero, Nat.sub_zero, List.take_eq_take_iff]
  omega
abbrev rAddS : R2 := fun x y H Q => ∃ i j, x = .str i ∧ y = .str j ∧ i.length + j.length ≤ sizeLine ∧ Q (.str (i ++ j)) H
abbrev rReps : List V → Hp → VK → Prop := fun xs H Q => ∃ x y, xs = [x] ∧ RepV H x y ∧ ∀ (H' : Hp), Same H H' → Q (.str y) H'
abbrev tRead (K : PySem.W.Frag) (CD CS CR C NL : Addr) (i : Nat) : XK → TE := fun E => tMeth CD "read" (spRead K CD CS CR C NL) [] E (tVar 14) (tCons (tVar i) tNil)
abbrev tOdds : TE := tLstS (tCons (tC (.str "q")) (tCons (tC (.str "A")) (tCons (tC .non) (tCons (tC (.int 5)) (tCons (tLstS (tCons (tC (.str "a")) tNil)) (tCons (tC (.str "?")) (tCons (tC (.bl true)) tNil)))))))
abbrev tB2 (K : PySem.W.Frag) (CD CS CR C ND NL TP : Addr) (qn : Str) : TS := tSeq (tAsg (tCall (spPick K) [] E0 (tCons (tVar 1) (tCons tOdds tNil))) (gName 11))
  (tSeq (tAsg (tIf (tB (tIsi K "str" (tVar 11))) (tOp rAddS (tOp rAddS (tSl rSlS (tVar 2) tNoPart (tPart (tC (.int 1)))) (tVar 11)) (tVar 2)) (tVar 11)) (gName 13))
  (tPar 10 9 (tCons (tLam [(TP, qn)] (TTried NL ND) (tRead K CD CS CR C NL 13)) (tCons (tTupS (tCons (tC (.str "sign")) (tCons (tCB rReps (tCons (tVar 11) tNil)) tNil))) tNil))))
abbrev tC3 (K : PySem.W.Frag) (CD CS CR C ND NL TP : Addr) (qn : Str) : TS := tSeq (tAsg (tCall spLText [] E0 (tCons (tVar 1) (tCons (tVar 2) (tCons (tOp (rIxL K) (tLstS (tCons (tC (.int 0)) (tCons (tC (.int 1)) (tCons (tC (.int 1)) (tCons (tC (.int 4)) (tCons (tC (.int 12)) tNil)))))) (tCall spDrawS [] E0 (tCons (tVar 1) (tCons (tC (.int 5)) tNil)))) tNil)))) (gName 15))
  (tSeq (tAsg (tOp rCat (tSl (rSlLS K) (tVar 4) tNoPart (tPart (tOp (rI0 fun i j => V.int (i + j)) (tVar 5) (tC (.int 1))))) (tLstS (tCons (tOp rAddS (tOp (rIxL K) (tVar 4) (tVar 5)) (tVar 15)) tNil))) (gName 4))
  (tSeq (tAsg (tOp (rI0 fun i j => V.int (i + j)) (tVar 5) (tC (.int 1))) (gName 5))
  (tPar 10 9 (tCons (tLam [(TP, qn)] (TTried NL ND) (tRead K CD CS CR C NL 15)) (tCons (tTold K) tNil)))))
theorem RepV.ext2 {H H' : Hp} (x : ExtN H H') {v : V} {y : Str} (h : RepV H v y) : RepV H' v y := by
  cases v with
  | ref a =>
    obtain ⟨z, e, r⟩ := h
    exact ⟨z, x _ _ e (by intro _ z; cases z), r⟩
  | _ => exact h
/-- the odd things: no texts of a program's letters, and what repr tells of them -/
def OddV (K : PySem.W.Frag) (H : Hp) (x : V) : Prop := (∃ y, RepV H x y) ∧ ((∃ s : Nat, x = .str (S [s]) ∧ s ∉ [97, 98, 120]) ∨ (∀ H', ExtN H H' → Isi K H' x "str" false))
theorem odd_q : Str.ofString "q" = S [113] := by decide +kernel
theorem odd_A : Str.ofString "A" = S [65] := by decide +kernel
theorem odd_w : Str.ofString "?" = S [63] := by decide +kernel
theorem odd_ok {K : PySem.W.Frag} {H : Hp} {la : Addr} {x : V} (e : H la = some (.lst [.str "a"])) (hx : x ∈ [V.str "q", .str "A", .non, .int 5, .ref la, .str "?", .bl true]) : OddV K H x := by
  simp only [List.mem_cons, List.not_mem_nil, or_false] at hx
  rcases hx with rfl | rfl | rfl | rfl | rfl | rfl | rfl
  · exact ⟨⟨_, rfl, by decide +kernel⟩, .inl ⟨113, by rw [odd_q], by decide⟩⟩
  · exact ⟨⟨_, rfl, by decide +kernel⟩, .inl ⟨65, by rw [odd_A], by decide⟩⟩
  · exact ⟨⟨_, rfl⟩, .inr fun _ _ => ⟨_, .base .non, kit_ty (by decide +kernel)⟩⟩
  · exact ⟨⟨_, rfl, by decide +kernel⟩, .inr fun _ _ => ⟨_, .base (.int 5), kit_ty (by decide +kernel)⟩⟩
  · exact ⟨⟨_, _, e, rfl, by decide +kernel⟩, .inr fun H' s => ⟨_, .base (.lst (s _ _ e (by intro _ z; cases z))), kit_ty (by decide +kernel)⟩⟩
  · exact ⟨⟨_, rfl, by decide +kernel⟩, .inl ⟨63, by rw [odd_w], by decide⟩⟩
  · exact ⟨⟨_, rfl⟩, .inr fun _ _ => ⟨_, .base (.bl true), kit_ty (by decide +kernel)⟩⟩
section
variable {CD CS CR C ND NL : Addr} {K : PySem.W.Frag} {Hb H H' : Hp} {p TP r st dn un g pm M L : Addr} {qn : Str} {pl0 : List Nat} {pls : List (List Nat)} {pt : Pt} {all : List Deed} {k n sn i : Nat} {σ : L2.St} {Q : VK}
theorem wayB_ok {D : Ends} {v0 v6 v7 v8 v9 v10 v11 v12 v13 v15 : Option V} {Lt : List Nat} (X : LFix Hb p L pt pl0 pls) (A : LAll (pt.moves.map keptM) (sortN pt.boxes) pl0 (sortN pt.letters) all i) (hk : k ≤ all.length) (hn : n < 10000) (hsn : sn < 20000) (hlt : pt.letters = Lt) (l1 : 1 ≤ Lt.length) (l3 : Lt.length ≤ 3) (lab : ∀ c ∈ Lt, c ∈ [97, 98, 120])
    (I : LMp CD CS CR C Hb p TP r st dn un g pm M qn pt pl0 pls (all.take k) (all.drop k).reverse n sn (moms all) H)
    (q : ∀ F U x11 x13 H', LMp CD CS CR C Hb p TP r st dn un g pm M qn pt pl0 pls (all.take k) (all.drop k).reverse n (sn + 1) (moms all) H' → Both F U H' → D.nx [v0, some (.ref p), some (.str (S Lt)), some (.ref L), some (.ref M), some (.int (k : Nat)), v6, v7, v8, some (.ref U), some (.ref F), x11, v12, x13, some (.ref r), v15] H') :
    tB2 K CD CS CR C ND NL TP qn D [v0, some (.ref p), some (.str (S Lt)), some (.ref L), some (.ref M), some (.int (k : Nat)), v6, v7, v8, v9, v10, v11, v12, v13, some (.ref r), v15] H := by
  have few : all.length < 1000 := by have := A.few; have := A.lim; omega
  refine sw_asg ⟨_, rfl, by show 1 ≤ sizeLine; decide, fun la H1 s1 n1 e1 => ⟨by show 7 ≤ sizeLine; decide, fun lx H2 s2 n2 e2 => ?_⟩⟩
  have I2 := (I.same s1).same s2
  refine ⟨p, sn, I2.src, by omega, .inl ⟨lx, _, rfl, SqL.of e2, ?_, by show 0 < 7; decide, by show 7 < 1073741824; decide, fun x H3 hx b3 sr3 => ?_⟩⟩
  · intro z
    obtain ⟨o, e, _⟩ := (I.same s1).src
    rw [z, e] at n2
    cases n2
  have I3 := I2.but b3 sr3
  have lap : la ≠ p := I2.neP (s2 _ _ e1) (by rintro ⟨_, _, _, z⟩; cases z)
  have odd : OddV K H3 x := odd_ok (b3 _ _ (s2 _ _ e1) lap) hx
  obtain ⟨⟨y, rep⟩, od⟩ := odd
  have sum : sumM (nowM pl0 (sortN pt.boxes) (all.take k)) ≤ 100000 := by
    rw [A.now k hk]
    have := now_sum (X.g.pg) pl0 (textM (all.take k))
    have h1 := A.len k
    have l6 : (sortN pt.boxes).length ≤ 6 := X.g.pg.lB
    have h2 : (textM (all.take k)).length * (7 * (sortN pt.boxes).length) ≤ 192 * 42 := Nat.mul_le_mul h1 (by omega)
    omega
  have more : ∃ v, (∀ (Q : VK), Q v H3 → tIf (tB (tIsi K "str" (tVar 11))) (tOp rAddS (tOp rAddS (tSl rSlS (tVar 2) tNoPart (tPart (tC (.int 1)))) (tVar 11)) (tVar 2)) (tVar 11) [v0, some (.ref p), some (.str (S Lt)), some (.ref L), some (.ref M), some (.int (k : Nat)), v6, v7, v8, v9, v10, some x, v12, v13, some (.ref r), v15] H3 Q) ∧
      ∀ (H4 : Hp) (E : XK) (R : VK), ExtN H3 H4 → LMp CD CS CR C Hb p TP r st dn un g pm M qn pt pl0 pls (all.take k) (all.drop k).reverse n (sn + 1) (moms all) H4 → NlX NL x H4 E → tRead K CD CS CR C NL 13 E [v0, some (.ref p), some (.str (S Lt)), some (.ref L), some (.ref M), some (.int (k : Nat)), v6, v7, v8, v9, v10, some x, v12, some v, some (.ref r), v15] H4 R := by
    have few2 : (all.take k).length < 1000 := by rw [List.length_take]; omega
    rcases od with ⟨s, rfl, hs⟩ | hno
    · refine ⟨.str (S (Lt.take 1 ++ [s] ++ Lt)), fun Q q => ?_, fun H4 E R x4 I4 nl => ?_⟩
      · refine ⟨_, rfl, true, isi_str _, true, rfl, sw_yes ⟨_, rfl, _, rfl, S Lt, rfl, by rw [len_S]; exact Nat.le_trans (Nat.le_trans l3 (by decide)) (show 1000 ≤ sizeLine by decide), ?_⟩⟩
        have ec : cutS (S Lt) none (some 1) = S (Lt.take 1) := cutS_head Lt 1
        rw [ec]
        have big : ∀ {m : Nat}, m ≤ 10 → m ≤ sizeLine := fun h => Nat.le_trans h (by decide)
        refine ⟨_, rfl, S (Lt.take 1), S [s], rfl, rfl, by rw [len_S, len_S, List.length_take]; exact big (by show _ + 1 ≤ 10; omega), _, rfl, S (Lt.take 1) ++ S [s], S Lt, rfl, rfl, ?_, ?_⟩
        · rw [S_app, len_S, len_S, List.length_append, List.length_take]
          exact big (by show _ + 1 + _ ≤ 10; omega)
        · rw [S_app, S_app]
          exact q
      · obtain ⟨a, rest, hL⟩ : ∃ a rest, Lt = a :: rest := by
          cases e : Lt with
          | nil => rw [e] at l1; exact absurd l1 (by decide)
          | cons a r => exact ⟨a, r, rfl⟩
        have mem : ∀ c, c ∈ sortN pt.letters ↔ c ∈ Lt := fun c => by rw [← hlt]; exact (sortN_perm _).mem_iff
        have e5 : Lt.take 1 ++ [s] ++ Lt = a :: s :: Lt := by rw [hL]; rfl
        rw [e5]
        exact read_sign I4 X.g few2 rfl rfl (by omega) hn ((mem a).mpr (by rw [hL]; exact List.mem_cons_self)) (fun z => hs (lab s ((mem s).mp z))) sum nl
    · refine ⟨x, fun Q q => ⟨_, rfl, false, hno H3 (ExtN.refl _), false, rfl, sw_no ⟨_, rfl, q⟩⟩, fun H4 E R x4 I4 nl => ?_⟩
      exact read_odd I4 X.g few2 rfl rfl (hno H4 x4) nl
  obtain ⟨v, hv, hr⟩ := more
  refine sw_asg (σ := [v0, some (.ref p), some (.str (S Lt)), some (.ref L), some (.ref M), some (.int (k : Nat)), v6, v7, v8, v9, v10, some x, v12, v13, some (.ref r), v15]) (hv _ ?_)
  refine sw_par (σ := [v0, some (.ref p), some (.str (S Lt)), some (.ref L), some (.ref M), some (.int (k : Nat)), v6, v7, v8, v9, v10, some x, v12, some v, some (.ref r), v15]) (job_ok I3 fun H4 I4 x4 E R sign _ _ => ?_)
  refine hr H4 E R x4 I4 fun d H5 s5 nd e5 => sign d H5 x y e5 ((rep.ext2 x4).same s5) fun F H6 s6 eF => ?_
  have I6 := (I4.same s5).same s6
  refine ⟨_, rfl, x, y, rfl, ((rep.ext2 x4).same s5).same s6, fun H7 s7 => ⟨by show 2 ≤ sizeLine; decide, fun U H8 s8 n8 e8 => ⟨_, _, rfl, ?_⟩⟩⟩
  exact q F U _ _ H8 ((I6.same s7).same s8) ⟨"sign", .str y, s8 _ _ (s7 _ _ eF), e8, rfl⟩
theorem wayC_ok {D : Ends} {v0 v6 v7 v8 v9 v10 v11 v12 v13 v15 : Option V} {Lt : List Nat} (X : LFix Hb p L pt pl0 pls) (A : LAll (pt.moves.map keptM) (sortN pt.boxes) pl0 (sortN pt.letters) all i) (hi : i < 16) (hk : k ≤ all.length) (hn : n < 9000) (hsn : sn < 20000) (hlt : pt.letters = Lt) (l1 : 1 ≤ Lt.length) (l3 : Lt.length ≤ 3)
    (I : LMp CD CS CR C Hb p TP r st dn un g pm M qn pt pl0 pls (all.take k) (all.drop k).reverse n sn (moms all) H)
    (q : ∀ all' k' n' M' un' F U x15 H', LAll (pt.moves.map keptM) (sortN pt.boxes) pl0 (sortN pt.letters) all' (i + 1) → k' ≤ all'.length → n' ≤ n + 12 → LMp CD CS CR C Hb p TP r st dn un' g pm M' qn pt pl0 pls (all'.take k') (all'.drop k').reverse n' (sn + 111) (moms all') H' → Both F U H' → D.nx [v0, some (.ref p), some (.str (S Lt)), some (.ref L), some (.ref M'), some (.int (k' : Nat)), v6, v7, v8, some (.ref U), some (.ref F), v11, v12, v13, some (.ref r), x15] H') :
    tC3 K CD CS CR C ND NL TP qn D [v0, some (.ref p), some (.str (S Lt)), some (.ref L), some (.ref M), some (.int (k : Nat)), v6, v7, v8, v9, v10, v11, v12, v13, some (.ref r), v15] H := by
  have few : all.length < 1000 := by have := A.few; have := A.lim; omega
  have mem : ∀ c, c ∈ sortN pt.letters ↔ c ∈ Lt := fun c => by rw [← hlt]; exact (sortN_perm _).mem_iff
  refine sw_asg ⟨_, rfl, _, rfl, by show 5 ≤ sizeLine; decide, fun lx H1 s1 n1 e1 => ?_⟩
  have I1 := I.same s1
  refine ⟨_, rfl, p, 5, sn, rfl, I1.src, by omega, by decide, by decide, fun d H2 hd b2 sr2 => ?_⟩
  have I2 := I1.but b2 sr2
  have lxp : lx ≠ p := I1.neP e1 (by rintro ⟨_, _, _, z⟩; cases z)
  have hd5 : d < 5 := by omega
  obtain ⟨mo, hmo, hm⟩ : ∃ mo : Nat, ([V.int 0, .int 1, .int 1, .int 4, .int 12])[d]? = some (num mo) ∧ mo ≤ 12 := by
    match d, hd5 with
    | 0, _ => exact ⟨0, rfl, by decide⟩
    | 1, _ => exact ⟨1, rfl, by decide⟩
    | 2, _ => exact ⟨1, rfl, by decide⟩
    | 3, _ => exact ⟨4, rfl, by decide⟩
    | 4, _ => exact ⟨12, rfl, by decide⟩
  refine ⟨lx, _, d, num mo, rfl, rfl, SqL.of (b2 _ _ e1 lxp), atI_nat hmo, p, sn + 1, mo, Lt, rfl, I2.src, by omega, l1, by omega, by omega, fun H3 t b3 sr3 lt ht => ?_⟩
  have I3 := I2.but b3 sr3
  have mk := moms_at (all := all) hk
  refine sw_asg (σ := [v0, some (.ref p), some (.str (S Lt)), some (.ref L), some (.ref M), some (.int (k : Nat)), v6, v7, v8, v9, v10, v11, v12, v13, some (.ref r), some (.str (S t))]) ⟨_, rfl, _, rfl, _, _, rfl, rfl, _, rfl, M, _, rfl, SqL.of I3.mo, fun c1 H4 s4 n4 e4 => ?_⟩
  have ec : cutV (txs (moms all)) none (some ((k : Int) + 1)) = (txs (moms all)).take (k + 1) := cutV_take _ (k + 1)
  rw [ec] at e4
  have I4 := I3.same s4
  have tl := A.len k
  have hlim : all.length ≤ 16 := by have := A.few; omega
  have big : ∀ {m : Nat}, m ≤ 1000 → m ≤ sizeLine := fun h => Nat.le_trans h (by decide)
  refine ⟨_, rfl, _, rfl, M, _, k, .str (S (textM (all.take k))), rfl, rfl, SqL.of I4.mo, atI_nat (by unfold txs; rw [List.getElem?_map, mk]; rfl), _, rfl, _, _, rfl, rfl, by rw [len_S, len_S]; exact big (by omega), by show 1 ≤ sizeLine; decide, fun c2 H5 s5 n5 e5 => ?_⟩
  have I5 := I4.same s5
  have ml : (txs (moms all)).length = all.length + 1 := by unfold txs; rw [List.length_map, moms_len]
  refine ⟨c1, c2, _, _, rfl, rfl, s5 _ _ e4, e5, ?_, fun M' nM => ?_⟩
  · have hf := A.few
    have h5 := List.length_take_le (k + 1) (txs (moms all))
    exact big (by show _ + 1 ≤ 1000; omega)
  obtain ⟨m, hm2⟩ : ∃ m, m = runM (pt.moves.map keptM) (sortN pt.boxes) (nowM pl0 (sortN pt.boxes) (all.take k)) t := ⟨_, rfl⟩
  have I6 : LMp CD CS CR C Hb p TP r st dn un g pm M' qn pt pl0 pls (all.take k) (all.drop k).reverse n (sn + 111) (moms (all.take k ++ [(t, m)])) (upd H5 M' (.lst ((txs (moms all)).take (k + 1) ++ [.str (S (textM (all.take k)) ++ S t)]))) := by
    refine LMid.mom I5 (same_upd nM) nM ?_
    rw [upd_same, ← moms_new hk, S_app]
    unfold txs
    rw [List.map_append, List.map_take]
    rfl
  refine sw_asg (σ := [v0, some (.ref p), some (.str (S Lt)), some (.ref L), some (.ref M'), some (.int (k : Nat)), v6, v7, v8, v9, v10, v11, v12, v13, some (.ref r), some (.str (S t))]) ⟨_, rfl, _, _, rfl, rfl, ?_⟩
  have tlow : ∀ c ∈ t, c ∈ sortN pt.letters := fun c hc => (mem c).mpr (ht c hc)
  have sum : sumM (nowM pl0 (sortN pt.boxes) (all.take k)) ≤ 100000 := by
    rw [A.now k hk]
    have := now_sum (X.g.pg) pl0 (textM (all.take k))
    have l6 : (sortN pt.boxes).length ≤ 6 := X.g.pg.lB
    have h2 : (textM (all.take k)).length * (7 * (sortN pt.boxes).length) ≤ 192 * 42 := Nat.mul_le_mul tl (by omega)
    omega
  have nl := new_len (t := t) (m := m) hk
  have A' : LAll (pt.moves.map keptM) (sortN pt.boxes) pl0 (sortN pt.letters) (all.take k ++ [(t, m)]) (i + 1) := by
    refine ⟨by rw [nl]; have := A.few; omega, by omega, fun x hx => ?_, new_now hk hm2 A.now⟩
    rcases List.mem_append.mp hx with h | h
    · exact A.short x (List.mem_of_mem_take h)
    · rw [List.mem_singleton.mp h]
      exact ⟨by show t.length ≤ 12; omega, tlow⟩
  refine sw_par (σ := [v0, some (.ref p), some (.str (S Lt)), some (.ref L), some (.ref M'), some (.int (k + 1 : Nat)), v6, v7, v8, v9, v10, v11, v12, v13, some (.ref r), some (.str (S t))]) (job_ok I6 fun H7 I7 x7 E R _ _ told => ?_)
  refine read_ok I7 X.g few hk rfl rfl (by omega) (by omega) tlow sum fun un' H8 m' em o8 I8 => told _ _ fun F H9 s9 eF => ?_
  obtain rfl : m' = m := em.trans hm2.symm
  have I9 := I8.same s9
  have wh : (all.take k ++ [(t, m')]).take (k + 1) = all.take k ++ [(t, m')] := new_whole hk
  have I9' : LMp CD CS CR C Hb p TP r st dn un' g pm M' qn pt pl0 pls ((all.take k ++ [(t, m')]).take (k + 1)) ((all.take k ++ [(t, m')]).drop (k + 1)).reverse (n + t.length) (sn + 111) (moms (all.take k ++ [(t, m')])) H9 := by
    rw [wh, new_rest hk]
    exact I9
  have mk' := moms_at (all := all.take k ++ [(t, m')]) (j := k + 1) (by rw [nl]; exact Nat.le_refl _)
  refine due_ok (k := k + 1) X I9' rfl rfl rfl mk' (Nat.le_trans (A'.len (k + 1)) (by decide)) fun U H10 s10 e10 => ⟨_, _, rfl, ?_⟩
  refine q _ (k + 1) _ M' un' F U _ H10 A' (by rw [nl]; exact Nat.le_refl _) (by omega) (I9'.same s10) ⟨"told", _, s10 _ _ eF, ?_, flat_opt _⟩
  rw [e10, ← A'.now (k + 1) (by rw [nl]; exact Nat.le_refl _), wh, now_last]
end
end Tb

set_option Elab.async false
set_option linter.all false
set_option maxRecDepth 100000
set_option maxHeartbeats 8000000
namespace Tb
open PySem PySem.Spec PyProof.Rows L2 TL LamX
theorem abx_str : Str.ofString "abx" = S [97, 98, 120] := by decide +kernel
theorem abx_low : ∀ c ∈ [97, 98, 120], 97 ≤ c ∧ c ≤ 122 := by decide
/-- what the loop knows: all is every deed, done and undone; k of them are done -/
structure LInv (CD CS CR C : Addr) (Hb : Hp) (p TP r st dn un g pm M : Addr) (qn : Str) (pt : Pt) (pl0 : List Nat) (pls : List (List Nat)) (all : List Deed) (k i n : Nat) (H : Hp) : Prop where
  mid : LMp CD CS CR C Hb p TP r st dn un g pm M qn pt pl0 pls (all.take k) (all.drop k).reverse n (6016 + 240 * i) (moms all) H
  le : k ≤ all.length
  cost : n ≤ 12 * i
  A : LAll (pt.moves.map keptM) (sortN pt.boxes) pl0 (sortN pt.letters) all i
theorem keptM_keys {pt : Pt} (g : GoodP pt) : ((pt.moves.map keptM).map Mv.key).Nodup := by
  have e : (pt.moves.map keptM).map Mv.key = (pt.moves.map fun m => (m.pl, m.lt)).map fun x => mkey x.1 x.2 := by
    rw [List.map_map, List.map_map]
    exact List.map_congr_left fun m _ => keptM_key m
  rw [e]
  exact List.Pairwise.map _ (fun a b hab z => hab (Prod.ext (mkey_inj z).1 (mkey_inj z).2)) g.ky
theorem keptF_keys {pt : Pt} (g : GoodP pt) : ∀ m ∈ pt.moves.map keptM, (m.fl.map (·.1)).Nodup := fun m hm => by
  obtain ⟨m0, hm0, rfl⟩ := List.mem_map.mp hm
  have nd : (m0.fl.map (·.1)).Nodup := by
    rw [(g.mv m0 hm0).2.2.2.1]
    exact List.Pairwise.map _ (fun a b hab z => hab (List.cons.inj z).1) g.bn
  rw [heads_keys (g.ones m0 hm0)] at nd
  have h1 : (m0.fl.map fun q => q.1.headD 0).Nodup := List.Pairwise.of_map _ (fun a b hab z => hab (congrArg (fun c => [c]) z)) nd
  have h2 : (sortN (m0.fl.map fun q => q.1.headD 0)).Nodup := (sortN_perm _).nodup_iff.mpr h1
  show ((keptF m0.fl).map (·.1)).Nodup
  unfold keptF
  refine List.Nodup.sublist ((List.filter_sublist).map _) ?_
  rw [List.map_map]
  exact List.Pairwise.map _ (fun a b hab z => hab (List.cons.inj z).1) h2
section
variable {P : Program} {w : World} {K : PySem.W.Frag} {mg : Str → Option Value} {base : Heap} {CD CS CR C NL ND : Addr}
theorem ok_lawR {f g TP : Addr} {fd : FuncData} (FL : Fun K "law" "law" sLawR f fd) (T : RdTxt K mg CD CS CR C) (N : TriedAt K mg g NL ND) {c : Addr} (HC : ∀ cdv, CodeOf K "law" "law" sLawR f cdv → cdv = .ref c) (TBc : TabB base mg c TP)
    (DSrc : Df P w K mg base 1 "_law_source" ["_law_script"] (spSource K)) (DS : Df P w K mg base 3 "_law_signs" ["_law_source_here", "_law_signs_here", "_law_many"] spSigns) (DD : Df P w K mg base 1 "_law_draw" ["_law_source_here", "_law_many"] spDrawS)
    (DPg : Df P w K mg base 5 "_law_program" ["_law_source_here", "_law_letters", "_law_most_boxes", "_law_most_places"] spProgram) (DMd : Df P w K mg base 7 "_law_made" ["_law_parts"] (spMade C)) (MR : MkRd P w K mg base CD CS CR C 8)
    (DPk : Df P w K mg base 2 "_law_pick" ["_law_source_here", "_law_things"] (spPick K)) (DTx : Df P w K mg base 3 "_law_text" ["_law_source_here", "_law_letters", "_law_most"] spLText) (DLt : Df P w K mg base 3 "_law_told" ["_law_parts", "_law_text_here"] spLTold)
    (MU : MthX P w K mg base CD 9 "undo" [] (spUndo CD CS CR C ND)) (MA : MthX P w K mg base CD 9 "again" [] (spAgain CD CS CR C ND)) (ME : MthX P w K mg base CD 9 "read" ["text"] (spRead K CD CS CR C NL))
    (DN : Df P w K mg base 9 "_law_is_now" ["_law_reader", "_law_parts", "_law_text_here"] (spIsNow CD CS CR C)) (DE : EqM P w K mg base C 1 (PrEq C)) (DPr : Prp P w K mg base CD 1 "program" (getSp CD "_program")) (mr : mg "range" = none) (ml : mg "len" = none) (mI : mg "int" = none) (mi : mg "isinstance" = none) (ms : mg "str" = none) :
    FnG P w K mg base 12 f fd ["_law_script"] (spLawR K TP) := by
  refine fun_okG (k := 11) FL scLawR (fun vs H Q E h => ?_) (fun cdv A outer s H vs Q E hc hG hr h => ?_)
  · obtain ⟨a, ns, rfl, _⟩ := h
    rfl
  · obtain ⟨a, ns, rfl, hS, tb, q⟩ := h
    have hu := hu_of hr
    obtain rfl := HC _ hc
    refine ⟨_, (pss_cons (ps_set (i := 1) scLawR.nd rfl (.inl rfl) (pe_df DSrc hr (pa_cons (pv 0) pa_nil)))
       (pss_cons (ps_set (i := 2) scLawR.nd rfl (.inl rfl) (pe_df DS hr (pa_cons (pv 1) (pa_cons pe_str (pa_cons (pe_op op_add pe_int (pe_df DD hr (pa_cons (pv 1) (pa_cons pe_int pa_nil)))) pa_nil)))))
       (pss_cons (ps_set (i := 3) scLawR.nd rfl (.inl rfl) (pe_df DPg hr (pa_cons (pv 1) (pa_cons (pv 2) (pa_cons pe_int (pa_cons pe_int pa_nil))))))
       (pss_cons (ps_set (i := 14) scLawR.nd rfl (.inr rfl) (pe_reader MR hr T.mgC (pa_cons (pe_df DMd hr (pa_cons (pv 3) pa_nil)) pa_nil) T.neC))
       (pss_cons (ps_par (i := 4) (j := 5) rfl scLawR.nd rfl rfl (by decide) rfl rfl (pa_cons (pe_lstS (pa_cons pe_str pa_nil)) (pa_cons pe_int pa_nil)) (by rfl))
       (pss_cons (ps_for PassesOwn.never rfl (pi_range1 rfl mr (pa_cons (pe_op op_add pe_int (pe_df DD hr (pa_cons (pv 1) (pa_cons pe_int pa_nil)))) pa_nil)) (pg_name (i := 6) scLawR.nd rfl (.inl rfl))
       (pss_cons (ps_set (i := 7) scLawR.nd rfl (.inl rfl) (pe_df DD hr (pa_cons (pv 1) (pa_cons pe_int pa_nil))))
       (pss_cons (ps_if (pt_cmpR op_lt (pv 7) pe_int (nomark _))
       (pss_cons (ps_set (i := 12) scLawR.nd rfl (.inr rfl) (pe_cmpR op_eq (pv 7) pe_int (nomark _)))
       (pss_cons (ps_set (i := 8) scLawR.nd rfl (.inl rfl) (pe_ifExp (pt_truth (pv 12) (fun _ => rfl)) (pe_cmpR op_gt (pv 5) pe_int (nomark _)) (pe_cmpR op_lt (pe_op op_add (pv 5) pe_int) (pe_callB call_len_seq (by rfl) ml PySem.boot_len (pa_cons (pv 4) pa_nil)) (nomark _))))
       (pss_cons (ps_set (i := 5) scLawR.nd rfl (.inl rfl) (pe_op op_add (pv 5) (pe_op op_mul (pe_callTy call_int1 (by rfl) mI (by decide +kernel) (pa_cons (pv 8) pa_nil)) (pe_op op_sub pe_int (pe_op op_mul pe_int (pe_callTy call_int1 (by rfl) mI (by decide +kernel) (pa_cons (pv 12) pa_nil)))))))
       (pss_cons (ps_set (i := 9) scLawR.nd rfl (.inl rfl) (pe_ifExp (pt_truth (pv 8) (fun _ => rfl)) (pe_tupS (pa_cons pe_str (pa_cons (pe_df DLt hr (pa_cons (pv 3) (pa_cons (pe_ix ix_list (pv 4) (pv 5) (fun _ _ => rfl)) pa_nil))) pa_nil))) (pe_tupS (pa_cons pe_str (pa_cons pe_non pa_nil)))))
       (pss_one (ps_set (i := 10) scLawR.nd rfl (.inl rfl) (pe_tried (k := 8) (t := tDo K CD CS CR C ND) N (by rfl) hG TBc rfl rfl hr (lamS_by (by rfl)) rfl (fun _ _ _ _ _ => rfl) (fun A outer s H E f c' hr' => by exact pe_ifExp (pt_truth (pv 12) (fun _ => rfl)) (pe_mthX0 (E := E) MU T.cl hr' (passes_call (takes_of rfl rfl rfl rfl) fun _ _ _ _ h => h) (pv 14)) (pe_mthX0 (E := E) MA T.cl hr' (passes_call (takes_of rfl rfl rfl rfl) fun _ _ _ _ h => h) (pv 14))))))))))
       (pss_one (ps_if (pt_cmpR op_eq (pv 7) pe_int (nomark _))
       (pss_cons (ps_set (i := 11) scLawR.nd rfl (.inl rfl) (pe_df DPk hr (pa_cons (pv 1) (pa_cons (pe_lstS (pa_cons pe_str (pa_cons pe_str (pa_cons pe_non (pa_cons pe_int (pa_cons (pe_lstS (pa_cons pe_str pa_nil)) (pa_cons pe_str (pa_cons pe_bl pa_nil)))))))) pa_nil))))
       (pss_cons (ps_set (i := 13) scLawR.nd rfl (.inr rfl) (pe_ifExp (pt_val (pe_isStr (pv 11) mi (by rfl) ms (by rfl))) (pe_op op_add_str (pe_op op_add_str (pe_slice sl_str (pv 2) po_none (po_some pe_int)) (pv 11)) (pv 2)) (pv 11)))
       (pss_one (ps_par (i := 10) (j := 9) rfl scLawR.nd rfl rfl (by decide) rfl rfl (pa_cons (pe_tried (k := 8) N (by rfl) hG TBc rfl rfl hr (lamS_by (by rfl)) rfl (fun _ _ _ _ _ => rfl) (fun A outer s H E f c' hr' => by exact (pe_mthX (E := E) ME T.cl hr' (passes_call (takes_of rfl rfl rfl rfl) fun _ _ _ _ h => h) (pv 14) (pa_cons (pv 13) pa_nil)))) (pa_cons (pe_tupS (pa_cons pe_str (pa_cons (pe_callB (call_repr hG hr.units) (by rfl) N.mr PyProof.Rows.boot_repr (pa_cons (pv 11) pa_nil)) pa_nil))) pa_nil)) (by rfl)))))
       (pss_cons (ps_set (i := 15) scLawR.nd rfl (.inr rfl) (pe_df DTx hr (pa_cons (pv 1) (pa_cons (pv 2) (pa_cons (pe_ix ix_list (pe_lstS (pa_cons pe_int (pa_cons pe_int (pa_cons pe_int (pa_cons pe_int (pa_cons pe_int pa_nil)))))) (pe_df DD hr (pa_cons (pv 1) (pa_cons pe_int pa_nil))) (fun _ _ => rfl)) pa_nil)))))
       (pss_cons (ps_set (i := 4) scLawR.nd rfl (.inl rfl) (pe_op op_cat (pe_slice sl_listS (pv 4) po_none (po_some (pe_op op_add (pv 5) pe_int))) (pe_lstS (pa_cons (pe_op op_add_str (pe_ix ix_list (pv 4) (pv 5) (fun _ _ => rfl)) (pv 15)) pa_nil))))
       (pss_cons (ps_set (i := 5) scLawR.nd rfl (.inl rfl) (pe_op op_add (pv 5) pe_int))
       (pss_one (ps_par (i := 10) (j := 9) rfl scLawR.nd rfl rfl (by decide) rfl rfl (pa_cons (pe_tried (k := 8) N (by rfl) hG TBc rfl rfl hr (lamS_by (by rfl)) rfl (fun _ _ _ _ _ => rfl) (fun A outer s H E f c' hr' => by exact (pe_mthX (E := E) ME T.cl hr' (passes_call (takes_of rfl rfl rfl rfl) fun _ _ _ _ h => h) (pv 14) (pa_cons (pv 15) pa_nil)))) (pa_cons (pe_tupS (pa_cons pe_str (pa_cons (pe_df DLt hr (pa_cons (pv 3) (pa_cons (pe_ix ix_list (pv 4) (pv 5) (fun _ _ => rfl)) pa_nil))) pa_nil))) pa_nil)) (by rfl)))))))))
       (pss_one (ps_if (PW.pt (pw_or (pt_cmpR (op_neT hr.units) (pv 10) (pv 9) (nomark _)) (pw_or1 (pt_not (pt_truth (pe_df DN hr (pa_cons (pv 14) (pa_cons (pv 3) (pa_cons (pe_ix ix_list (pv 4) (pv 5) (fun _ _ => rfl)) pa_nil)))) (fun _ => rfl)))))) (pss_one (ps_ret pe_bl)) pss_nil)))))
       (pss_one (ps_ret (pe_cmpR (op_eqM DE hr (by omega)) (pe_prp DPr T.cl hr (pv 14)) (pe_df DMd hr (pa_cons (pv 3) pa_nil)) (nomark _)))))))))), ?_⟩
    refine ⟨_, rfl, a, ns, rfl, hS, fun p o H1 s1 n1 e1 ho1 => ?_⟩
    have hs1 : Src H1 p 0 := ⟨o, e1, ho1⟩
    refine ⟨_, rfl, _, rfl, p, 3, 0, rfl, hs1, by decide, by decide, by decide, fun d H2 hd hb2 hs2 => ?_⟩
    refine ⟨1, d, rfl, rfl, p, 1, 1 + d, [97, 98, 120], by have e : (1 : Int) + (d : Int) = ((1 + d : Nat) : Int) := (by omega); show [V.ref p, V.str (Str.ofString "abx"), V.int (1 + (d : Int))] = _; rw [abx_str, e]; rfl, hs2, by decide, by decide, fun H3 all hb3 hs3 hperm => ?_⟩
    have lall : all.length = 3 := hperm.length_eq
    have hd3 : d < 3 := by omega
    obtain ⟨Lt, hLt⟩ : ∃ Lt, Lt = all.take (1 + d) := ⟨_, rfl⟩
    rw [← hLt]
    have subL : ∀ c ∈ Lt, c ∈ [97, 98, 120] := fun c hc => hperm.mem_iff.mp (List.mem_of_mem_take (by rw [← hLt]; exact hc))
    have lenL : Lt.length = 1 + d := by rw [hLt, List.length_take]; omega
    have ndL : Lt.Nodup := by rw [hLt]; exact (List.take_sublist _ _).nodup (hperm.nodup_iff.mpr (by decide))
    refine ⟨_, rfl, _, rfl, p, 4, 3, 4, Lt, rfl, hs3, by decide, by omega, by omega, ndL, fun c hc => abx_low c (subL c hc), by decide, by decide, by decide, fun L H4 pt hb4 hs4 nL hpt g hlet hbx hplc => ?_⟩
    have nLp : L ≠ p := ne_src hs3 nL
    refine ⟨_, rfl, L, pt, rfl, hpt.to_in, g.parts, fun pm H5 s5 n5 new5 => ⟨pm, _, _, _, _, _, rfl, new5.at, fun r st dn un gg H6 s6 nr ndn nun ng R => ?_⟩⟩
    have hs5 := hs4.same s5
    refine ⟨by show 1 ≤ sizeLine; decide, fun M H7 s7 n7 e7 => ⟨_, _, rfl, ?_⟩⟩
    have hs7 := (hs5.same s6).same s7
    have R7 := R.same s7
    have neT : TP ≠ p := fun z => by
      rw [z] at tb
      rw [tb] at n1
      cases n1
    have tb7 := s7 _ _ (s6 _ _ (s5 _ _ (hb4 _ _ (hb3 _ _ (hb2 _ _ (s1 _ _ tb) neT) neT) neT)))
    refine ⟨_, rfl, p, 12, 6004, rfl, hs7, by decide, by decide, by decide, fun d8 H8 hd8 hb8 hs8 => ?_⟩
    have np7 : ∀ {b : Addr}, H4 b = none → b ≠ p := fun {b} z y => by
      obtain ⟨o', e', _⟩ := hs4
      rw [y, e'] at z
      cases z
    have n5 : ∀ {b : Addr}, H5 b = none → H4 b = none := fun {b} z => by
      cases y : H4 b with
      | none => rfl
      | some o => rw [s5 _ _ y] at z; cases z
    have R8 : RdAt CD CS CR C H8 r st dn un gg pm (sortN pt.letters) (sortN pt.boxes) pt.places (pt.moves.map keptM) pt.ends [] [] 0 := R7.kpt (Kpt.but hs7 hb8)
    obtain ⟨pl0, pls, hpl⟩ : ∃ pl0 pls, pt.places = pl0 :: pls := by
      cases y : pt.places with
      | nil => have z := g.p1; rw [y] at z; exact absurd z (by decide)
      | cons a l => exact ⟨a, l, rfl⟩
    rw [hpl] at R8
    have j1 : (5 : Int) + (d8 : Int) = ((5 + d8 : Nat) : Int) := by omega
    refine ⟨5, d8, rfl, rfl, _, rfl, by omega, by omega, ?_⟩
    have j2 : ((5 : Int) + (d8 : Int)).toNat = 5 + d8 := by omega
    rw [j2]
    have nM : ∀ {b : Addr} {o : HO}, H6 b = some o → M ≠ b := fun {b o} e z => by
      rw [← z, n7] at e
      cases e
    have neM : M ∉ [r, dn, un, gg] := by
      obtain ⟨dx, xs, ys, o1, o2, _, o3, _⟩ := R.ob
      obtain ⟨_, kvs, _, _, o4, _⟩ := R.sa.ob
      simp [nM o1, nM o2, nM o3, nM o4]
    have nMp : M ≠ p := by
      obtain ⟨o', e', _⟩ := hs5.same s6
      exact nM e'
    have tab8 : Tabs [(TP, "law" ++ ".<locals>." ++ "<lambda>")] H8 := fun q' hq => by
      rw [List.mem_singleton.mp hq]
      exact TabS.nil (hb8 _ _ tb7 neT)
    have out8 : ∀ b o, H5 b = some o → b ≠ p → (∀ ps, o ≠ .tbl ps) → b ∉ [r, dn, un, gg] := fun b o e _ _ z => by
      simp only [List.mem_cons, List.not_mem_nil, or_false] at z
      rcases z with rfl | rfl | rfl | rfl
      · rw [nr] at e
        cases e
      · rw [ndn] at e
        cases e
      · rw [nun] at e
        cases e
      · rw [ng] at e
        cases e
    have mid0 : LMp CD CS CR C H5 p TP r st dn un gg pm M ("law" ++ ".<locals>." ++ "<lambda>") pt pl0 pls [] [] 0 6016 (moms []) H8 :=
      ⟨hs8.le (by omega), fun b o e nb nt => hb8 _ _ (s7 _ _ (s6 _ _ e)) nb, out8, tab8, R8, neM, hb8 _ _ e7 nMp⟩
    clear R8 R7 R hb8 e7 neM nMp nM hs7 hs8
    obtain ⟨Hb, hHb⟩ : ∃ Hb, Hb = H5 := ⟨_, rfl⟩
    have X : LFix H5 p L pt pl0 pls := ⟨⟨_, hs5⟩, hpt.same s5, g, hpl⟩
    have l1 : 1 ≤ Lt.length := by omega
    have l3 : Lt.length ≤ 3 := by omega
    refine for_range (lo := 0) (n := 5 + d8) (fun i σ' H' => ∃ M all k n x6 x7 x8 x9 x10 x11 x12 x13 x15 un', σ' = [some (.ref a), some (.ref p), some (.str (S Lt)), some (.ref L), some (.ref M), some (.int (k : Nat)), x6, x7, x8, x9, x10, x11, x12, x13, some (.ref r), x15] ∧ LInv CD CS CR C H5 p TP r st dn un' gg pm M ("law" ++ ".<locals>." ++ "<lambda>") pt pl0 pls all k i n H') ?_ ?_ ?_
    · exact ⟨M, [], 0, 0, _, _, _, _, _, _, _, _, _, un, rfl, mid0, Nat.le_refl _, Nat.le_refl _, Nat.le_refl _, Nat.zero_le _, fun x hx => absurd hx List.not_mem_nil, fun j hj => by obtain rfl := Nat.le_zero.mp hj; rfl⟩
    · rintro i σ' H' hi ⟨M, all, k, n, x6, x7, x8, x9, x10, x11, x12, x13, x15, un', rfl, I⟩
      have hi16 : i < 16 := by omega
      have hcost := I.cost
      refine sw_asg (σ := [some (.ref a), some (.ref p), some (.str (S Lt)), some (.ref L), some (.ref M), some (.int (k : Nat)), some (.int (0 + (i : Int))), x7, x8, x9, x10, x11, x12, x13, some (.ref r), x15]) ?_
      refine ⟨_, rfl, p, 8, _, rfl, I.mid.src, by omega, by decide, by decide, fun w J1 hw b1 sr1 => ?_⟩
      have m1 := I.mid.but b1 sr1
      have up : LAll (pt.moves.map keptM) (sortN pt.boxes) pl0 (sortN pt.letters) all (i + 1) := ⟨by have := I.A.few; omega, by omega, I.A.short, I.A.now⟩
      refine sw_if (σ := [some (.ref a), some (.ref p), some (.str (S Lt)), some (.ref L), some (.ref M), some (.int (k : Nat)), some (.int (0 + (i : Int))), some (.int (w : Nat)), x8, x9, x10, x11, x12, x13, some (.ref r), x15]) ?_
      by_cases hw2 : w < 2
      · refine ⟨_, rfl, _, _, rfl, rfl, true, congrArg V.bl (decide_eq_true (by omega)), sw_yes ?_⟩
        refine wayA_ok (back := decide (V.int (w : Nat) = V.int 0)) X I.A I.le m1 rfl fun k' F U can H9 hk' I' ⟨tag, v, eF, eU, hv⟩ => ?_
        refine fin_ok (k := k') X I' rfl rfl rfl rfl rfl rfl eF eU hv (moms_at hk') (by rw [List.length_take]; have := I.A.few; omega) rfl (Nat.le_trans (I.A.len k') (by decide)) (I.A.now k' hk') fun H10 s10 => ?_
        exact ⟨M, all, k', n, _, _, _, _, _, _, _, _, _, un', rfl, (I'.same s10).le (by omega), hk', by omega, up⟩
      · refine ⟨_, rfl, _, _, rfl, rfl, false, congrArg V.bl (decide_eq_false (by omega)), sw_no (sw_ifl ?_)⟩
        by_cases hw3 : w = 2
        · subst hw3
          refine ⟨_, rfl, rfl, true, congrArg V.bl (decide_eq_true rfl), sw_yes ?_⟩
          refine wayB_ok X I.A I.le (by omega) (by omega) hlet l1 l3 subL m1 fun F U y11 y13 H9 I' ⟨tag, v, eF, eU, hv⟩ => ?_
          refine fin_ok (k := k) X I' rfl rfl rfl rfl rfl rfl eF eU hv (moms_at I.le) (by rw [List.length_take]; have := I.A.few; omega) rfl (Nat.le_trans (I.A.len k) (by decide)) (I.A.now k I.le) fun H10 s10 => ?_
          exact ⟨M, all, k, n, _, _, _, _, _, _, _, _, _, un', rfl, (I'.same s10).le (by omega), I.le, by omega, up⟩
        · refine ⟨_, rfl, rfl, false, congrArg V.bl (decide_eq_false (fun z => hw3 (by have := V.int.inj z; omega))), sw_no ?_⟩
          refine wayC_ok X I.A hi16 I.le (by omega) (by omega) hlet l1 l3 m1 fun all' k' n' M' un2 F U y15 H9 A' hk' hn' I' ⟨tag, v, eF, eU, hv⟩ => ?_
          refine fin_ok (k := k') X I' rfl rfl rfl rfl rfl rfl eF eU hv (moms_at hk') (by rw [List.length_take]; have := A'.few; omega) rfl (Nat.le_trans (A'.len k') (by decide)) (A'.now k' hk') fun H10 s10 => ?_
          exact ⟨M', all', k', n', _, _, _, _, _, _, _, _, _, un2, rfl, (I'.same s10).le (by omega), hk', by omega, A'⟩
    · rintro σ' H' ⟨M, all, k, n, x6, x7, x8, x9, x10, x11, x12, x13, x15, un', rfl, I⟩
      obtain ⟨dx, h1⟩ := I.mid.ref
      have pa : PtAt H' L pt := I.mid.ptAt X
      have PR : PrAt C H' pm (sortN pt.letters) (sortN pt.boxes) (pl0 :: pls) (pt.moves.map keptM) pt.ends := I.mid.rd.sa.ob.choose_spec.choose_spec.2.1.at
      obtain ⟨dx1, _, _, _, _, o1, _⟩ := id PR.ob
      refine ⟨_, rfl, r, dx, _, rfl, h1, r, dx, _, _, rfl, h1, rd_p _ _ _ _, _, rfl, L, pt, rfl, pa.to_in, g.parts, fun p2 H9 s9 n9 new9 => ?_⟩
      have P2 : PrAt C H9 p2 (sortN pt.letters) (sortN pt.boxes) (pl0 :: pls) (pt.moves.map keptM) pt.ends := by rw [← hpl]; exact new9.at
      obtain ⟨dx2, _, _, _, _, o2, _⟩ := id P2.ob
      exact ⟨⟨pm, p2, dx1, dx2, _, _, rfl, rfl, s9 _ _ o1, o2, _, _, _, _, _, _, _, PR.same s9, P2, .refl _, keptM_keys g, keptF_keys g, .refl _, g.ek⟩, fun H10 _ => q H10⟩
end
end Tb

set_option Elab.async false
set_option linter.all false
set_option maxRecDepth 100000
set_option maxHeartbeats 4000000
namespace Tb
open PySem PySem.Spec PyProof.Rows L2 TL
def lw : PySem.W.OpenLaw := PySem.Challenge.rw_textboxes_k06_readers
theorem all_mk {w : World} {K : PySem.W.Frag} {h : Heap} {mg : Str → Option Value} {fa C cP TP : Addr} {g0 g1 g2 g3 g4 g5 g6 g7 g8 g9 g10 g11 g12 g13 g14 g15 g16 g17 g18 g19 g20 g21 g22 g23 g24 g25 g26 g27 g28 g29 g30 g31 g32 g33 g34 g35 g36 g37 g38 g39 g40 gCinit gCmove gCend gCeq gPletters gPboxes gPplaces gSinit gSmove gSmove_in_parts gSfirst gSbehind gSshown gSended gStold gRinit gRpieces gXNL gXND gDinit gDread gDtext gDstate gDtold gDundo gDagain gDnow gDprogram pPletters pPboxes pPplaces CS CR NL NNL ND NND CD pDprogram : Addr} (X : K.In h) (G : h.Ns mainGlobals mg) (hfa : mg "law" = some (.ref fa)) (ht : ∀ q ∈ [TP], h.get? q = some (PySem.W.tabObj #[]))
    {od0 an0 od1 an1 od2 an2 od3 an3 od4 an4 od5 an5 od6 an6 od7 an7 od8 an8 od9 an9 od10 an10 od11 an11 od12 an12 od13 an13 od14 an14 od15 an15 od16 an16 od17 an17 od18 an18 od19 an19 od20 an20 od21 an21 od22 an22 od23 an23 od24 an24 od25 an25 od26 an26 od27 an27 od28 an28 od29 an29 od30 an30 od31 an31 od32 an32 od33 an33 od34 an34 od35 an35 od36 an36 od37 an37 od38 an38 od39 an39 od40 an40 odCinit anCinit odCmove anCmove odCend anCend odCeq anCeq odPletters anPletters odPboxes anPboxes odPplaces anPplaces odSinit anSinit odSmove anSmove odSmove_in_parts anSmove_in_parts odSfirst anSfirst odSbehind anSbehind odSshown anSshown odSended anSended odStold anStold odRinit anRinit odRpieces anRpieces odXNL anXNL odXND anXND odDinit anDinit odDread anDread odDtext anDtext odDstate anDstate odDtold anDtold odDundo anDundo odDagain anDagain odDnow anDnow odDprogram anDprogram : Option Addr} {sl0 sl1 sl2 sl3 sl4 sl5 sl6 sl7 sl8 sl9 sl10 sl11 sl12 sl13 sl14 sl15 sl16 sl17 sl18 sl19 sl20 sl21 sl22 sl23 sl24 sl25 sl26 sl27 sl28 sl29 sl30 sl31 sl32 sl33 sl34 sl35 sl36 sl37 sl38 sl39 sl40 slCinit slCmove slCend slCeq slPletters slPboxes slPplaces slSinit slSmove slSmove_in_parts slSfirst slSbehind slSshown slSended slStold slRinit slRpieces slXNL slXND slDinit slDread slDtext slDstate slDtold slDundo slDagain slDnow slDprogram : Array (Option Value)} {oc0 kV0 dc0 pm0 cd0 ct0 oc1 kV1 dc1 pm1 cd1 ct1 oc2 kV2 dc2 pm2 cd2 ct2 oc3 kV3 dc3 pm3 cd3 ct3 oc4 kV4 dc4 pm4 cd4 ct4 oc5 kV5 dc5 pm5 cd5 ct5 oc6 kV6 dc6 pm6 cd6 ct6 oc7 kV7 dc7 pm7 cd7 ct7 oc8 kV8 dc8 pm8 cd8 ct8 oc9 kV9 dc9 pm9 cd9 ct9 oc10 kV10 dc10 pm10 cd10 ct10 oc11 kV11 dc11 pm11 cd11 ct11 oc12 kV12 dc12 pm12 cd12 ct12 oc13 kV13 dc13 pm13 cd13 ct13 oc14 kV14 dc14 pm14 cd14 ct14 oc15 kV15 dc15 pm15 cd15 ct15 oc16 kV16 dc16 pm16 cd16 ct16 oc17 kV17 dc17 pm17 cd17 ct17 oc18 kV18 dc18 pm18 cd18 ct18 oc19 kV19 dc19 pm19 cd19 ct19 oc20 kV20 dc20 pm20 cd20 ct20 oc21 kV21 dc21 pm21 cd21 ct21 oc22 kV22 dc22 pm22 cd22 ct22 oc23 kV23 dc23 pm23 cd23 ct23 oc24 kV24 dc24 pm24 cd24 ct24 oc25 kV25 dc25 pm25 cd25 ct25 oc26 kV26 dc26 pm26 cd26 ct26 oc27 kV27 dc27 pm27 cd27 ct27 oc28 kV28 dc28 pm28 cd28 ct28 oc29 kV29 dc29 pm29 cd29 ct29 oc30 kV30 dc30 pm30 cd30 ct30 oc31 kV31 dc31 pm31 cd31 ct31 oc32 kV32 dc32 pm32 cd32 ct32 oc33 kV33 dc33 pm33 cd33 ct33 oc34 kV34 dc34 pm34 cd34 ct34 oc35 kV35 dc35 pm35 cd35 ct35 oc36 kV36 dc36 pm36 cd36 ct36 oc37 kV37 dc37 pm37 cd37 ct37 oc38 kV38 dc38 pm38 cd38 ct38 oc39 kV39 dc39 pm39 cd39 ct39 oc40 kV40 dc40 pm40 ct40 ocCinit kVCinit dcCinit pmCinit cdCinit ctCinit ocCmove kVCmove dcCmove pmCmove cdCmove ctCmove ocCend kVCend dcCend pmCend cdCend ctCend ocCeq kVCeq dcCeq pmCeq cdCeq ctCeq ocPletters kVPletters dcPletters pmPletters cdPletters ctPletters ocPboxes kVPboxes dcPboxes pmPboxes cdPboxes ctPboxes ocPplaces kVPplaces dcPplaces pmPplaces cdPplaces ctPplaces ocSinit kVSinit dcSinit pmSinit cdSinit ctSinit ocSmove kVSmove dcSmove pmSmove cdSmove ctSmove ocSmove_in_parts kVSmove_in_parts dcSmove_in_parts pmSmove_in_parts cdSmove_in_parts ctSmove_in_parts ocSfirst kVSfirst dcSfirst pmSfirst cdSfirst ctSfirst ocSbehind kVSbehind dcSbehind pmSbehind cdSbehind ctSbehind ocSshown kVSshown dcSshown pmSshown cdSshown ctSshown ocSended kVSended dcSended pmSended cdSended ctSended ocStold kVStold dcStold pmStold cdStold ctStold ocRinit kVRinit dcRinit pmRinit cdRinit ctRinit ocRpieces kVRpieces dcRpieces pmRpieces cdRpieces ctRpieces ocXNL kVXNL dcXNL pmXNL cdXNL ctXNL ocXND kVXND dcXND pmXND cdXND ctXND ocDinit kVDinit dcDinit pmDinit cdDinit ctDinit ocDread kVDread dcDread pmDread cdDread ctDread ocDtext kVDtext dcDtext pmDtext cdDtext ctDtext ocDstate kVDstate dcDstate pmDstate cdDstate ctDstate ocDtold kVDtold dcDtold pmDtold cdDtold ctDtold ocDundo kVDundo dcDundo pmDundo cdDundo ctDundo ocDagain kVDagain dcDagain pmDagain cdDagain ctDagain ocDnow kVDnow dcDnow pmDnow cdDnow ctDnow ocDprogram kVDprogram dcDprogram pmDprogram cdDprogram ctDprogram : Value} {rrPletters rrPboxes rrPplaces rrD : List Value} {tk_BOXES tk_LONGEST_NAME tk_MOST_BOXES tk_MOST_LETTERS tk_MOST_PLACES tk_SHORT : Tok}
    {nnNL qqNL : Str} {bsNL bmNL : List Value} {snNL : List Str} {subNL : List Value} {abNL : Bool} {colNL : Option Bool} {ddNL : Option Addr} {m0NL m1NL m2NL m3NL m5NL : Option Value}
    {nnND qqND : Str} {bsND bmND : List Value} {snND : List Str} {subND : List Value} {abND : Bool} {colND : Option Bool} {ddND : Option Addr} {m0ND m1ND m2ND m3ND m5ND : Option Value}
    (a0 : PySem.W.nsIn K mainGlobals "is_text" = some (some (.ref g0))) (k0 : PySem.W.keepIn K (.ref g0) = true)
    (l0 : K.lookup g0 = some ⟨oc0, od0, .func (PySem.W.fnOf "is_text" "is_text" (defArgs sIsText) (defBody sIsText) (defScope sIsText) .none kV0 dc0 pm0 an0 cd0 ct0), sl0⟩) (e0 : PySem.W.codeIn K cd0 "is_text" = true)
    (a1 : PySem.W.nsIn K mainGlobals "is_name" = some (some (.ref g1))) (k1 : PySem.W.keepIn K (.ref g1) = true)
    (l1 : K.lookup g1 = some ⟨oc1, od1, .func (PySem.W.fnOf "is_name" "is_name" (defArgs sIsName) (defBody sIsName) (defScope sIsName) .none kV1 dc1 pm1 an1 cd1 ct1), sl1⟩) (e1 : PySem.W.codeIn K cd1 "is_name" = true)
    (a2 : PySem.W.nsIn K mainGlobals "is_filling" = some (some (.ref g2))) (k2 : PySem.W.keepIn K (.ref g2) = true)
    (l2 : K.lookup g2 = some ⟨oc2, od2, .func (PySem.W.fnOf "is_filling" "is_filling" (defArgs sIsFilling) (defBody sIsFilling) (defScope sIsFilling) .none kV2 dc2 pm2 an2 cd2 ct2), sl2⟩) (e2 : PySem.W.codeIn K cd2 "is_filling" = true)
    (a3 : PySem.W.nsIn K mainGlobals "are_different" = some (some (.ref g3))) (k3 : PySem.W.keepIn K (.ref g3) = true)
    (l3 : K.lookup g3 = some ⟨oc3, od3, .func (PySem.W.fnOf "are_different" "are_different" (defArgs sAreDiff) (defBody sAreDiff) (defScope sAreDiff) .none kV3 dc3 pm3 an3 cd3 ct3), sl3⟩) (e3 : PySem.W.codeIn K cd3 "are_different" = true)
    (a4 : PySem.W.nsIn K mainGlobals "in_order" = some (some (.ref g4))) (k4 : PySem.W.keepIn K (.ref g4) = true)
    (l4 : K.lookup g4 = some ⟨oc4, od4, .func (PySem.W.fnOf "in_order" "in_order" (defArgs sInOrder) (defBody sInOrder) (defScope sInOrder) .none kV4 dc4 pm4 an4 cd4 ct4), sl4⟩) (e4 : PySem.W.codeIn K cd4 "in_order" = true)
    (a5 : PySem.W.nsIn K mainGlobals "are_letters" = some (some (.ref g5))) (k5 : PySem.W.keepIn K (.ref g5) = true)
    (l5 : K.lookup g5 = some ⟨oc5, od5, .func (PySem.W.fnOf "are_letters" "are_letters" (defArgs sAreLetters) (defBody sAreLetters) (defScope sAreLetters) .none kV5 dc5 pm5 an5 cd5 ct5), sl5⟩) (e5 : PySem.W.codeIn K cd5 "are_letters" = true)
    (a6 : PySem.W.nsIn K mainGlobals "are_names" = some (some (.ref g6))) (k6 : PySem.W.keepIn K (.ref g6) = true)
    (l6 : K.lookup g6 = some ⟨oc6, od6, .func (PySem.W.fnOf "are_names" "are_names" (defArgs sAreNames) (defBody sAreNames) (defScope sAreNames) .none kV6 dc6 pm6 an6 cd6 ct6), sl6⟩) (e6 : PySem.W.codeIn K cd6 "are_names" = true)
    (a7 : PySem.W.nsIn K mainGlobals "is_pair" = some (some (.ref g7))) (k7 : PySem.W.keepIn K (.ref g7) = true)
    (l7 : K.lookup g7 = some ⟨oc7, od7, .func (PySem.W.fnOf "is_pair" "is_pair" (defArgs sIsPair) (defBody sIsPair) (defScope sIsPair) .none kV7 dc7 pm7 an7 cd7 ct7), sl7⟩) (e7 : PySem.W.codeIn K cd7 "is_pair" = true)
    (a8 : PySem.W.nsIn K mainGlobals "is_one_of" = some (some (.ref g8))) (k8 : PySem.W.keepIn K (.ref g8) = true)
    (l8 : K.lookup g8 = some ⟨oc8, od8, .func (PySem.W.fnOf "is_one_of" "is_one_of" (defArgs sIsOneOf) (defBody sIsOneOf) (defScope sIsOneOf) .none kV8 dc8 pm8 an8 cd8 ct8), sl8⟩) (e8 : PySem.W.codeIn K cd8 "is_one_of" = true)
    (a9 : PySem.W.nsIn K mainGlobals "_are_boxes" = some (some (.ref g9))) (k9 : PySem.W.keepIn K (.ref g9) = true)
    (l9 : K.lookup g9 = some ⟨oc9, od9, .func (PySem.W.fnOf "_are_boxes" "_are_boxes" (defArgs sAreBoxes) (defBody sAreBoxes) (defScope sAreBoxes) .none kV9 dc9 pm9 an9 cd9 ct9), sl9⟩) (e9 : PySem.W.codeIn K cd9 "_are_boxes" = true)
    (a10 : PySem.W.nsIn K mainGlobals "_are_places" = some (some (.ref g10))) (k10 : PySem.W.keepIn K (.ref g10) = true)
    (l10 : K.lookup g10 = some ⟨oc10, od10, .func (PySem.W.fnOf "_are_places" "_are_places" (defArgs sArePlaces) (defBody sArePlaces) (defScope sArePlaces) .none kV10 dc10 pm10 an10 cd10 ct10), sl10⟩) (e10 : PySem.W.codeIn K cd10 "_are_places" = true)
    (a11 : PySem.W.nsIn K mainGlobals "_are_fillings" = some (some (.ref g11))) (k11 : PySem.W.keepIn K (.ref g11) = true)
    (l11 : K.lookup g11 = some ⟨oc11, od11, .func (PySem.W.fnOf "_are_fillings" "_are_fillings" (defArgs sAreFillings) (defBody sAreFillings) (defScope sAreFillings) .none kV11 dc11 pm11 an11 cd11 ct11), sl11⟩) (e11 : PySem.W.codeIn K cd11 "_are_fillings" = true)
    (a12 : PySem.W.nsIn K mainGlobals "_are_moves" = some (some (.ref g12))) (k12 : PySem.W.keepIn K (.ref g12) = true)
    (l12 : K.lookup g12 = some ⟨oc12, od12, .func (PySem.W.fnOf "_are_moves" "_are_moves" (defArgs sAreMoves) (defBody sAreMoves) (defScope sAreMoves) .none kV12 dc12 pm12 an12 cd12 ct12), sl12⟩) (e12 : PySem.W.codeIn K cd12 "_are_moves" = true)
    (a13 : PySem.W.nsIn K mainGlobals "_are_ends" = some (some (.ref g13))) (k13 : PySem.W.keepIn K (.ref g13) = true)
    (l13 : K.lookup g13 = some ⟨oc13, od13, .func (PySem.W.fnOf "_are_ends" "_are_ends" (defArgs sAreEnds) (defBody sAreEnds) (defScope sAreEnds) .none kV13 dc13 pm13 an13 cd13 ct13), sl13⟩) (e13 : PySem.W.codeIn K cd13 "_are_ends" = true)
    (a14 : PySem.W.nsIn K mainGlobals "_kept_moves" = some (some (.ref g14))) (k14 : PySem.W.keepIn K (.ref g14) = true)
    (l14 : K.lookup g14 = some ⟨oc14, od14, .func (PySem.W.fnOf "_kept_moves" "_kept_moves" (defArgs sKept) (defBody sKept) (defScope sKept) .none kV14 dc14 pm14 an14 cd14 ct14), sl14⟩) (e14 : PySem.W.codeIn K cd14 "_kept_moves" = true)
    (a15 : PySem.W.nsIn K mainGlobals "parts_of" = some (some (.ref g15))) (k15 : PySem.W.keepIn K (.ref g15) = true)
    (l15 : K.lookup g15 = some ⟨oc15, od15, .func (PySem.W.fnOf "parts_of" "parts_of" (defArgs sPartsOf) (defBody sPartsOf) (defScope sPartsOf) .none kV15 dc15 pm15 an15 cd15 ct15), sl15⟩) (e15 : PySem.W.codeIn K cd15 "parts_of" = true)
    (a16 : PySem.W.nsIn K mainGlobals "length_of" = some (some (.ref g16))) (k16 : PySem.W.keepIn K (.ref g16) = true)
    (l16 : K.lookup g16 = some ⟨oc16, od16, .func (PySem.W.fnOf "length_of" "length_of" (defArgs sLenOf) (defBody sLenOf) (defScope sLenOf) .none kV16 dc16 pm16 an16 cd16 ct16), sl16⟩) (e16 : PySem.W.codeIn K cd16 "length_of" = true)
    (a17 : PySem.W.nsIn K mainGlobals "_with_beginning" = some (some (.ref g17))) (k17 : PySem.W.keepIn K (.ref g17) = true)
    (l17 : K.lookup g17 = some ⟨oc17, od17, .func (PySem.W.fnOf "_with_beginning" "_with_beginning" (defArgs sWith) (defBody sWith) (defScope sWith) .none kV17 dc17 pm17 an17 cd17 ct17), sl17⟩) (e17 : PySem.W.codeIn K cd17 "_with_beginning" = true)
    (a18 : PySem.W.nsIn K mainGlobals "put_together" = some (some (.ref g18))) (k18 : PySem.W.keepIn K (.ref g18) = true)
    (l18 : K.lookup g18 = some ⟨oc18, od18, .func (PySem.W.fnOf "put_together" "put_together" (defArgs sPut) (defBody sPut) (defScope sPut) .none kV18 dc18 pm18 an18 cd18 ct18), sl18⟩) (e18 : PySem.W.codeIn K cd18 "put_together" = true)
    (a19 : PySem.W.nsIn K mainGlobals "rope_of" = some (some (.ref g19))) (k19 : PySem.W.keepIn K (.ref g19) = true)
    (l19 : K.lookup g19 = some ⟨oc19, od19, .func (PySem.W.fnOf "rope_of" "rope_of" (defArgs sRopeOf) (defBody sRopeOf) (defScope sRopeOf) .none kV19 dc19 pm19 an19 cd19 ct19), sl19⟩) (e19 : PySem.W.codeIn K cd19 "rope_of" = true)
    (a20 : PySem.W.nsIn K mainGlobals "written" = some (some (.ref g20))) (k20 : PySem.W.keepIn K (.ref g20) = true)
    (l20 : K.lookup g20 = some ⟨oc20, od20, .func (PySem.W.fnOf "written" "written" (defArgs sWritten) (defBody sWritten) (defScope sWritten) .none kV20 dc20 pm20 an20 cd20 ct20), sl20⟩) (e20 : PySem.W.codeIn K cd20 "written" = true)
    (a21 : PySem.W.nsIn K mainGlobals "check_text" = some (some (.ref g21))) (k21 : PySem.W.keepIn K (.ref g21) = true)
    (l21 : K.lookup g21 = some ⟨oc21, od21, .func (PySem.W.fnOf "check_text" "check_text" (defArgs sCheck) (defBody sCheck) (defScope sCheck) .none kV21 dc21 pm21 an21 cd21 ct21), sl21⟩) (e21 : PySem.W.codeIn K cd21 "check_text" = true)
    (a22 : PySem.W.nsIn K mainGlobals "filled" = some (some (.ref g22))) (k22 : PySem.W.keepIn K (.ref g22) = true)
    (l22 : K.lookup g22 = some ⟨oc22, od22, .func (PySem.W.fnOf "filled" "filled" (defArgs sFilled) (defBody sFilled) (defScope sFilled) .none kV22 dc22 pm22 an22 cd22 ct22), sl22⟩) (e22 : PySem.W.codeIn K cd22 "filled" = true)
    (a23 : PySem.W.nsIn K mainGlobals "_law_source" = some (some (.ref g23))) (k23 : PySem.W.keepIn K (.ref g23) = true)
    (l23 : K.lookup g23 = some ⟨oc23, od23, .func (PySem.W.fnOf "_law_source" "_law_source" (defArgs sSource) (defBody sSource) (defScope sSource) .none kV23 dc23 pm23 an23 cd23 ct23), sl23⟩) (e23 : PySem.W.codeIn K cd23 "_law_source" = true)
    (a24 : PySem.W.nsIn K mainGlobals "_law_draw" = some (some (.ref g24))) (k24 : PySem.W.keepIn K (.ref g24) = true)
    (l24 : K.lookup g24 = some ⟨oc24, od24, .func (PySem.W.fnOf "_law_draw" "_law_draw" (defArgs sDraw) (defBody sDraw) (defScope sDraw) .none kV24 dc24 pm24 an24 cd24 ct24), sl24⟩) (e24 : PySem.W.codeIn K cd24 "_law_draw" = true)
    (a25 : PySem.W.nsIn K mainGlobals "_law_pick" = some (some (.ref g25))) (k25 : PySem.W.keepIn K (.ref g25) = true)
    (l25 : K.lookup g25 = some ⟨oc25, od25, .func (PySem.W.fnOf "_law_pick" "_law_pick" (defArgs sPick) (defBody sPick) (defScope sPick) .none kV25 dc25 pm25 an25 cd25 ct25), sl25⟩) (e25 : PySem.W.codeIn K cd25 "_law_pick" = true)
    (a26 : PySem.W.nsIn K mainGlobals "_law_order" = some (some (.ref g26))) (k26 : PySem.W.keepIn K (.ref g26) = true)
    (l26 : K.lookup g26 = some ⟨oc26, od26, .func (PySem.W.fnOf "_law_order" "_law_order" (defArgs sOrder) (defBody sOrder) (defScope sOrder) .none kV26 dc26 pm26 an26 cd26 ct26), sl26⟩) (e26 : PySem.W.codeIn K cd26 "_law_order" = true)
    (a27 : PySem.W.nsIn K mainGlobals "_law_signs" = some (some (.ref g27))) (k27 : PySem.W.keepIn K (.ref g27) = true)
    (l27 : K.lookup g27 = some ⟨oc27, od27, .func (PySem.W.fnOf "_law_signs" "_law_signs" (defArgs sSigns) (defBody sSigns) (defScope sSigns) .none kV27 dc27 pm27 an27 cd27 ct27), sl27⟩) (e27 : PySem.W.codeIn K cd27 "_law_signs" = true)
    (a28 : PySem.W.nsIn K mainGlobals "_law_text" = some (some (.ref g28))) (k28 : PySem.W.keepIn K (.ref g28) = true)
    (l28 : K.lookup g28 = some ⟨oc28, od28, .func (PySem.W.fnOf "_law_text" "_law_text" (defArgs sLText) (defBody sLText) (defScope sLText) .none kV28 dc28 pm28 an28 cd28 ct28), sl28⟩) (e28 : PySem.W.codeIn K cd28 "_law_text" = true)
    (a29 : PySem.W.nsIn K mainGlobals "_law_name" = some (some (.ref g29))) (k29 : PySem.W.keepIn K (.ref g29) = true)
    (l29 : K.lookup g29 = some ⟨oc29, od29, .func (PySem.W.fnOf "_law_name" "_law_name" (defArgs sName) (defBody sName) (defScope sName) .none kV29 dc29 pm29 an29 cd29 ct29), sl29⟩) (e29 : PySem.W.codeIn K cd29 "_law_name" = true)
    (a30 : PySem.W.nsIn K mainGlobals "_law_names" = some (some (.ref g30))) (k30 : PySem.W.keepIn K (.ref g30) = true)
    (l30 : K.lookup g30 = some ⟨oc30, od30, .func (PySem.W.fnOf "_law_names" "_law_names" (defArgs sNames) (defBody sNames) (defScope sNames) .none kV30 dc30 pm30 an30 cd30 ct30), sl30⟩) (e30 : PySem.W.codeIn K cd30 "_law_names" = true)
    (a31 : PySem.W.nsIn K mainGlobals "_law_piece" = some (some (.ref g31))) (k31 : PySem.W.keepIn K (.ref g31) = true)
    (l31 : K.lookup g31 = some ⟨oc31, od31, .func (PySem.W.fnOf "_law_piece" "_law_piece" (defArgs sPiece) (defBody sPiece) (defScope sPiece) .none kV31 dc31 pm31 an31 cd31 ct31), sl31⟩) (e31 : PySem.W.codeIn K cd31 "_law_piece" = true)
    (a32 : PySem.W.nsIn K mainGlobals "_law_fill" = some (some (.ref g32))) (k32 : PySem.W.keepIn K (.ref g32) = true)
    (l32 : K.lookup g32 = some ⟨oc32, od32, .func (PySem.W.fnOf "_law_fill" "_law_fill" (defArgs sFill) (defBody sFill) (defScope sFill) .none kV32 dc32 pm32 an32 cd32 ct32), sl32⟩) (e32 : PySem.W.codeIn K cd32 "_law_fill" = true)
    (a33 : PySem.W.nsIn K mainGlobals "_law_program" = some (some (.ref g33))) (k33 : PySem.W.keepIn K (.ref g33) = true)
    (l33 : K.lookup g33 = some ⟨oc33, od33, .func (PySem.W.fnOf "_law_program" "_law_program" (defArgs sProgram) (defBody sProgram) (defScope sProgram) .none kV33 dc33 pm33 an33 cd33 ct33), sl33⟩) (e33 : PySem.W.codeIn K cd33 "_law_program" = true)
    (a34 : PySem.W.nsIn K mainGlobals "_law_made" = some (some (.ref g34))) (k34 : PySem.W.keepIn K (.ref g34) = true)
    (l34 : K.lookup g34 = some ⟨oc34, od34, .func (PySem.W.fnOf "_law_made" "_law_made" (defArgs sMade) (defBody sMade) (defScope sMade) .none kV34 dc34 pm34 an34 cd34 ct34), sl34⟩) (e34 : PySem.W.codeIn K cd34 "_law_made" = true)
    (a35 : PySem.W.nsIn K mainGlobals "_law_filled" = some (some (.ref g35))) (k35 : PySem.W.keepIn K (.ref g35) = true)
    (l35 : K.lookup g35 = some ⟨oc35, od35, .func (PySem.W.fnOf "_law_filled" "_law_filled" (defArgs sLFilled) (defBody sLFilled) (defScope sLFilled) .none kV35 dc35 pm35 an35 cd35 ct35), sl35⟩) (e35 : PySem.W.codeIn K cd35 "_law_filled" = true)
    (a36 : PySem.W.nsIn K mainGlobals "_law_state" = some (some (.ref g36))) (k36 : PySem.W.keepIn K (.ref g36) = true)
    (l36 : K.lookup g36 = some ⟨oc36, od36, .func (PySem.W.fnOf "_law_state" "_law_state" (defArgs sLState) (defBody sLState) (defScope sLState) .none kV36 dc36 pm36 an36 cd36 ct36), sl36⟩) (e36 : PySem.W.codeIn K cd36 "_law_state" = true)
    (a37 : PySem.W.nsIn K mainGlobals "_law_told" = some (some (.ref g37))) (k37 : PySem.W.keepIn K (.ref g37) = true)
    (l37 : K.lookup g37 = some ⟨oc37, od37, .func (PySem.W.fnOf "_law_told" "_law_told" (defArgs sLTold) (defBody sLTold) (defScope sLTold) .none kV37 dc37 pm37 an37 cd37 ct37), sl37⟩) (e37 : PySem.W.codeIn K cd37 "_law_told" = true)
    (a38 : PySem.W.nsIn K mainGlobals "_law_tried" = some (some (.ref g38))) (k38 : PySem.W.keepIn K (.ref g38) = true)
    (l38 : K.lookup g38 = some ⟨oc38, od38, .func (PySem.W.fnOf "_law_tried" "_law_tried" (defArgs sTried) (defBody sTried) (defScope sTried) .none kV38 dc38 pm38 an38 cd38 ct38), sl38⟩) (e38 : PySem.W.codeIn K cd38 "_law_tried" = true)
    (a39 : PySem.W.nsIn K mainGlobals "_law_is_now" = some (some (.ref g39))) (k39 : PySem.W.keepIn K (.ref g39) = true)
    (l39 : K.lookup g39 = some ⟨oc39, od39, .func (PySem.W.fnOf "_law_is_now" "_law_is_now" (defArgs sIsNow) (defBody sIsNow) (defScope sIsNow) .none kV39 dc39 pm39 an39 cd39 ct39), sl39⟩) (e39 : PySem.W.codeIn K cd39 "_law_is_now" = true)
    (a40 : PySem.W.nsIn K mainGlobals "law" = some (some (.ref g40))) (k40 : PySem.W.keepIn K (.ref g40) = true)
    (l40 : K.lookup g40 = some ⟨oc40, od40, .func (PySem.W.fnOf "law" "law" (defArgs sLawR) (defBody sLawR) (defScope sLawR) .none kV40 dc40 pm40 an40 (.ref cP) ct40), sl40⟩) (e40 : PySem.W.codeIn K (.ref cP) "law" = true)
    (aC : PySem.W.nsIn K mainGlobals "Program" = some (some (.ref C))) (pgC : PySem.W.plainGet K C Str.empty = true) (hdC : PySem.W.hasDictIn K C = true) (poC : PySem.W.plainOver K C = true) (saC : PySem.W.findIn K (.ref C) "__setattr__" = some (some (.builtin "object.__setattr__"))) (mkC : PySem.W.makesIn K C = true) (kcC : PySem.W.keepIn K (.ref C) = true)
    (aCinit : PySem.W.findIn K (.ref C) "__init__" = some (some (.ref gCinit))) (iCinit : PySem.W.isFn K (.ref gCinit) = true) (kCinit : PySem.W.keepIn K (.ref gCinit) = true)
    (lCinit : K.lookup gCinit = some ⟨ocCinit, odCinit, .func (PySem.W.fnOf "__init__" "Program.__init__" (defArgs sInit) (defBody sInit) (defScope sInit) .none kVCinit dcCinit pmCinit anCinit cdCinit ctCinit), slCinit⟩) (eCinit : PySem.W.codeIn K cdCinit "Program.__init__" = true)
    (aCmove : PySem.W.findIn K (.ref C) "move" = some (some (.ref gCmove))) (iCmove : PySem.W.isFn K (.ref gCmove) = true) (kCmove : PySem.W.keepIn K (.ref gCmove) = true)
    (lCmove : K.lookup gCmove = some ⟨ocCmove, odCmove, .func (PySem.W.fnOf "move" "Program.move" (defArgs sMove) (defBody sMove) (defScope sMove) .none kVCmove dcCmove pmCmove anCmove cdCmove ctCmove), slCmove⟩) (eCmove : PySem.W.codeIn K cdCmove "Program.move" = true)
    (aCend : PySem.W.findIn K (.ref C) "end" = some (some (.ref gCend))) (iCend : PySem.W.isFn K (.ref gCend) = true) (kCend : PySem.W.keepIn K (.ref gCend) = true)
    (lCend : K.lookup gCend = some ⟨ocCend, odCend, .func (PySem.W.fnOf "end" "Program.end" (defArgs sEnd) (defBody sEnd) (defScope sEnd) .none kVCend dcCend pmCend anCend cdCend ctCend), slCend⟩) (eCend : PySem.W.codeIn K cdCend "Program.end" = true)
    (aCeq : PySem.W.findIn K (.ref C) "__eq__" = some (some (.ref gCeq))) (iCeq : PySem.W.isFn K (.ref gCeq) = true) (kCeq : PySem.W.keepIn K (.ref gCeq) = true)
    (lCeq : K.lookup gCeq = some ⟨ocCeq, odCeq, .func (PySem.W.fnOf "__eq__" "Program.__eq__" (defArgs sEq) (defBody sEq) (defScope sEq) .none kVCeq dcCeq pmCeq anCeq cdCeq ctCeq), slCeq⟩) (eCeq : PySem.W.codeIn K cdCeq "Program.__eq__" = true)
    (aPletters : PySem.W.findIn K (.ref C) "letters" = some (some (.ref pPletters))) (sPletters : PySem.W.specialIn K (.ref pPletters) "__get__" = some (some (.builtin "property.__get__"))) (tPletters : PySem.W.takesIn K (.ref pPletters) = some true) (rPletters : PySem.W.recIn K pPletters "property" = some (.ref gPletters :: rrPletters)) (kPletters : PySem.W.keepIn K (.ref gPletters) = true)
    (lPletters : K.lookup gPletters = some ⟨ocPletters, odPletters, .func (PySem.W.fnOf "letters" "Program.letters" (defArgs sLettersP) (defBody sLettersP) (defScope sLettersP) .none kVPletters dcPletters pmPletters anPletters cdPletters ctPletters), slPletters⟩) (ePletters : PySem.W.codeIn K cdPletters "Program.letters" = true)
    (aPboxes : PySem.W.findIn K (.ref C) "boxes" = some (some (.ref pPboxes))) (sPboxes : PySem.W.specialIn K (.ref pPboxes) "__get__" = some (some (.builtin "property.__get__"))) (tPboxes : PySem.W.takesIn K (.ref pPboxes) = some true) (rPboxes : PySem.W.recIn K pPboxes "property" = some (.ref gPboxes :: rrPboxes)) (kPboxes : PySem.W.keepIn K (.ref gPboxes) = true)
    (lPboxes : K.lookup gPboxes = some ⟨ocPboxes, odPboxes, .func (PySem.W.fnOf "boxes" "Program.boxes" (defArgs sBoxesP) (defBody sBoxesP) (defScope sBoxesP) .none kVPboxes dcPboxes pmPboxes anPboxes cdPboxes ctPboxes), slPboxes⟩) (ePboxes : PySem.W.codeIn K cdPboxes "Program.boxes" = true)
    (aPplaces : PySem.W.findIn K (.ref C) "places" = some (some (.ref pPplaces))) (sPplaces : PySem.W.specialIn K (.ref pPplaces) "__get__" = some (some (.builtin "property.__get__"))) (tPplaces : PySem.W.takesIn K (.ref pPplaces) = some true) (rPplaces : PySem.W.recIn K pPplaces "property" = some (.ref gPplaces :: rrPplaces)) (kPplaces : PySem.W.keepIn K (.ref gPplaces) = true)
    (lPplaces : K.lookup gPplaces = some ⟨ocPplaces, odPplaces, .func (PySem.W.fnOf "places" "Program.places" (defArgs sPlacesP) (defBody sPlacesP) (defScope sPlacesP) .none kVPplaces dcPplaces pmPplaces anPplaces cdPplaces ctPplaces), slPplaces⟩) (ePplaces : PySem.W.codeIn K cdPplaces "Program.places" = true)
    (is1 : PySem.W.findIn K (.ref C) "__class__" = some (some (.builtin "object.__class__"))) (is2 : PySem.W.specialIn K (.builtin "object.__class__") "__get__" = some (some (.builtin "getset_descriptor.__get__"))) (is3 : PySem.W.takesIn K (.builtin "object.__class__") = some true) (is4 : PySem.W.mroIn K C (.type "object") = some true)
    (n_letters : PySem.W.findIn K (.ref C) "_letters" = some none)
    (n_boxes : PySem.W.findIn K (.ref C) "_boxes" = some none)
    (n_places : PySem.W.findIn K (.ref C) "_places" = some none)
    (n_moves : PySem.W.findIn K (.ref C) "_moves" = some none)
    (n_ends : PySem.W.findIn K (.ref C) "_ends" = some none)
    (aS : PySem.W.nsIn K mainGlobals "Steps" = some (some (.ref CS))) (pgS : PySem.W.plainGet K CS Str.empty = true) (hdS : PySem.W.hasDictIn K CS = true) (poS : PySem.W.plainOver K CS = true) (saS : PySem.W.findIn K (.ref CS) "__setattr__" = some (some (.builtin "object.__setattr__"))) (mkS : PySem.W.makesIn K CS = true) (kcS : PySem.W.keepIn K (.ref CS) = true)
    (aSinit : PySem.W.findIn K (.ref CS) "__init__" = some (some (.ref gSinit))) (iSinit : PySem.W.isFn K (.ref gSinit) = true) (kSinit : PySem.W.keepIn K (.ref gSinit) = true)
    (lSinit : K.lookup gSinit = some ⟨ocSinit, odSinit, .func (PySem.W.fnOf "__init__" "Steps.__init__" (defArgs sStInit) (defBody sStInit) (defScope sStInit) .none kVSinit dcSinit pmSinit anSinit cdSinit ctSinit), slSinit⟩) (eSinit : PySem.W.codeIn K cdSinit "Steps.__init__" = true)
    (aSmove : PySem.W.findIn K (.ref CS) "move" = some (some (.ref gSmove))) (iSmove : PySem.W.isFn K (.ref gSmove) = true) (kSmove : PySem.W.keepIn K (.ref gSmove) = true)
    (lSmove : K.lookup gSmove = some ⟨ocSmove, odSmove, .func (PySem.W.fnOf "move" "Steps.move" (defArgs sStMove) (defBody sStMove) (defScope sStMove) .none kVSmove dcSmove pmSmove anSmove cdSmove ctSmove), slSmove⟩) (eSmove : PySem.W.codeIn K cdSmove "Steps.move" = true)
    (aSmove_in_parts : PySem.W.findIn K (.ref CS) "_move_in_parts" = some (some (.ref gSmove_in_parts))) (iSmove_in_parts : PySem.W.isFn K (.ref gSmove_in_parts) = true) (kSmove_in_parts : PySem.W.keepIn K (.ref gSmove_in_parts) = true)
    (lSmove_in_parts : K.lookup gSmove_in_parts = some ⟨ocSmove_in_parts, odSmove_in_parts, .func (PySem.W.fnOf "_move_in_parts" "Steps._move_in_parts" (defArgs sStMip) (defBody sStMip) (defScope sStMip) .none kVSmove_in_parts dcSmove_in_parts pmSmove_in_parts anSmove_in_parts cdSmove_in_parts ctSmove_in_parts), slSmove_in_parts⟩) (eSmove_in_parts : PySem.W.codeIn K cdSmove_in_parts "Steps._move_in_parts" = true)
    (aSfirst : PySem.W.findIn K (.ref CS) "first" = some (some (.ref gSfirst))) (iSfirst : PySem.W.isFn K (.ref gSfirst) = true) (kSfirst : PySem.W.keepIn K (.ref gSfirst) = true)
    (lSfirst : K.lookup gSfirst = some ⟨ocSfirst, odSfirst, .func (PySem.W.fnOf "first" "Steps.first" (defArgs sStFirst) (defBody sStFirst) (defScope sStFirst) .none kVSfirst dcSfirst pmSfirst anSfirst cdSfirst ctSfirst), slSfirst⟩) (eSfirst : PySem.W.codeIn K cdSfirst "Steps.first" = true)
    (aSbehind : PySem.W.findIn K (.ref CS) "behind" = some (some (.ref gSbehind))) (iSbehind : PySem.W.isFn K (.ref gSbehind) = true) (kSbehind : PySem.W.keepIn K (.ref gSbehind) = true)
    (lSbehind : K.lookup gSbehind = some ⟨ocSbehind, odSbehind, .func (PySem.W.fnOf "behind" "Steps.behind" (defArgs sStBehind) (defBody sStBehind) (defScope sStBehind) .none kVSbehind dcSbehind pmSbehind anSbehind cdSbehind ctSbehind), slSbehind⟩) (eSbehind : PySem.W.codeIn K cdSbehind "Steps.behind" = true)
    (aSshown : PySem.W.findIn K (.ref CS) "shown" = some (some (.ref gSshown))) (iSshown : PySem.W.isFn K (.ref gSshown) = true) (kSshown : PySem.W.keepIn K (.ref gSshown) = true)
    (lSshown : K.lookup gSshown = some ⟨ocSshown, odSshown, .func (PySem.W.fnOf "shown" "Steps.shown" (defArgs sStShown) (defBody sStShown) (defScope sStShown) .none kVSshown dcSshown pmSshown anSshown cdSshown ctSshown), slSshown⟩) (eSshown : PySem.W.codeIn K cdSshown "Steps.shown" = true)
    (aSended : PySem.W.findIn K (.ref CS) "ended" = some (some (.ref gSended))) (iSended : PySem.W.isFn K (.ref gSended) = true) (kSended : PySem.W.keepIn K (.ref gSended) = true)
    (lSended : K.lookup gSended = some ⟨ocSended, odSended, .func (PySem.W.fnOf "ended" "Steps.ended" (defArgs sStEnded) (defBody sStEnded) (defScope sStEnded) .none kVSended dcSended pmSended anSended cdSended ctSended), slSended⟩) (eSended : PySem.W.codeIn K cdSended "Steps.ended" = true)
    (aStold : PySem.W.findIn K (.ref CS) "told" = some (some (.ref gStold))) (iStold : PySem.W.isFn K (.ref gStold) = true) (kStold : PySem.W.keepIn K (.ref gStold) = true)
    (lStold : K.lookup gStold = some ⟨ocStold, odStold, .func (PySem.W.fnOf "told" "Steps.told" (defArgs sStTold) (defBody sStTold) (defScope sStTold) .none kVStold dcStold pmStold anStold cdStold ctStold), slStold⟩) (eStold : PySem.W.codeIn K cdStold "Steps.told" = true)
    (nS_program : PySem.W.findIn K (.ref CS) "_program" = some none)
    (nS_boxes : PySem.W.findIn K (.ref CS) "_boxes" = some none)
    (nS_moves : PySem.W.findIn K (.ref CS) "_moves" = some none)
    (aR : PySem.W.nsIn K mainGlobals "Rope" = some (some (.ref CR))) (pgR : PySem.W.plainGet K CR Str.empty = true) (hdR : PySem.W.hasDictIn K CR = true) (poR : PySem.W.plainOver K CR = true) (saR : PySem.W.findIn K (.ref CR) "__setattr__" = some (some (.builtin "object.__setattr__"))) (mkR : PySem.W.makesIn K CR = true) (kcR : PySem.W.keepIn K (.ref CR) = true)
    (aRinit : PySem.W.findIn K (.ref CR) "__init__" = some (some (.ref gRinit))) (iRinit : PySem.W.isFn K (.ref gRinit) = true) (kRinit : PySem.W.keepIn K (.ref gRinit) = true)
    (lRinit : K.lookup gRinit = some ⟨ocRinit, odRinit, .func (PySem.W.fnOf "__init__" "Rope.__init__" (defArgs sRpInit) (defBody sRpInit) (defScope sRpInit) .none kVRinit dcRinit pmRinit anRinit cdRinit ctRinit), slRinit⟩) (eRinit : PySem.W.codeIn K cdRinit "Rope.__init__" = true)
    (aRpieces : PySem.W.findIn K (.ref CR) "pieces" = some (some (.ref gRpieces))) (iRpieces : PySem.W.isFn K (.ref gRpieces) = true) (kRpieces : PySem.W.keepIn K (.ref gRpieces) = true)
    (lRpieces : K.lookup gRpieces = some ⟨ocRpieces, odRpieces, .func (PySem.W.fnOf "pieces" "Rope.pieces" (defArgs sRpPieces) (defBody sRpPieces) (defScope sRpPieces) .none kVRpieces dcRpieces pmRpieces anRpieces cdRpieces ctRpieces), slRpieces⟩) (eRpieces : PySem.W.codeIn K cdRpieces "Rope.pieces" = true)
    (nR_left : PySem.W.findIn K (.ref CR) "left" = some none)
    (nR_middle : PySem.W.findIn K (.ref CR) "middle" = some none)
    (nR_right : PySem.W.findIn K (.ref CR) "right" = some none)
    (nR_length : PySem.W.findIn K (.ref CR) "length" = some none)
    (rs1 : PySem.W.findIn K (.ref CR) "__class__" = some (some (.builtin "object.__class__"))) (rs4 : PySem.W.mroIn K CR (.type "object") = some true) (rs5 : PySem.W.kitOne K (.ref CR) (.type "str") = some false) (rs6 : PySem.W.findIn K (.ref CR) "__eq__" = some (some (.builtin "object.__eq__")))
    (aNL : PySem.W.nsIn K mainGlobals "NotLetter" = some (some (.ref NL))) (xNL : K.lookup NL = some (excClassObj nnNL qqNL NL NNL bsNL bmNL true snNL subNL abNL colNL ddNL m0NL m1NL m2NL m3NL m5NL "ValueError.__new__")) (hbNL : PySem.HandSPX.refsVE bmNL = true)
    (saNL : PySem.W.findIn K (.ref NL) "__setattr__" = some (some (.builtin "object.__setattr__"))) (eCNL : PySem.W.subIn K (.ref NL) (.type "BaseException") = some true) (tCNL : PySem.W.typeIn K (.ref NL) = some (.type "type")) (kCNL : PySem.W.keepIn K (.ref NL) = true)
    (aXNL : PySem.W.findIn K (.ref NL) "__init__" = some (some (.ref gXNL))) (tXNL : PySem.W.typeIn K (.ref gXNL) = some (.type "function")) (kXNL : PySem.W.keepIn K (.ref gXNL) = true)
    (lXNL : K.lookup gXNL = some ⟨ocXNL, odXNL, .func (PySem.W.fnOf "__init__" "NotLetter.__init__" (defArgs sNlInit) (defBody sNlInit) (defScope sNlInit) .none kVXNL dcXNL pmXNL anXNL cdXNL ctXNL), slXNL⟩) (eXNL : PySem.W.codeIn K cdXNL "NotLetter.__init__" = true)
    (aND : PySem.W.nsIn K mainGlobals "NoDeed" = some (some (.ref ND))) (xND : K.lookup ND = some (excClassObj nnND qqND ND NND bsND bmND true snND subND abND colND ddND m0ND m1ND m2ND m3ND m5ND "ValueError.__new__")) (hbND : PySem.HandSPX.refsVE bmND = true)
    (saND : PySem.W.findIn K (.ref ND) "__setattr__" = some (some (.builtin "object.__setattr__"))) (eCND : PySem.W.subIn K (.ref ND) (.type "BaseException") = some true) (tCND : PySem.W.typeIn K (.ref ND) = some (.type "type")) (kCND : PySem.W.keepIn K (.ref ND) = true)
    (aXND : PySem.W.findIn K (.ref ND) "__init__" = some (some (.ref gXND))) (tXND : PySem.W.typeIn K (.ref gXND) = some (.type "function")) (kXND : PySem.W.keepIn K (.ref gXND) = true)
    (lXND : K.lookup gXND = some ⟨ocXND, odXND, .func (PySem.W.fnOf "__init__" "NoDeed.__init__" (defArgs sNdInit) (defBody sNdInit) (defScope sNdInit) .none kVXND dcXND pmXND anXND cdXND ctXND), slXND⟩) (eXND : PySem.W.codeIn K cdXND "NoDeed.__init__" = true)
    (gaNL : PySem.W.findIn K (.ref NL) "__getattribute__" = some (some (.builtin "BaseException.__getattribute__"))) (ggNL : PySem.W.findIn K (.ref NL) "__getattr__" = some none) (hdNL : PySem.W.hasDictIn K NL = true) (nfNL : PySem.W.findIn K (.ref NL) "letter" = some none)
    (em1 : PySem.W.exmOne K (.ref NL) (.ref NL) = some true) (em2 : PySem.W.exmOne K (.ref ND) (.ref NL) = some false) (em3 : PySem.W.exmOne K (.ref ND) (.ref ND) = some true)
    (aD : PySem.W.nsIn K mainGlobals "Reader" = some (some (.ref CD))) (pgD : PySem.W.plainGet K CD Str.empty = true) (hdD : PySem.W.hasDictIn K CD = true) (poD : PySem.W.plainOver K CD = true) (saD : PySem.W.findIn K (.ref CD) "__setattr__" = some (some (.builtin "object.__setattr__"))) (mkD : PySem.W.makesIn K CD = true) (kcD : PySem.W.keepIn K (.ref CD) = true)
    (aDinit : PySem.W.findIn K (.ref CD) "__init__" = some (some (.ref gDinit))) (iDinit : PySem.W.isFn K (.ref gDinit) = true) (kDinit : PySem.W.keepIn K (.ref gDinit) = true)
    (lDinit : K.lookup gDinit = some ⟨ocDinit, odDinit, .func (PySem.W.fnOf "__init__" "Reader.__init__" (defArgs sRdInit) (defBody sRdInit) (defScope sRdInit) .none kVDinit dcDinit pmDinit anDinit cdDinit ctDinit), slDinit⟩) (eDinit : PySem.W.codeIn K cdDinit "Reader.__init__" = true)
    (aDread : PySem.W.findIn K (.ref CD) "read" = some (some (.ref gDread))) (iDread : PySem.W.isFn K (.ref gDread) = true) (kDread : PySem.W.keepIn K (.ref gDread) = true)
    (lDread : K.lookup gDread = some ⟨ocDread, odDread, .func (PySem.W.fnOf "read" "Reader.read" (defArgs sRdRead) (defBody sRdRead) (defScope sRdRead) .none kVDread dcDread pmDread anDread cdDread ctDread), slDread⟩) (eDread : PySem.W.codeIn K cdDread "Reader.read" = true)
    (aDtext : PySem.W.findIn K (.ref CD) "text" = some (some (.ref gDtext))) (iDtext : PySem.W.isFn K (.ref gDtext) = true) (kDtext : PySem.W.keepIn K (.ref gDtext) = true)
    (lDtext : K.lookup gDtext = some ⟨ocDtext, odDtext, .func (PySem.W.fnOf "text" "Reader.text" (defArgs sRdText) (defBody sRdText) (defScope sRdText) .none kVDtext dcDtext pmDtext anDtext cdDtext ctDtext), slDtext⟩) (eDtext : PySem.W.codeIn K cdDtext "Reader.text" = true)
    (aDstate : PySem.W.findIn K (.ref CD) "state" = some (some (.ref gDstate))) (iDstate : PySem.W.isFn K (.ref gDstate) = true) (kDstate : PySem.W.keepIn K (.ref gDstate) = true)
    (lDstate : K.lookup gDstate = some ⟨ocDstate, odDstate, .func (PySem.W.fnOf "state" "Reader.state" (defArgs sRdState) (defBody sRdState) (defScope sRdState) .none kVDstate dcDstate pmDstate anDstate cdDstate ctDstate), slDstate⟩) (eDstate : PySem.W.codeIn K cdDstate "Reader.state" = true)
    (aDtold : PySem.W.findIn K (.ref CD) "told" = some (some (.ref gDtold))) (iDtold : PySem.W.isFn K (.ref gDtold) = true) (kDtold : PySem.W.keepIn K (.ref gDtold) = true)
    (lDtold : K.lookup gDtold = some ⟨ocDtold, odDtold, .func (PySem.W.fnOf "told" "Reader.told" (defArgs sRdTold) (defBody sRdTold) (defScope sRdTold) .none kVDtold dcDtold pmDtold anDtold cdDtold ctDtold), slDtold⟩) (eDtold : PySem.W.codeIn K cdDtold "Reader.told" = true)
    (aDundo : PySem.W.findIn K (.ref CD) "undo" = some (some (.ref gDundo))) (iDundo : PySem.W.isFn K (.ref gDundo) = true) (kDundo : PySem.W.keepIn K (.ref gDundo) = true)
    (lDundo : K.lookup gDundo = some ⟨ocDundo, odDundo, .func (PySem.W.fnOf "undo" "Reader.undo" (defArgs sRdUndo) (defBody sRdUndo) (defScope sRdUndo) .none kVDundo dcDundo pmDundo anDundo cdDundo ctDundo), slDundo⟩) (eDundo : PySem.W.codeIn K cdDundo "Reader.undo" = true)
    (aDagain : PySem.W.findIn K (.ref CD) "again" = some (some (.ref gDagain))) (iDagain : PySem.W.isFn K (.ref gDagain) = true) (kDagain : PySem.W.keepIn K (.ref gDagain) = true)
    (lDagain : K.lookup gDagain = some ⟨ocDagain, odDagain, .func (PySem.W.fnOf "again" "Reader.again" (defArgs sRdAgain) (defBody sRdAgain) (defScope sRdAgain) .none kVDagain dcDagain pmDagain anDagain cdDagain ctDagain), slDagain⟩) (eDagain : PySem.W.codeIn K cdDagain "Reader.again" = true)
    (aDnow : PySem.W.findIn K (.ref CD) "_now" = some (some (.ref gDnow))) (iDnow : PySem.W.isFn K (.ref gDnow) = true) (kDnow : PySem.W.keepIn K (.ref gDnow) = true)
    (lDnow : K.lookup gDnow = some ⟨ocDnow, odDnow, .func (PySem.W.fnOf "_now" "Reader._now" (defArgs sRdNow) (defBody sRdNow) (defScope sRdNow) .none kVDnow dcDnow pmDnow anDnow cdDnow ctDnow), slDnow⟩) (eDnow : PySem.W.codeIn K cdDnow "Reader._now" = true)
    (aDprogram : PySem.W.findIn K (.ref CD) "program" = some (some (.ref pDprogram))) (sDprogram : PySem.W.specialIn K (.ref pDprogram) "__get__" = some (some (.builtin "property.__get__"))) (tDprogram : PySem.W.takesIn K (.ref pDprogram) = some true) (rDprogram : PySem.W.recIn K pDprogram "property" = some (.ref gDprogram :: rrD)) (kDprogram : PySem.W.keepIn K (.ref gDprogram) = true)
    (lDprogram : K.lookup gDprogram = some ⟨ocDprogram, odDprogram, .func (PySem.W.fnOf "program" "Reader.program" (defArgs sRdProgram) (defBody sRdProgram) (defScope sRdProgram) .none kVDprogram dcDprogram pmDprogram anDprogram cdDprogram ctDprogram), slDprogram⟩) (eDprogram : PySem.W.codeIn K cdDprogram "Reader.program" = true)
    (nD_program : PySem.W.findIn K (.ref CD) "_program" = some none)
    (nD_steps : PySem.W.findIn K (.ref CD) "_steps" = some none)
    (nD_done : PySem.W.findIn K (.ref CD) "_done" = some none)
    (nD_undone : PySem.W.findIn K (.ref CD) "_undone" = some none)
    (ne1 : CD ≠ CR) (ne2 : CD ≠ CS) (ne3 : CD ≠ C)
    (hdP : PySem.W.codeHdIn K cP TP = true) (nlP : K.lookup TP = none)
    (z_all : PySem.W.nsIn K mainGlobals "all" = some none)
    (z_dict : PySem.W.nsIn K mainGlobals "dict" = some none)
    (z_int : PySem.W.nsIn K mainGlobals "int" = some none)
    (z_isinstance : PySem.W.nsIn K mainGlobals "isinstance" = some none)
    (z_len : PySem.W.nsIn K mainGlobals "len" = some none)
    (z_list : PySem.W.nsIn K mainGlobals "list" = some none)
    (z_range : PySem.W.nsIn K mainGlobals "range" = some none)
    (z_repr : PySem.W.nsIn K mainGlobals "repr" = some none)
    (z_set : PySem.W.nsIn K mainGlobals "set" = some none)
    (z_sorted : PySem.W.nsIn K mainGlobals "sorted" = some none)
    (z_str : PySem.W.nsIn K mainGlobals "str" = some none)
    (z_tuple : PySem.W.nsIn K mainGlobals "tuple" = some none)
    (v_BOXES : PySem.W.nsIn K mainGlobals "BOXES" = some (some (.str (Str.ofString "ABCDEFGHIJKLMNOPQRSTUVWXYZ") tk_BOXES)))
    (v_LONGEST_NAME : PySem.W.nsIn K mainGlobals "LONGEST_NAME" = some (some (.int 8 tk_LONGEST_NAME)))
    (v_MOST_BOXES : PySem.W.nsIn K mainGlobals "MOST_BOXES" = some (some (.int 6 tk_MOST_BOXES)))
    (v_MOST_LETTERS : PySem.W.nsIn K mainGlobals "MOST_LETTERS" = some (some (.int 5 tk_MOST_LETTERS)))
    (v_MOST_PLACES : PySem.W.nsIn K mainGlobals "MOST_PLACES" = some (some (.int 50 tk_MOST_PLACES)))
    (v_SHORT : PySem.W.nsIn K mainGlobals "SHORT" = some (some (.int 500 tk_SHORT)))
    : LawG lw.prog w K 12 63 "_law_script" mg fa h := by
  have e := hfa.symm.trans (PySem.W.mg_of X G a40)
  cases e
  refine ⟨PySem.W.fnOf "law" "law" (defArgs sLawR) (defBody sLawR) (defScope sLawR) .none kV40 dc40 pm40 an40 (.ref cP) ct40, [(cP, TP)], spLawR K TP, fun p hp => by rw [List.mem_singleton.mp hp]; exact ⟨ht _ (List.mem_singleton.mpr rfl), nlP, PySem.W.codeHd_of_K X hdP⟩, fun s v => .of_eq rfl, fun H a ns _ hT hS => ⟨a, ns, rfl, hS, hT _ (List.mem_singleton.mpr rfl), fun _ => rfl⟩, fun base _ _ hTB => ?_⟩
  have TB : LamX.TabB base mg cP TP := hTB _ (List.mem_singleton.mpr rfl)
  have T : PrTxt K mg C := ⟨⟨pgC, hdC, poC, saC⟩, n_letters, n_boxes, n_places, n_moves, n_ends, PySem.W.mg_of X G aC⟩
  have IS : PrIs K C := ⟨is1, is2, is3, is4⟩
  have m_all := PySem.W.mg_none_of X G z_all
  have m_dict := PySem.W.mg_none_of X G z_dict
  have m_int := PySem.W.mg_none_of X G z_int
  have m_isinstance := PySem.W.mg_none_of X G z_isinstance
  have m_len := PySem.W.mg_none_of X G z_len
  have m_list := PySem.W.mg_none_of X G z_list
  have m_range := PySem.W.mg_none_of X G z_range
  have m_repr := PySem.W.mg_none_of X G z_repr
  have m_set := PySem.W.mg_none_of X G z_set
  have m_sorted := PySem.W.mg_none_of X G z_sorted
  have m_str := PySem.W.mg_none_of X G z_str
  have m_tuple := PySem.W.mg_none_of X G z_tuple
  have c_BOXES := PySem.W.mg_of X G v_BOXES
  have c_LONGEST_NAME := PySem.W.mg_of X G v_LONGEST_NAME
  have c_MOST_BOXES := PySem.W.mg_of X G v_MOST_BOXES
  have c_MOST_LETTERS := PySem.W.mg_of X G v_MOST_LETTERS
  have c_MOST_PLACES := PySem.W.mg_of X G v_MOST_PLACES
  have c_SHORT := PySem.W.mg_of X G v_SHORT
  have F0 := fun_mk (st := sIsText) l0 e0 k0
  have D_is_text : Df lw.prog w K mg base 1 "is_text" ["thing"] (spIsText K) := ⟨⟨_, _, ok_isText (k := 0) F0 m_isinstance m_str, F0.binds (ps := ["thing"]) (fun _ _ _ _ _ _ us hl => match us, hl with | [_], _ => rfl), k0, PySem.W.mg_of X G a0⟩⟩
  have F1 := fun_mk (st := sIsName) l1 e1 k1
  have D_is_name : Df lw.prog w K mg base 2 "is_name" ["thing"] (spIsName K) := ⟨⟨_, _, ok_isName (k := 0) F1 D_is_text m_len ⟨_, c_LONGEST_NAME⟩, F1.binds (ps := ["thing"]) (fun _ _ _ _ _ _ us hl => match us, hl with | [_], _ => rfl), k1, PySem.W.mg_of X G a1⟩⟩
  have F2 := fun_mk (st := sIsFilling) l2 e2 k2
  have D_is_filling : Df lw.prog w K mg base 2 "is_filling" ["thing", "boxes"] (spIsFilling K) := ⟨⟨_, _, ok_isFilling (k := 0) F2 D_is_text m_isinstance m_str, F2.binds (ps := ["thing", "boxes"]) (fun _ _ _ _ _ _ us hl => match us, hl with | [_, _], _ => rfl), k2, PySem.W.mg_of X G a2⟩⟩
  have F3 := fun_mk (st := sAreDiff) l3 e3 k3
  have D_are_different : Df lw.prog w K mg base 1 "are_different" ["strings"] (spAreDiff K) := ⟨⟨_, _, ok_areDiff (k := 0) F3 m_len m_set, F3.binds (ps := ["strings"]) (fun _ _ _ _ _ _ us hl => match us, hl with | [_], _ => rfl), k3, PySem.W.mg_of X G a3⟩⟩
  have F4 := fun_mk (st := sInOrder) l4 e4 k4
  have D_in_order : Df lw.prog w K mg base 1 "in_order" ["signs"] (spInOrder) := ⟨⟨_, _, ok_inOrder (k := 0) F4 m_sorted, F4.binds (ps := ["signs"]) (fun _ _ _ _ _ _ us hl => match us, hl with | [_], _ => rfl), k4, PySem.W.mg_of X G a4⟩⟩
  have F5 := fun_mk (st := sAreLetters) l5 e5 k5
  have D_are_letters : Df lw.prog w K mg base 2 "are_letters" ["thing", "most"] (spAreLetters K) := ⟨⟨_, _, ok_areLetters (k := 0) F5 D_is_text D_are_different m_len, F5.binds (ps := ["thing", "most"]) (fun _ _ _ _ _ _ us hl => match us, hl with | [_, _], _ => rfl), k5, PySem.W.mg_of X G a5⟩⟩
  have F6 := fun_mk (st := sAreNames) l6 e6 k6
  have D_are_names : Df lw.prog w K mg base 3 "are_names" ["thing"] (spAreNames) := ⟨⟨_, _, ok_areNames (k := 0) F6 D_is_name D_are_different m_isinstance m_list m_tuple m_all m_len, F6.binds (ps := ["thing"]) (fun _ _ _ _ _ _ us hl => match us, hl with | [_], _ => rfl), k6, PySem.W.mg_of X G a6⟩⟩
  have F7 := fun_mk (st := sIsPair) l7 e7 k7
  have D_is_pair : Df lw.prog w K mg base 1 "is_pair" ["thing"] (spIsPair K) := ⟨⟨_, _, ok_isPair (k := 0) F7 m_isinstance m_list m_tuple m_len, F7.binds (ps := ["thing"]) (fun _ _ _ _ _ _ us hl => match us, hl with | [_], _ => rfl), k7, PySem.W.mg_of X G a7⟩⟩
  have F8 := fun_mk (st := sIsOneOf) l8 e8 k8
  have D_is_one_of : Df lw.prog w K mg base 1 "is_one_of" ["thing", "strings"] (spIsOneOf K) := ⟨⟨_, _, ok_isOneOf (k := 0) F8 m_isinstance m_str, F8.binds (ps := ["thing", "strings"]) (fun _ _ _ _ _ _ us hl => match us, hl with | [_, _], _ => rfl), k8, PySem.W.mg_of X G a8⟩⟩
  have F9 := fun_mk (st := sAreBoxes) l9 e9 k9
  have D__are_boxes : Df lw.prog w K mg base 2 "_are_boxes" ["thing"] (spAreBoxes K) := ⟨⟨_, _, ok_areBoxes (k := 0) F9 D_are_different m_isinstance m_str m_all m_len ⟨_, c_MOST_BOXES⟩ ⟨_, c_BOXES⟩, F9.binds (ps := ["thing"]) (fun _ _ _ _ _ _ us hl => match us, hl with | [_], _ => rfl), k9, PySem.W.mg_of X G a9⟩⟩
  have F10 := fun_mk (st := sArePlaces) l10 e10 k10
  have D__are_places : Df lw.prog w K mg base 4 "_are_places" ["thing"] (spArePlaces) := ⟨⟨_, _, ok_arePlaces (k := 2) F10 D_are_names m_len ⟨_, c_MOST_PLACES⟩, F10.binds (ps := ["thing"]) (fun _ _ _ _ _ _ us hl => match us, hl with | [_], _ => rfl), k10, PySem.W.mg_of X G a10⟩⟩
  have F11 := fun_mk (st := sAreFillings) l11 e11 k11
  have D__are_fillings : Df lw.prog w K mg base 3 "_are_fillings" ["thing", "boxes"] (spAreFillings) := ⟨⟨_, _, ok_areFillings (k := 0) F11 D_is_one_of D_is_filling m_isinstance m_dict m_list m_str m_all, F11.binds (ps := ["thing", "boxes"]) (fun _ _ _ _ _ _ us hl => match us, hl with | [_, _], _ => rfl), k11, PySem.W.mg_of X G a11⟩⟩
  have F12 := fun_mk (st := sAreMoves) l12 e12 k12
  have D__are_moves : Df lw.prog w K mg base 4 "_are_moves" ["thing", "letters", "boxes", "places"] (spAreMoves) := ⟨⟨_, _, ok_areMoves (k := 0) F12 D_is_pair D_is_one_of D__are_fillings m_isinstance m_dict m_list, F12.binds (ps := ["thing", "letters", "boxes", "places"]) (fun _ _ _ _ _ _ us hl => match us, hl with | [_, _, _, _], _ => rfl), k12, PySem.W.mg_of X G a12⟩⟩
  have F13 := fun_mk (st := sAreEnds) l13 e13 k13
  have D__are_ends : Df lw.prog w K mg base 3 "_are_ends" ["thing", "boxes", "places"] (spAreEnds) := ⟨⟨_, _, ok_areEnds (k := 0) F13 D_is_one_of D_is_filling m_isinstance m_dict, F13.binds (ps := ["thing", "boxes", "places"]) (fun _ _ _ _ _ _ us hl => match us, hl with | [_, _, _], _ => rfl), k13, PySem.W.mg_of X G a13⟩⟩
  have F14 := fun_mk (st := sKept) l14 e14 k14
  have D__kept_moves : Df lw.prog w K mg base 1 "_kept_moves" ["moves"] (spKept) := ⟨⟨_, _, ok_kept (k := 0) F14 m_sorted, F14.binds (ps := ["moves"]) (fun _ _ _ _ _ _ us hl => match us, hl with | [_], _ => rfl), k14, PySem.W.mg_of X G a14⟩⟩
  have FPletters := fun_mk (st := sLettersP) lPletters ePletters kPletters
  have R_letters : Prp lw.prog w K mg base C 1 "letters" (getSp C "_letters") := ⟨⟨pPletters, _, _, ⟨aPletters, sPletters, tPletters, ⟨_, rPletters⟩⟩, ok_letters (k := 0) FPletters T, FPletters.binds (ps := ["self"]) (fun _ _ _ _ _ _ us hl => match us, hl with | [_], _ => rfl)⟩⟩
  have FPboxes := fun_mk (st := sBoxesP) lPboxes ePboxes kPboxes
  have R_boxes : Prp lw.prog w K mg base C 1 "boxes" (getSp C "_boxes") := ⟨⟨pPboxes, _, _, ⟨aPboxes, sPboxes, tPboxes, ⟨_, rPboxes⟩⟩, ok_boxes (k := 0) FPboxes T, FPboxes.binds (ps := ["self"]) (fun _ _ _ _ _ _ us hl => match us, hl with | [_], _ => rfl)⟩⟩
  have FPplaces := fun_mk (st := sPlacesP) lPplaces ePplaces kPplaces
  have R_places : Prp lw.prog w K mg base C 1 "places" (getSp C "_places") := ⟨⟨pPplaces, _, _, ⟨aPplaces, sPplaces, tPplaces, ⟨_, rPplaces⟩⟩, ok_places (k := 0) FPplaces T, FPplaces.binds (ps := ["self"]) (fun _ _ _ _ _ _ us hl => match us, hl with | [_], _ => rfl)⟩⟩
  have FCinit := fun_mk (st := sInit) lCinit eCinit kCinit
  have FCmove := fun_mk (st := sMove) lCmove eCmove kCmove
  have FCend := fun_mk (st := sEnd) lCend eCend kCend
  have FCeq := fun_mk (st := sEq) lCeq eCeq kCeq
  have M_move : Mth lw.prog w K mg base C 1 "move" ["place", "letter"] (spMove C) := ⟨⟨_, _, ⟨aCmove, iCmove, kCmove⟩, ok_move (k := 0) FCmove T m_dict, FCmove.binds (ps := ["self", "place", "letter"]) (fun _ _ _ _ _ _ us hl => match us, hl with | [_, _, _], _ => rfl)⟩⟩
  have M_end : Mth lw.prog w K mg base C 1 "end" ["place"] (spEnd C) := ⟨⟨_, _, ⟨aCend, iCend, kCend⟩, ok_end (k := 0) FCend T, FCend.binds (ps := ["self", "place"]) (fun _ _ _ _ _ _ us hl => match us, hl with | [_, _], _ => rfl)⟩⟩
  have MK : Mkr lw.prog w K mg base C 5 := ⟨⟨_, _, ⟨mkC, aCinit, iCinit, kcC⟩, ok_init (k := 0) FCinit T D_are_letters ⟨_, c_MOST_LETTERS⟩ D__are_boxes D__are_places D__are_moves D__are_ends D_in_order D__kept_moves m_tuple, FCinit.binds (ps := psInit) (fun _ _ _ _ _ _ us hl => match us, hl with | [_, _, _, _, _, _], _ => rfl)⟩⟩
  have F15 := fun_mk (st := sPartsOf) l15 e15 k15
  have D_parts_of : Df lw.prog w K mg base 1 "parts_of" ["filling", "boxes"] (spPartsOf) := ⟨⟨_, _, ok_partsOf (k := 0) F15 m_sorted m_len, F15.binds (ps := ["filling", "boxes"]) (fun _ _ _ _ _ _ us hl => match us, hl with | [_, _], _ => rfl), k15, PySem.W.mg_of X G a15⟩⟩
  have RT : RpTxt K mg CR := ⟨⟨pgR, hdR, poR, saR⟩, nR_left, nR_middle, nR_right, nR_length, PySem.W.mg_of X G aR, rs1, is2, is3, rs4, rs5, rs6⟩
  have FRinit := fun_mk (st := sRpInit) lRinit eRinit kRinit
  have FRpieces := fun_mk (st := sRpPieces) lRpieces eRpieces kRpieces
  have MR : MkRp lw.prog w K mg base CR 1 := ⟨⟨_, _, ⟨mkR, aRinit, iRinit, kcR⟩, ok_rpInit (k := 0) FRinit RT, FRinit.binds (ps := psRp) (fun _ _ _ _ _ _ us hl => match us, hl with | [_, _, _, _, _], _ => rfl)⟩⟩
  have M_rpieces : Mth lw.prog w K mg base CR 1 "pieces" [] (spRpPieces CR) := ⟨⟨_, _, ⟨aRpieces, iRpieces, kRpieces⟩, ok_rpPieces (k := 0) FRpieces RT, FRpieces.binds (ps := ["self"]) (fun _ _ _ _ _ _ us hl => match us, hl with | [_], _ => rfl)⟩⟩
  have F16 := fun_mk (st := sLenOf) l16 e16 k16
  have D_length_of : Df lw.prog w K mg base 1 "length_of" ["rope"] (spLenG CR) := ⟨⟨_, _, ok_lenG (k := 0) F16 RT m_isinstance m_str m_len, F16.binds (ps := ["rope"]) (fun _ _ _ _ _ _ us hl => match us, hl with | [_], _ => rfl), k16, PySem.W.mg_of X G a16⟩⟩
  have F17 := fun_mk (st := sWith) l17 e17 k17
  have D__with_beginning : Df lw.prog w K mg base 3 "_with_beginning" ["text", "rope", "length"] (spWithG CR) := ⟨⟨_, _, ok_withG (k := 0) F17 RT MR m_isinstance m_str m_len ⟨_, c_SHORT⟩, F17.binds (ps := ["text", "rope", "length"]) (fun _ _ _ _ _ _ us hl => match us, hl with | [_, _, _], _ => rfl), k17, PySem.W.mg_of X G a17⟩⟩
  have F18 := fun_mk (st := sPut) l18 e18 k18
  have D_put_together : Df lw.prog w K mg base 4 "put_together" ["one", "two"] (spPutG CR) := ⟨⟨_, _, ok_putG (k := 0) F18 RT MR D_length_of D__with_beginning m_isinstance m_str m_len ⟨_, c_SHORT⟩, F18.binds (ps := ["one", "two"]) (fun _ _ _ _ _ _ us hl => match us, hl with | [_, _], _ => rfl), k18, PySem.W.mg_of X G a18⟩⟩
  have F19 := fun_mk (st := sRopeOf) l19 e19 k19
  have D_rope_of : Df lw.prog w K mg base 5 "rope_of" ["ropes"] (spRopeOfG CR) := ⟨⟨_, _, ok_ropeOfG (k := 0) F19 D_put_together, F19.binds (ps := ["ropes"]) (fun _ _ _ _ _ _ us hl => match us, hl with | [_], _ => rfl), k19, PySem.W.mg_of X G a19⟩⟩
  have F20 := fun_mk (st := sWritten) l20 e20 k20
  have D_written : Df lw.prog w K mg base 2 "written" ["rope"] (spWrittenG CR) := ⟨⟨_, _, ok_writtenG (k := 0) F20 RT M_rpieces m_isinstance m_str, F20.binds (ps := ["rope"]) (fun _ _ _ _ _ _ us hl => match us, hl with | [_], _ => rfl), k20, PySem.W.mg_of X G a20⟩⟩
  have F21 := fun_mk (st := sCheck) l21 e21 k21
  have NLT : NlTxt lw.prog w K mg base NL := ⟨⟨⟨_, _, _, _, _, _, _, _, _, _, _, _, _, _, _, xNL, hbNL⟩, saNL, eCNL, tCNL, kCNL⟩, PySem.W.mg_of X G aNL, nfNL, ⟨gaNL, ggNL, eCNL, hdNL⟩, ⟨_, _, aXNL, tXNL, ok_nlInit (k := 0) (fun_mk (st := sNlInit) lXNL eXNL kXNL), (fun_mk (st := sNlInit) lXNL eXNL kXNL).binds (ps := ["self", "letter"]) (fun _ _ _ _ _ _ us hl => match us, hl with | [_, _], _ => rfl)⟩⟩
  have NDT : NdTxt lw.prog w K mg base ND := ⟨⟨⟨_, _, _, _, _, _, _, _, _, _, _, _, _, _, _, xND, hbND⟩, saND, eCND, tCND, kCND⟩, PySem.W.mg_of X G aND, ⟨_, _, aXND, tXND, ok_ndInit (k := 0) (fun_mk (st := sNdInit) lXND eXND kXND), (fun_mk (st := sNdInit) lXND eXND kXND).binds (ps := ["self"]) (fun _ _ _ _ _ _ us hl => match us, hl with | [_], _ => rfl)⟩⟩
  have GCk := ok_checkX (P := lw.prog) (w := w) (base := base) (k := 0) F21 T NLT R_letters m_isinstance m_str
  have BCk := F21.binds (ps := ["program", "text"]) (fun _ _ _ _ _ _ us hl => match us, hl with | [_, _], _ => rfl)
  have KCk := k21
  have MCk := PySem.W.mg_of X G a21
  have F22 := fun_mk (st := sFilled) l22 e22 k22
  have D_filled : Df lw.prog w K mg base 6 "filled" ["fillings", "ropes"] (spFilledG CR) := ⟨⟨_, _, ok_filledG (k := 0) F22 D_rope_of, F22.binds (ps := ["fillings", "ropes"]) (fun _ _ _ _ _ _ us hl => match us, hl with | [_, _], _ => rfl), k22, PySem.W.mg_of X G a22⟩⟩
  have U : StTxt K mg CS := ⟨⟨pgS, hdS, poS, saS⟩, nS_program, nS_boxes, nS_moves, PySem.W.mg_of X G aS⟩
  have FSinit := fun_mk (st := sStInit) lSinit eSinit kSinit
  have FSmove := fun_mk (st := sStMove) lSmove eSmove kSmove
  have FSmove_in_parts := fun_mk (st := sStMip) lSmove_in_parts eSmove_in_parts kSmove_in_parts
  have FSfirst := fun_mk (st := sStFirst) lSfirst eSfirst kSfirst
  have FSbehind := fun_mk (st := sStBehind) lSbehind eSbehind kSbehind
  have FSshown := fun_mk (st := sStShown) lSshown eSshown kSshown
  have FSended := fun_mk (st := sStEnded) lSended eSended kSended
  have FStold := fun_mk (st := sStTold) lStold eStold kStold
  have MS : MkS lw.prog w K mg base CS C 3 := ⟨⟨_, _, ⟨mkS, aSinit, iSinit, kcS⟩, ok_stInit (k := 0) FSinit T U R_boxes, FSinit.binds (ps := psSt) (fun _ _ _ _ _ _ us hl => match us, hl with | [_, _], _ => rfl)⟩⟩
  have M_smip : Mth lw.prog w K mg base CS 2 "_move_in_parts" ["place", "letter"] (spStMip CS C) := ⟨⟨_, _, ⟨aSmove_in_parts, iSmove_in_parts, kSmove_in_parts⟩, ok_stMip (k := 0) FSmove_in_parts T U M_move D_parts_of, FSmove_in_parts.binds (ps := ["self", "place", "letter"]) (fun _ _ _ _ _ _ us hl => match us, hl with | [_, _, _], _ => rfl)⟩⟩
  have M_smove : Mth lw.prog w K mg base CS 3 "move" ["place", "letter"] (spStMove CS C) := ⟨⟨_, _, ⟨aSmove, iSmove, kSmove⟩, ok_stMove (k := 0) FSmove U M_smip, FSmove.binds (ps := ["self", "place", "letter"]) (fun _ _ _ _ _ _ us hl => match us, hl with | [_, _, _], _ => rfl)⟩⟩
  have M_sfirst : Mth lw.prog w K mg base CS 3 "first" [] (spStFirst CS C) := ⟨⟨_, _, ⟨aSfirst, iSfirst, kSfirst⟩, ok_stFirst (k := 0) FSfirst T U R_places, FSfirst.binds (ps := ["self"]) (fun _ _ _ _ _ _ us hl => match us, hl with | [_], _ => rfl)⟩⟩
  have M_sbehind : Mth lw.prog w K mg base CS 7 "behind" ["state", "text"] (spStBehindG CR CS C) := ⟨⟨_, _, ⟨aSbehind, iSbehind, kSbehind⟩, ok_stBehindG (k := 0) FSbehind U M_smove D_filled, FSbehind.binds (ps := ["self", "state", "text"]) (fun _ _ _ _ _ _ us hl => match us, hl with | [_, _, _], _ => rfl)⟩⟩
  have M_sended : Mth lw.prog w K mg base CS 6 "ended" ["state"] (spStEndedG CR CS C) := ⟨⟨_, _, ⟨aSended, iSended, kSended⟩, ok_stEndedG (k := 0) FSended T U M_end D_rope_of D_parts_of, FSended.binds (ps := ["self", "state"]) (fun _ _ _ _ _ _ us hl => match us, hl with | [_, _], _ => rfl)⟩⟩
  have M_stold : Mth lw.prog w K mg base CS 7 "told" ["state"] (spStToldG CR CS C) := ⟨⟨_, _, ⟨aStold, iStold, kStold⟩, ok_stToldG (k := 0) FStold U M_sended D_written, FStold.binds (ps := ["self", "state"]) (fun _ _ _ _ _ _ us hl => match us, hl with | [_, _], _ => rfl)⟩⟩
  have M_sshown : Mth lw.prog w K mg base CS 3 "shown" ["state"] (spShownG CR CS C) := ⟨⟨_, _, ⟨aSshown, iSshown, kSshown⟩, ok_shownG (k := 0) FSshown U D_written, FSshown.binds (ps := ["self", "state"]) (fun _ _ _ _ _ _ us hl => match us, hl with | [_, _], _ => rfl)⟩⟩
  have F23 := fun_mk (st := sSource) l23 e23 k23
  have D__law_source : Df lw.prog w K mg base 1 "_law_source" ["_law_script"] (spSource K) := ⟨⟨_, _, ok_source (k := 0) F23 m_int, F23.binds (ps := ["_law_script"]) (fun _ _ _ _ _ _ us hl => match us, hl with | [_], _ => rfl), k23, PySem.W.mg_of X G a23⟩⟩
  have F24 := fun_mk (st := sDraw) l24 e24 k24
  have D__law_draw : Df lw.prog w K mg base 1 "_law_draw" ["_law_source_here", "_law_many"] (spDrawS) := ⟨⟨_, _, (ok_draw (k := 0) F24 m_int).imp draw_soft, F24.binds (ps := ["_law_source_here", "_law_many"]) (fun _ _ _ _ _ _ us hl => match us, hl with | [_, _], _ => rfl), k24, PySem.W.mg_of X G a24⟩⟩
  have F25 := fun_mk (st := sPick) l25 e25 k25
  have D__law_pick : Df lw.prog w K mg base 2 "_law_pick" ["_law_source_here", "_law_things"] (spPick K) := ⟨⟨_, _, ok_pick (k := 0) F25 D__law_draw m_len, F25.binds (ps := ["_law_source_here", "_law_things"]) (fun _ _ _ _ _ _ us hl => match us, hl with | [_, _], _ => rfl), k25, PySem.W.mg_of X G a25⟩⟩
  have F26 := fun_mk (st := sOrder) l26 e26 k26
  have D__law_order : Df lw.prog w K mg base 2 "_law_order" ["_law_source_here", "_law_many"] (spOrder) := ⟨⟨_, _, ok_order (k := 0) F26 D__law_draw m_len m_list m_range, F26.binds (ps := ["_law_source_here", "_law_many"]) (fun _ _ _ _ _ _ us hl => match us, hl with | [_, _], _ => rfl), k26, PySem.W.mg_of X G a26⟩⟩
  have F27 := fun_mk (st := sSigns) l27 e27 k27
  have D__law_signs : Df lw.prog w K mg base 3 "_law_signs" ["_law_source_here", "_law_signs_here", "_law_many"] (spSigns) := ⟨⟨_, _, ok_signs (k := 1) F27 D__law_order m_len, F27.binds (ps := ["_law_source_here", "_law_signs_here", "_law_many"]) (fun _ _ _ _ _ _ us hl => match us, hl with | [_, _, _], _ => rfl), k27, PySem.W.mg_of X G a27⟩⟩
  have F28 := fun_mk (st := sLText) l28 e28 k28
  have D__law_text : Df lw.prog w K mg base 3 "_law_text" ["_law_source_here", "_law_letters", "_law_most"] (spLText) := ⟨⟨_, _, ok_ltext (k := 0) F28 D__law_draw D__law_pick m_range, F28.binds (ps := ["_law_source_here", "_law_letters", "_law_most"]) (fun _ _ _ _ _ _ us hl => match us, hl with | [_, _, _], _ => rfl), k28, PySem.W.mg_of X G a28⟩⟩
  have F29 := fun_mk (st := sName) l29 e29 k29
  have D__law_name : Df lw.prog w K mg base 2 "_law_name" ["_law_source_here", "_law_taken"] (spName K) := ⟨⟨_, _, ok_name (k := 0) F29 D__law_draw m_range, F29.binds (ps := ["_law_source_here", "_law_taken"]) (fun _ _ _ _ _ _ us hl => match us, hl with | [_, _], _ => rfl), k29, PySem.W.mg_of X G a29⟩⟩
  have F30 := fun_mk (st := sNames) l30 e30 k30
  have D__law_names : Df lw.prog w K mg base 3 "_law_names" ["_law_source_here", "_law_many"] (spNames) := ⟨⟨_, _, ok_names (k := 1) F30 D__law_name m_range, F30.binds (ps := ["_law_source_here", "_law_many"]) (fun _ _ _ _ _ _ us hl => match us, hl with | [_, _], _ => rfl), k30, PySem.W.mg_of X G a30⟩⟩
  have F31 := fun_mk (st := sPiece) l31 e31 k31
  have D__law_piece : Df lw.prog w K mg base 3 "_law_piece" ["_law_source_here", "_law_out"] (spPiece) := ⟨⟨_, _, ok_piece (k := 0) F31 D__law_draw D__law_pick m_range, F31.binds (ps := ["_law_source_here", "_law_out"]) (fun _ _ _ _ _ _ us hl => match us, hl with | [_, _], _ => rfl), k31, PySem.W.mg_of X G a31⟩⟩
  have F32 := fun_mk (st := sFill) l32 e32 k32
  have D__law_fill : Df lw.prog w K mg base 4 "_law_fill" ["_law_source_here", "_law_boxes", "_law_holders", "_law_out"] (spFill K) := ⟨⟨_, _, ok_fill (k := 0) F32 D__law_draw D__law_pick D__law_order D__law_piece m_len m_dict, F32.binds (ps := ["_law_source_here", "_law_boxes", "_law_holders", "_law_out"]) (fun _ _ _ _ _ _ us hl => match us, hl with | [_, _, _, _], _ => rfl), k32, PySem.W.mg_of X G a32⟩⟩
  have F33 := fun_mk (st := sProgram) l33 e33 k33
  have D__law_program : Df lw.prog w K mg base 5 "_law_program" ["_law_source_here", "_law_letters", "_law_most_boxes", "_law_most_places"] (spProgram) := ⟨⟨_, _, ok_program (k := 0) F33 D__law_draw D__law_pick D__law_signs D__law_names D__law_fill m_list, F33.binds (ps := ["_law_source_here", "_law_letters", "_law_most_boxes", "_law_most_places"]) (fun _ _ _ _ _ _ us hl => match us, hl with | [_, _, _, _], _ => rfl), k33, PySem.W.mg_of X G a33⟩⟩
  have F34 := fun_mk (st := sMade) l34 e34 k34
  have D__law_made : Df lw.prog w K mg base 7 "_law_made" ["_law_parts"] (spMade C) := ⟨⟨_, _, ok_made (k := 5) F34 MK T.mgC, F34.binds (ps := ["_law_parts"]) (fun _ _ _ _ _ _ us hl => match us, hl with | [_], _ => rfl), k34, PySem.W.mg_of X G a34⟩⟩
  have F35 := fun_mk (st := sLFilled) l35 e35 k35
  have D__law_filled : Df lw.prog w K mg base 1 "_law_filled" ["_law_filling", "_law_texts"] (spLFilled) := ⟨⟨_, _, ok_lfilled (k := 0) F35 , F35.binds (ps := ["_law_filling", "_law_texts"]) (fun _ _ _ _ _ _ us hl => match us, hl with | [_, _], _ => rfl), k35, PySem.W.mg_of X G a35⟩⟩
  have F36 := fun_mk (st := sLState) l36 e36 k36
  have D__law_state : Df lw.prog w K mg base 2 "_law_state" ["_law_parts", "_law_text_here"] (spLState) := ⟨⟨_, _, ok_lstate (k := 0) F36 D__law_filled m_dict m_sorted, F36.binds (ps := ["_law_parts", "_law_text_here"]) (fun _ _ _ _ _ _ us hl => match us, hl with | [_, _], _ => rfl), k36, PySem.W.mg_of X G a36⟩⟩
  have F37 := fun_mk (st := sLTold) l37 e37 k37
  have D__law_told : Df lw.prog w K mg base 3 "_law_told" ["_law_parts", "_law_text_here"] (spLTold) := ⟨⟨_, _, ok_ltold (k := 0) F37 D__law_state D__law_filled, F37.binds (ps := ["_law_parts", "_law_text_here"]) (fun _ _ _ _ _ _ us hl => match us, hl with | [_, _], _ => rfl), k37, PySem.W.mg_of X G a37⟩⟩
  have TD : RdTxt K mg CD CS CR C := ⟨⟨pgD, hdD, poD, saD⟩, nD_program, nD_steps, nD_done, nD_undone, PySem.W.mg_of X G aD, ne1, ne2, ne3⟩
  have FDinit := fun_mk (st := sRdInit) lDinit eDinit kDinit
  have FDread := fun_mk (st := sRdRead) lDread eDread kDread
  have FDtext := fun_mk (st := sRdText) lDtext eDtext kDtext
  have FDstate := fun_mk (st := sRdState) lDstate eDstate kDstate
  have FDtold := fun_mk (st := sRdTold) lDtold eDtold kDtold
  have FDundo := fun_mk (st := sRdUndo) lDundo eDundo kDundo
  have FDagain := fun_mk (st := sRdAgain) lDagain eDagain kDagain
  have FDnow := fun_mk (st := sRdNow) lDnow eDnow kDnow
  have FDprogram := fun_mk (st := sRdProgram) lDprogram eDprogram kDprogram
  have MS6 : MkS lw.prog w K mg base CS C 6 := let ⟨_, _, a, b, c⟩ := MS.ex; ⟨⟨_, _, a, b.mono (by decide), c⟩⟩
  have MRd : MkRd lw.prog w K mg base CD CS CR C 8 := ⟨⟨_, _, ⟨mkD, aDinit, iDinit, kcD⟩, ok_rdInit (k := 3) FDinit TD U MS6, FDinit.binds (ps := psRd) (fun _ _ _ _ _ _ us hl => match us, hl with | [_, _], _ => rfl)⟩⟩
  have R_program : Prp lw.prog w K mg base CD 1 "program" (getSp CD "_program") := ⟨⟨pDprogram, _, _, ⟨aDprogram, sDprogram, tDprogram, ⟨_, rDprogram⟩⟩, ok_rdProgram (k := 0) FDprogram TD, FDprogram.binds (ps := ["self"]) (fun _ _ _ _ _ _ us hl => match us, hl with | [_], _ => rfl)⟩⟩
  have M_rnow : Mth lw.prog w K mg base CD 4 "_now" [] (spNow CD CS CR C) := ⟨⟨_, _, ⟨aDnow, iDnow, kDnow⟩, ok_rdNow (k := 0) FDnow TD U M_sfirst, FDnow.binds (ps := ["self"]) (fun _ _ _ _ _ _ us hl => match us, hl with | [_], _ => rfl)⟩⟩
  have M_rtold : Mth lw.prog w K mg base CD 8 "told" [] (spRdTold CD CS CR C) := ⟨⟨_, _, ⟨aDtold, iDtold, kDtold⟩, ok_rdTold (k := 0) FDtold TD U M_rnow M_stold, FDtold.binds (ps := ["self"]) (fun _ _ _ _ _ _ us hl => match us, hl with | [_], _ => rfl)⟩⟩
  have M_rstate : Mth lw.prog w K mg base CD 5 "state" [] (spRdState CD CS CR C) := ⟨⟨_, _, ⟨aDstate, iDstate, kDstate⟩, ok_rdState (k := 0) FDstate TD U M_rnow M_sshown, FDstate.binds (ps := ["self"]) (fun _ _ _ _ _ _ us hl => match us, hl with | [_], _ => rfl)⟩⟩
  have M_rtext : Mth lw.prog w K mg base CD 1 "text" [] (spRdText CD CS CR C) := ⟨⟨_, _, ⟨aDtext, iDtext, kDtext⟩, ok_rdText (k := 0) FDtext TD, FDtext.binds (ps := ["self"]) (fun _ _ _ _ _ _ us hl => match us, hl with | [_], _ => rfl)⟩⟩
  have X_rundo : MthX lw.prog w K mg base CD 9 "undo" [] (spUndo CD CS CR C ND) := ⟨⟨_, _, ⟨aDundo, iDundo, kDundo⟩, ok_rdUndo FDundo TD NDT M_rtold, FDundo.binds (ps := ["self"]) (fun _ _ _ _ _ _ us hl => match us, hl with | [_], _ => rfl)⟩⟩
  have X_ragain : MthX lw.prog w K mg base CD 9 "again" [] (spAgain CD CS CR C ND) := ⟨⟨_, _, ⟨aDagain, iDagain, kDagain⟩, ok_rdAgain FDagain TD NDT M_rtold, FDagain.binds (ps := ["self"]) (fun _ _ _ _ _ _ us hl => match us, hl with | [_], _ => rfl)⟩⟩
  have X_rread : MthX lw.prog w K mg base CD 9 "read" ["text"] (spRead K CD CS CR C NL) := ⟨⟨_, _, ⟨aDread, iDread, kDread⟩, ok_rdRead FDread TD U GCk BCk KCk MCk M_rnow M_sbehind M_rtold, FDread.binds (ps := ["self", "text"]) (fun _ _ _ _ _ _ us hl => match us, hl with | [_, _], _ => rfl)⟩⟩
  have F38 := fun_mk (st := sTried) l38 e38 k38
  have NT : TriedAt K mg g38 NL ND := ⟨PySem.W.mg_of X G a38, k38, ⟨_, _, _, _, _, _, _, _, _, l38, e38⟩, ⟨gaNL, ggNL, eCNL, hdNL⟩, nfNL, PySem.W.mg_of X G aNL, PySem.W.mg_of X G aND, m_repr, em1, em2, em3⟩
  have F39 := fun_mk (st := sIsNow) l39 e39 k39
  have D__law_is_now : Df lw.prog w K mg base 9 "_law_is_now" ["_law_reader", "_law_parts", "_law_text_here"] (spIsNow CD CS CR C) := ⟨⟨_, _, ok_isNow F39 TD M_rtext M_rstate M_rtold D__law_state D__law_told, F39.binds (ps := ["_law_reader", "_law_parts", "_law_text_here"]) (fun _ _ _ _ _ _ us hl => match us, hl with | [_, _, _], _ => rfl), k39, PySem.W.mg_of X G a39⟩⟩
  have F40 := fun_mk (st := sLawR) l40 e40 k40
  have M_eq : EqM lw.prog w K mg base C 1 (PrEq C) := ⟨⟨_, _, aCeq, iCeq, ok_eq (k := 0) FCeq T IS m_isinstance, FCeq.binds (ps := ["self", "other"]) (fun _ _ _ _ _ _ us hl => match us, hl with | [_, _], _ => rfl)⟩⟩
  have HC : ∀ cdv, CodeOf K "law" "law" sLawR fa cdv → cdv = .ref cP := fun cdv ⟨_, _, _, _, _, _, _, _, lk⟩ => by
    have e1 := Option.some.inj (l40.symm.trans lk)
    injection e1 with _ _ e2 _
    injection e2 with e3
    exact (congrArg FuncData.code e3).symm
  exact ok_lawR F40 TD NT HC TB D__law_source D__law_signs D__law_draw D__law_program D__law_made MRd D__law_pick D__law_text D__law_told X_rundo X_ragain X_rread D__law_is_now M_eq R_program m_range m_len m_int m_isinstance m_str
end Tb
open PySem PySem.W PyProof.Rows
set_option maxRecDepth 100000 in
set_option maxHeartbeats 0 in
theorem PySem.Challenge.cw_textboxes_k06_readers_holds : PySem.Challenge.rw_textboxes_k06_readers.Holds := by
  w_on; o_law; k_head; (case hw => w_witness2)
  k_fill
  refine Tb.walkG (l := PySem.Challenge.rw_textboxes_k06_readers) (n := 63) (k := 12) (x := "_law_script") rfl (by decide) rfl ⟨rfl, by decide, by decide⟩ (fun w h Y => PySem.W.km_in_of Y) ?F
  case F =>
    intro w mg fa h Y KX G hmg
    refine' Tb.all_mk (fa := fa) (w := w) KX G hmg (PySem.W.km_tabs_of Y) ?a0 ?k0 ?l0 ?e0 ?a1 ?k1 ?l1 ?e1 ?a2 ?k2 ?l2 ?e2 ?a3 ?k3 ?l3 ?e3 ?a4 ?k4 ?l4 ?e4 ?a5 ?k5 ?l5 ?e5 ?a6 ?k6 ?l6 ?e6 ?a7 ?k7 ?l7 ?e7 ?a8 ?k8 ?l8 ?e8 ?a9 ?k9 ?l9 ?e9 ?a10 ?k10 ?l10 ?e10 ?a11 ?k11 ?l11 ?e11 ?a12 ?k12 ?l12 ?e12 ?a13 ?k13 ?l13 ?e13 ?a14 ?k14 ?l14 ?e14 ?a15 ?k15 ?l15 ?e15 ?a16 ?k16 ?l16 ?e16 ?a17 ?k17 ?l17 ?e17 ?a18 ?k18 ?l18 ?e18 ?a19 ?k19 ?l19 ?e19 ?a20 ?k20 ?l20 ?e20 ?a21 ?k21 ?l21 ?e21 ?a22 ?k22 ?l22 ?e22 ?a23 ?k23 ?l23 ?e23 ?a24 ?k24 ?l24 ?e24 ?a25 ?k25 ?l25 ?e25 ?a26 ?k26 ?l26 ?e26 ?a27 ?k27 ?l27 ?e27 ?a28 ?k28 ?l28 ?e28 ?a29 ?k29 ?l29 ?e29 ?a30 ?k30 ?l30 ?e30 ?a31 ?k31 ?l31 ?e31 ?a32 ?k32 ?l32 ?e32 ?a33 ?k33 ?l33 ?e33 ?a34 ?k34 ?l34 ?e34 ?a35 ?k35 ?l35 ?e35 ?a36 ?k36 ?l36 ?e36 ?a37 ?k37 ?l37 ?e37 ?a38 ?k38 ?l38 ?e38 ?a39 ?k39 ?l39 ?e39 ?a40 ?k40 ?l40 ?e40 ?aC ?pgC ?hdC ?poC ?saC ?mkC ?kcC ?aCinit ?iCinit ?kCinit ?lCinit ?eCinit ?aCmove ?iCmove ?kCmove ?lCmove ?eCmove ?aCend ?iCend ?kCend ?lCend ?eCend ?aCeq ?iCeq ?kCeq ?lCeq ?eCeq ?aPletters ?sPletters ?tPletters ?rPletters ?kPletters ?lPletters ?ePletters ?aPboxes ?sPboxes ?tPboxes ?rPboxes ?kPboxes ?lPboxes ?ePboxes ?aPplaces ?sPplaces ?tPplaces ?rPplaces ?kPplaces ?lPplaces ?ePplaces ?is1 ?is2 ?is3 ?is4 ?n_letters ?n_boxes ?n_places ?n_moves ?n_ends ?aS ?pgS ?hdS ?poS ?saS ?mkS ?kcS ?aSinit ?iSinit ?kSinit ?lSinit ?eSinit ?aSmove ?iSmove ?kSmove ?lSmove ?eSmove ?aSmove_in_parts ?iSmove_in_parts ?kSmove_in_parts ?lSmove_in_parts ?eSmove_in_parts ?aSfirst ?iSfirst ?kSfirst ?lSfirst ?eSfirst ?aSbehind ?iSbehind ?kSbehind ?lSbehind ?eSbehind ?aSshown ?iSshown ?kSshown ?lSshown ?eSshown ?aSended ?iSended ?kSended ?lSended ?eSended ?aStold ?iStold ?kStold ?lStold ?eStold ?nS_program ?nS_boxes ?nS_moves ?aR ?pgR ?hdR ?poR ?saR ?mkR ?kcR ?aRinit ?iRinit ?kRinit ?lRinit ?eRinit ?aRpieces ?iRpieces ?kRpieces ?lRpieces ?eRpieces ?nR_left ?nR_middle ?nR_right ?nR_length ?rs1 ?rs4 ?rs5 ?rs6 ?aNL ?xNL ?hbNL ?saNL ?eCNL ?tCNL ?kCNL ?aXNL ?tXNL ?kXNL ?lXNL ?eXNL ?aND ?xND ?hbND ?saND ?eCND ?tCND ?kCND ?aXND ?tXND ?kXND ?lXND ?eXND ?gaNL ?ggNL ?hdNL ?nfNL ?em1 ?em2 ?em3 ?aD ?pgD ?hdD ?poD ?saD ?mkD ?kcD ?aDinit ?iDinit ?kDinit ?lDinit ?eDinit ?aDread ?iDread ?kDread ?lDread ?eDread ?aDtext ?iDtext ?kDtext ?lDtext ?eDtext ?aDstate ?iDstate ?kDstate ?lDstate ?eDstate ?aDtold ?iDtold ?kDtold ?lDtold ?eDtold ?aDundo ?iDundo ?kDundo ?lDundo ?eDundo ?aDagain ?iDagain ?kDagain ?lDagain ?eDagain ?aDnow ?iDnow ?kDnow ?lDnow ?eDnow ?aDprogram ?sDprogram ?tDprogram ?rDprogram ?kDprogram ?lDprogram ?eDprogram ?nD_program ?nD_steps ?nD_done ?nD_undone ?ne1 ?ne2 ?ne3 ?hdP ?nlP ?z_all ?z_dict ?z_int ?z_isinstance ?z_len ?z_list ?z_range ?z_repr ?z_set ?z_sorted ?z_str ?z_tuple ?v_BOXES ?v_LONGEST_NAME ?v_MOST_BOXES ?v_MOST_LETTERS ?v_MOST_PLACES ?v_SHORT
    (case a0 => k_is)
    (case k0 => k_is)
    (case l0 => k_is)
    (case e0 => k_is)
    (case a1 => k_is)
    (case k1 => k_is)
    (case l1 => k_is)
    (case e1 => k_is)
    (case a2 => k_is)
    (case k2 => k_is)
    (case l2 => k_is)
    (case e2 => k_is)
    (case a3 => k_is)
    (case k3 => k_is)
    (case l3 => k_is)
    (case e3 => k_is)
    (case a4 => k_is)
    (case k4 => k_is)
    (case l4 => k_is)
    (case e4 => k_is)
    (case a5 => k_is)
    (case k5 => k_is)
    (case l5 => k_is)
    (case e5 => k_is)
    (case a6 => k_is)
    (case k6 => k_is)
    (case l6 => k_is)
    (case e6 => k_is)
    (case a7 => k_is)
    (case k7 => k_is)
    (case l7 => k_is)
    (case e7 => k_is)
    (case a8 => k_is)
    (case k8 => k_is)
    (case l8 => k_is)
    (case e8 => k_is)
    (case a9 => k_is)
    (case k9 => k_is)
    (case l9 => k_is)
    (case e9 => k_is)
    (case a10 => k_is)
    (case k10 => k_is)
    (case l10 => k_is)
    (case e10 => k_is)
    (case a11 => k_is)
    (case k11 => k_is)
    (case l11 => k_is)
    (case e11 => k_is)
    (case a12 => k_is)
    (case k12 => k_is)
    (case l12 => k_is)
    (case e12 => k_is)
    (case a13 => k_is)
    (case k13 => k_is)
    (case l13 => k_is)
    (case e13 => k_is)
    (case a14 => k_is)
    (case k14 => k_is)
    (case l14 => k_is)
    (case e14 => k_is)
    (case a15 => k_is)
    (case k15 => k_is)
    (case l15 => k_is)
    (case e15 => k_is)
    (case a16 => k_is)
    (case k16 => k_is)
    (case l16 => k_is)
    (case e16 => k_is)
    (case a17 => k_is)
    (case k17 => k_is)
    (case l17 => k_is)
    (case e17 => k_is)
    (case a18 => k_is)
    (case k18 => k_is)
    (case l18 => k_is)
    (case e18 => k_is)
    (case a19 => k_is)
    (case k19 => k_is)
    (case l19 => k_is)
    (case e19 => k_is)
    (case a20 => k_is)
    (case k20 => k_is)
    (case l20 => k_is)
    (case e20 => k_is)
    (case a21 => k_is)
    (case k21 => k_is)
    (case l21 => k_is)
    (case e21 => k_is)
    (case a22 => k_is)
    (case k22 => k_is)
    (case l22 => k_is)
    (case e22 => k_is)
    (case a23 => k_is)
    (case k23 => k_is)
    (case l23 => k_is)
    (case e23 => k_is)
    (case a24 => k_is)
    (case k24 => k_is)
    (case l24 => k_is)
    (case e24 => k_is)
    (case a25 => k_is)
    (case k25 => k_is)
    (case l25 => k_is)
    (case e25 => k_is)
    (case a26 => k_is)
    (case k26 => k_is)
    (case l26 => k_is)
    (case e26 => k_is)
    (case a27 => k_is)
    (case k27 => k_is)
    (case l27 => k_is)
    (case e27 => k_is)
    (case a28 => k_is)
    (case k28 => k_is)
    (case l28 => k_is)
    (case e28 => k_is)
    (case a29 => k_is)
    (case k29 => k_is)
    (case l29 => k_is)
    (case e29 => k_is)
    (case a30 => k_is)
    (case k30 => k_is)
    (case l30 => k_is)
    (case e30 => k_is)
    (case a31 => k_is)
    (case k31 => k_is)
    (case l31 => k_is)
    (case e31 => k_is)
    (case a32 => k_is)
    (case k32 => k_is)
    (case l32 => k_is)
    (case e32 => k_is)
    (case a33 => k_is)
    (case k33 => k_is)
    (case l33 => k_is)
    (case e33 => k_is)
    (case a34 => k_is)
    (case k34 => k_is)
    (case l34 => k_is)
    (case e34 => k_is)
    (case a35 => k_is)
    (case k35 => k_is)
    (case l35 => k_is)
    (case e35 => k_is)
    (case a36 => k_is)
    (case k36 => k_is)
    (case l36 => k_is)
    (case e36 => k_is)
    (case a37 => k_is)
    (case k37 => k_is)
    (case l37 => k_is)
    (case e37 => k_is)
    (case a38 => k_is)
    (case k38 => k_is)
    (case l38 => k_is)
    (case e38 => k_is)
    (case a39 => k_is)
    (case k39 => k_is)
    (case l39 => k_is)
    (case e39 => k_is)
    (case a40 => k_is)
    (case k40 => k_is)
    (case l40 => k_is)
    (case e40 => k_is)
    (case aC => k_is)
    (case pgC => k_is)
    (case hdC => k_is)
    (case poC => k_is)
    (case saC => k_is)
    (case mkC => k_is)
    (case kcC => k_is)
    (case aCinit => k_is)
    (case iCinit => k_is)
    (case kCinit => k_is)
    (case lCinit => k_is)
    (case eCinit => k_is)
    (case aCmove => k_is)
    (case iCmove => k_is)
    (case kCmove => k_is)
    (case lCmove => k_is)
    (case eCmove => k_is)
    (case aCend => k_is)
    (case iCend => k_is)
    (case kCend => k_is)
    (case lCend => k_is)
    (case eCend => k_is)
    (case aCeq => k_is)
    (case iCeq => k_is)
    (case kCeq => k_is)
    (case lCeq => k_is)
    (case eCeq => k_is)
    (case aPletters => k_is)
    (case sPletters => k_is)
    (case tPletters => k_is)
    (case rPletters => k_is)
    (case kPletters => k_is)
    (case lPletters => k_is)
    (case ePletters => k_is)
    (case aPboxes => k_is)
    (case sPboxes => k_is)
    (case tPboxes => k_is)
    (case rPboxes => k_is)
    (case kPboxes => k_is)
    (case lPboxes => k_is)
    (case ePboxes => k_is)
    (case aPplaces => k_is)
    (case sPplaces => k_is)
    (case tPplaces => k_is)
    (case rPplaces => k_is)
    (case kPplaces => k_is)
    (case lPplaces => k_is)
    (case ePplaces => k_is)
    (case is1 => k_is)
    (case is2 => k_is)
    (case is3 => k_is)
    (case is4 => k_is)
    (case n_letters => k_is)
    (case n_boxes => k_is)
    (case n_places => k_is)
    (case n_moves => k_is)
    (case n_ends => k_is)
    (case aS => k_is)
    (case pgS => k_is)
    (case hdS => k_is)
    (case poS => k_is)
    (case saS => k_is)
    (case mkS => k_is)
    (case kcS => k_is)
    (case aSinit => k_is)
    (case iSinit => k_is)
    (case kSinit => k_is)
    (case lSinit => k_is)
    (case eSinit => k_is)
    (case aSmove => k_is)
    (case iSmove => k_is)
    (case kSmove => k_is)
    (case lSmove => k_is)
    (case eSmove => k_is)
    (case aSmove_in_parts => k_is)
    (case iSmove_in_parts => k_is)
    (case kSmove_in_parts => k_is)
    (case lSmove_in_parts => k_is)
    (case eSmove_in_parts => k_is)
    (case aSfirst => k_is)
    (case iSfirst => k_is)
    (case kSfirst => k_is)
    (case lSfirst => k_is)
    (case eSfirst => k_is)
    (case aSbehind => k_is)
    (case iSbehind => k_is)
    (case kSbehind => k_is)
    (case lSbehind => k_is)
    (case eSbehind => k_is)
    (case aSshown => k_is)
    (case iSshown => k_is)
    (case kSshown => k_is)
    (case lSshown => k_is)
    (case eSshown => k_is)
    (case aSended => k_is)
    (case iSended => k_is)
    (case kSended => k_is)
    (case lSended => k_is)
    (case eSended => k_is)
    (case aStold => k_is)
    (case iStold => k_is)
    (case kStold => k_is)
    (case lStold => k_is)
    (case eStold => k_is)
    (case nS_program => k_is)
    (case nS_boxes => k_is)
    (case nS_moves => k_is)
    (case aR => k_is)
    (case pgR => k_is)
    (case hdR => k_is)
    (case poR => k_is)
    (case saR => k_is)
    (case mkR => k_is)
    (case kcR => k_is)
    (case aRinit => k_is)
    (case iRinit => k_is)
    (case kRinit => k_is)
    (case lRinit => k_is)
    (case eRinit => k_is)
    (case aRpieces => k_is)
    (case iRpieces => k_is)
    (case kRpieces => k_is)
    (case lRpieces => k_is)
    (case eRpieces => k_is)
    (case nR_left => k_is)
    (case nR_middle => k_is)
    (case nR_right => k_is)
    (case nR_length => k_is)
    (case rs1 => k_is)
    (case rs4 => k_is)
    (case rs5 => kernel_rfl)
    (case rs6 => k_is)
    (case aNL => k_is)
    (case xNL => k_is)
    (case hbNL => rfl)
    (case saNL => k_is)
    (case eCNL => k_is)
    (case tCNL => k_is)
    (case kCNL => k_is)
    (case aXNL => k_is)
    (case tXNL => k_is)
    (case kXNL => k_is)
    (case lXNL => k_is)
    (case eXNL => k_is)
    (case aND => k_is)
    (case xND => k_is)
    (case hbND => rfl)
    (case saND => k_is)
    (case eCND => k_is)
    (case tCND => k_is)
    (case kCND => k_is)
    (case aXND => k_is)
    (case tXND => k_is)
    (case kXND => k_is)
    (case lXND => k_is)
    (case eXND => k_is)
    (case gaNL => k_is)
    (case ggNL => k_is)
    (case hdNL => k_is)
    (case nfNL => k_is)
    (case em1 => first | kts_exm | kernel_rfl)
    (case em2 => first | kts_exm | kernel_rfl)
    (case em3 => first | kts_exm | kernel_rfl)
    (case aD => k_is)
    (case pgD => k_is)
    (case hdD => k_is)
    (case poD => k_is)
    (case saD => k_is)
    (case mkD => k_is)
    (case kcD => k_is)
    (case aDinit => k_is)
    (case iDinit => k_is)
    (case kDinit => k_is)
    (case lDinit => k_is)
    (case eDinit => k_is)
    (case aDread => k_is)
    (case iDread => k_is)
    (case kDread => k_is)
    (case lDread => k_is)
    (case eDread => k_is)
    (case aDtext => k_is)
    (case iDtext => k_is)
    (case kDtext => k_is)
    (case lDtext => k_is)
    (case eDtext => k_is)
    (case aDstate => k_is)
    (case iDstate => k_is)
    (case kDstate => k_is)
    (case lDstate => k_is)
    (case eDstate => k_is)
    (case aDtold => k_is)
    (case iDtold => k_is)
    (case kDtold => k_is)
    (case lDtold => k_is)
    (case eDtold => k_is)
    (case aDundo => k_is)
    (case iDundo => k_is)
    (case kDundo => k_is)
    (case lDundo => k_is)
    (case eDundo => k_is)
    (case aDagain => k_is)
    (case iDagain => k_is)
    (case kDagain => k_is)
    (case lDagain => k_is)
    (case eDagain => k_is)
    (case aDnow => k_is)
    (case iDnow => k_is)
    (case kDnow => k_is)
    (case lDnow => k_is)
    (case eDnow => k_is)
    (case aDprogram => k_is)
    (case sDprogram => k_is)
    (case tDprogram => k_is)
    (case rDprogram => k_is)
    (case kDprogram => k_is)
    (case lDprogram => k_is)
    (case eDprogram => k_is)
    (case nD_program => k_is)
    (case nD_steps => k_is)
    (case nD_done => k_is)
    (case nD_undone => k_is)
    (case ne1 => decide)
    (case ne2 => decide)
    (case ne3 => decide)
    (case hdP => kernel_rfl)
    (case nlP => kernel_rfl)
    (case z_all => k_is)
    (case z_dict => k_is)
    (case z_int => k_is)
    (case z_isinstance => k_is)
    (case z_len => k_is)
    (case z_list => k_is)
    (case z_range => k_is)
    (case z_repr => k_is)
    (case z_set => k_is)
    (case z_sorted => k_is)
    (case z_str => k_is)
    (case z_tuple => k_is)
    (case v_BOXES => k_is)
    (case v_LONGEST_NAME => k_is)
    (case v_MOST_BOXES => k_is)
    (case v_MOST_LETTERS => k_is)
    (case v_MOST_PLACES => k_is)
    (case v_SHORT => k_is)

