import PyProof.Rows.All
import Wide.All
import OpenK.AllK
import Wide.FinOn
import HandS.ForMost
import HandS.More
import HandS.Conv
import HandS.Walk
import HandS.Flow
import HandS.Style
import HandS.Strs
import HandS.Codes
import PyProof.Rows.SetFrom
import PyProof.StrWalks
import HandS.IsInst
import HandS.Iter
import HandS.DictComp
import HandS.StrMore
import HandS.Text
import HandS.Replace
import HandS.ReplaceLit
import HandS.Words
import HandS.ReplaceList
import PyProof.Rows.RegReprOcc
import PyProof.Rows.StrCountLaw
import HandS.DictTup
import HandS.MapObj
import PyProof.DictWalks
import HandS.NoneIn
import HandS.Property
import KE.KEqNest
import PyProof.NeKinds
import HandS.ListItems
import PyProof.DictFindH
import PyProof.DictRoadsH
import HandS.ClsMeth
import HandS.OwnEq
import HandS.DeepEq
import PyProof.InstNe
import HandS.SetKeys
import PyProof.DictMoreH
import PyProof.Rows.TupDisplay
import KE.KDictList
import PySem.Challenge.RW_textboxes_k50_boxes_needed_and_cleared
set_option Elab.async false
set_option linter.all false
set_option maxRecDepth 100000
set_option maxHeartbeats 1000000
/-! Rules that speak of a new object without telling the heap: what stood stands (Same), the new one is at p. -/
namespace Tb
open PySem PySem.Spec PyProof.Rows L2
theorem same_upd {H : Hp} {p : Addr} {o : HO} (h : H p = none) : Same H (upd H p o) := fun b x e => by
  rw [upd_ne (ne_of_none e h)]
  exact e
theorem sql_upd {K : PySem.W.Frag} {H : Hp} {a p : Addr} {o : HO} {xs : List V} (h : SqL K H a xs) (ne : a ≠ p) : SqL K (upd H p o) a xs := by
  rcases h with (h | ⟨u, h⟩) | h
  · exact .inl (.inl (by rw [upd_ne ne]; exact h))
  · exact .inl (.inr ⟨u, by rw [upd_ne ne]; exact h⟩)
  · exact .inr h
theorem PE.weak {X : Cx} {e : Expr} {t t' : TE} (h : PE X e t) (w : ∀ σ H Q, t' σ H Q → t σ H Q) : PE X e t' := ⟨fun pins s σ H Q I z => h.run pins s σ H Q I (w σ H Q z)⟩
theorem PA.weak {X : Cx} {es : List Expr} {t t' : TA} (h : PA X es t) (w : ∀ σ H Q, t' σ H Q → t σ H Q) : PA X es t' := ⟨fun pos pins s σ H Q I z => h.run pos pins s σ H Q I (w σ H Q z)⟩
theorem OpR.weak {X : Cx} {f : Value → Value → Sem Value} {r r' : R2} (h : OpR X f r) (w : ∀ x y H Q, r' x y H Q → r x y H Q) : OpR X f r' := fun pins s σ H x y v u Q I rx ry z => h pins s σ H x y v u Q I rx ry (w x y H Q z)
theorem CallR.weak {X : Cx} {f : Value} {r r' : List V → Hp → VK → Prop} (h : CallR X f r) (w : ∀ xs H Q, r' xs H Q → r xs H Q) : CallR X f r' := fun pins s σ H xs us Q I rx z => h pins s σ H xs us Q I rx (w xs H Q z)
/-- what holds of a new object o -/
def New (H : Hp) (o : HO) (Q : VK) : Prop := ∀ p H', Same H H' → H p = none → H' p = some o → Q (.ref p) H'
theorem New.at {H : Hp} {o : HO} {Q : VK} (h : New H o Q) : ∀ p, H p = none → Q (.ref p) (upd H p o) := fun p np => h p _ (same_upd np) np upd_same
theorem tYes_if {A B : Hp → Prop} {σ : L2.St} {H : Hp} (h : A H) : tYes σ H (fun b H3 => if b = true then A H3 else B H3) := by
  show (if true = true then A H else B H)
  rw [if_pos rfl]
  exact h
section
variable {X : Cx} {es : List Expr} {t : TA} {p : Pos}
def tLstS (t : TA) : TE := fun σ H Q => t σ H fun xs H1 => xs.length ≤ sizeLine ∧ New H1 (.lst xs) Q
def tTupS (t : TA) : TE := fun σ H Q => t σ H fun xs H1 => xs.length ≤ sizeLine ∧ New H1 (.tup xs) Q
theorem PA.mono (h : PA X es t) : PA X es (fun σ H Q => ∃ R, t σ H R ∧ ∀ xs H1, R xs H1 → Q xs H1) := ⟨fun pos pins s σ H Q I ⟨R, z, m⟩ => thn (h.run pos pins s σ H R I z) fun us s1 ⟨vs, H1, I1, r1, q1⟩ => ⟨vs, H1, I1, r1, m vs H1 q1⟩⟩
theorem pe_lstS (h : PA X es t) : PE X (.List es p) (tLstS t) := PE.weak (pe_lst (PA.mono h)) fun σ H Q z => ⟨_, z, fun xs H1 q => ⟨q.1, q.2.at⟩⟩
theorem pe_tupS {k : Nat} (h : PA X es t) : PE X (.Tuple es k p) (tTupS t) := PE.weak (pe_tup (PA.mono h)) fun σ H Q z => ⟨_, z, fun xs H1 q => ⟨q.1, q.2.at⟩⟩
def rCatS : R2 := fun x y H Q => ∃ l b xs zs ys, x = .ref l ∧ y = .ref b ∧ H l = some (.lst xs) ∧ H b = some (.lst zs) ∧ xs.length + zs.length ≤ sizeLine ∧ xs ++ zs = ys ∧ New H (.lst ys) Q
theorem op_catS : OpR X (binaryOp .Add) rCatS := OpR.weak op_cat fun x y H Q ⟨l, b, xs, zs, ys, e1, e2, h1, h2, hl, e, h⟩ => ⟨l, b, xs, zs, e1, e2, h1, h2, hl, by rw [e]; exact h.at⟩
def rRepS : R2 := fun x y H Q => ∃ l k xs ys, x = .ref l ∧ y = .int k ∧ H l = some (.lst xs) ∧ -(2 ^ 63) ≤ k ∧ k < 2 ^ 63 ∧ xs.length * k.toNat ≤ sizeLine ∧ (List.replicate k.toNat xs).flatten = ys ∧ New H (.lst ys) Q
theorem op_repS : OpR X (binaryOp .Mult) rRepS := OpR.weak op_rep fun x y H Q ⟨l, k, xs, ys, e1, e2, h1, k0, k1, hl, e, h⟩ => ⟨l, k, xs, e1, e2, h1, k0, k1, hl, by rw [e]; exact h.at⟩
def tNewK : TE := fun _ H Q => New H (.dK []) Q
def tNewT : TE := fun _ H Q => New H (.dT []) Q
theorem pe_newK : PE X (.Dict [] [] p) tNewK := PE.weak pe_dnewK fun σ H Q z => z.at
theorem pe_newT : PE X (.Dict [] [] p) tNewT := PE.weak pe_dnewT fun σ H Q z => z.at
def rLen (K : PySem.W.Frag) : List V → Hp → VK → Prop := fun xs H Q => ∃ p ys, xs = [.ref p] ∧ (SqL K H p ys ∨ SqT K H p ys) ∧ Q (.int ys.length) H
theorem call_lenS : CallR X (.builtin "len") (rLen X.K) := call_len_seq
def num (k : Nat) : V := .int (k : Int)
theorem rgV_num (m : Nat) : rgV 0 (m : Int) = (List.range m).map num := by
  unfold rgV
  rw [show ((m : Int) - 0).toNat = m by omega]
  exact List.map_congr_left fun i _ => congrArg V.int (Int.zero_add _)
theorem PE.mono {e : Expr} {t : TE} (h : PE X e t) : PE X e (fun σ H Q => ∃ R, t σ H R ∧ ∀ v H1, R v H1 → Q v H1) := ⟨fun pins s σ H Q I ⟨R, z, m⟩ => thn (h.run pins s σ H R I z) fun u s1 ⟨v, H1, I1, r1, q1⟩ => ⟨v, H1, I1, r1, m v H1 q1⟩⟩
/-- list(range(n)) -/
def tListN (t : TE) : TE := fun σ H Q => t σ H fun x H1 => ∃ m : Nat, x = num m ∧ m ≤ 16777216 ∧ New H1 (.lst ((List.range m).map num)) Q
theorem pe_listN {e : Expr} {t : TE} {p1 p2 p3 p4 : Pos} (hc : X.calm = true) (hg : Gl X "list") (hm : X.mg "list" = none) (hg' : Gl X "range") (hm' : X.mg "range" = none) (h : PE X e t) (hs : starEach [e] X.env = (false, eval e X.env) :: starEach [] X.env := by rfl) :
    PE X (.Call (.Name "list" p1) [.Call (.Name "range" p2) [e] [] p3] [] p4) (tListN t) :=
  PE.weak (pe_listRg hc hg hm (prg_1 hg' hm' (PE.mono h) (na := hs))) fun σ H Q z => ⟨_, z, fun v H1 ⟨m, e1, l, q⟩ => ⟨(m : Int), e1, RgOk.of_le (by omega) (by omega) (by omega) (by omega), by rw [rgV_num]; exact q.at⟩⟩
end
/-- a def of the module's top that keeps a promise -/
structure Df (P : Program) (w : World) (K : PySem.W.Frag) (mg : Str → Option Value) (base : Heap) (k : Nat) (nm : Str) (ps : List Str) (sp : Sp) : Prop where
  ex : ∃ f fd, FnOk P w K mg base CX0 k f fd ps sp ∧ Binds K fd ps [] ∧ PySem.W.keepIn K (.ref f) = true ∧ mg nm = some (.ref f)
theorem Df.imp {P : Program} {w : World} {K : PySem.W.Frag} {mg : Str → Option Value} {base : Heap} {k : Nat} {nm : Str} {ps : List Str} {sp sp' : Sp} (D : Df P w K mg base k nm ps sp) (h : ∀ vs H Q E, sp' vs H Q E → sp vs H Q E) : Df P w K mg base k nm ps sp' := by
  obtain ⟨f, fd, G, b, kp, m⟩ := D.ex
  exact ⟨f, fd, G.imp h, b, kp, m⟩
theorem pe_df {X : Cx} {k j : Nat} {nm : Str} {ps : List Str} {sp : Sp} {e : Expr} {es : List Expr} {t : TA} {p pos : Pos} (D : Df X.prog X.w X.K X.mg X.base k nm ps sp) (hr : Room j X.A) (ha : PA X (e :: es) t) (hg : Gl X nm := by rfl) (hk : k ≤ j := by omega)
    (hdb : (nm == ("__debug__" : Str)) = false := by decide) (he : starEach (e :: es) X.env = (false, eval e X.env) :: starEach es X.env := by rfl) (hpl : (backTo pos (starEach es X.env)).any (·.1) = false := by rfl) :
    PE X (.Call (.Name nm p) (e :: es) [] pos) (tCall sp [] E0 t) := by
  obtain ⟨f, fd, G, b, kp, m⟩ := D.ex
  exact pe_call G (hr.mono hk) hg m kp b .nil pass0 ha hdb he hpl
end Tb

set_option Elab.async false
set_option linter.all false
set_option maxRecDepth 100000
set_option maxHeartbeats 1000000
namespace Tb
open PySem PySem.Spec PyProof.Rows L2 TL
/-! ### texts by their signs -/
def S (l : List Nat) : Str := ⟨l.toArray⟩
theorem tl_S (l : List Nat) : tl (S l) = l := rfl
theorem S_tl (x : Str) : S (tl x) = x := ext_tl rfl
theorem S_app (a b : List Nat) : S a ++ S b = S (a ++ b) := ext_tl (by rw [tl_append]; rfl)
theorem len_S (l : List Nat) : (S l).length = l.length := by rw [len_tl, tl_S]
theorem S_inj {a b : List Nat} (h : S a = S b) : a = b := by
  have e := congrArg tl h
  exact e
theorem joinL_nil : ∀ parts : List (List Nat), joinL [] parts = parts.flatten
  | [] => rfl
  | [p] => by simp [joinL]
  | p :: q :: r => by
    have ih := joinL_nil (q :: r)
    show p ++ ([] ++ joinL [] (q :: r)) = _
    rw [ih]
    rfl
theorem join_S (s : List Nat) (parts : List (List Nat)) : Txt.join (S s) (parts.map S) = S (joinL s parts) := ext_tl (by
  rw [join_eq, tl_join, List.map_map]
  have e : parts.map (tl ∘ S) = parts := by
    rw [show (tl ∘ S) = id from funext fun l => rfl, List.map_id]
  rw [e]
  rfl)
theorem ones_flat : ∀ cs : List Nat, (cs.map fun c => [c]).flatten = cs
  | [] => rfl
  | c :: r => congrArg (c :: ·) (ones_flat r)
theorem join_signs (cs : List Nat) : Txt.join (S []) (cs.map fun c => S [c]) = S cs := by
  have e : cs.map (fun c => S [c]) = (cs.map fun c => [c]).map S := by rw [List.map_map]; rfl
  rw [e, join_S, joinL_nil, ones_flat]
theorem sum_ones (cs : List Nat) : ((cs.map fun c => S [c]).map (·.length)).sum = cs.length := by
  induction cs with
  | nil => rfl
  | cons c r ih =>
    show 1 + ((r.map fun c => S [c]).map (·.length)).sum = r.length + 1
    omega
theorem str_empty : (Str.ofString "" : Str) = S [] := by decide +kernel
/-! ### comprehensions whose element is a value of the item -/
section
variable {K : PySem.W.Frag} {te : TE} {vs : List Nat} {σ : L2.St} {H1 : Hp} {D : Addr} {Qd : Hp → Prop} {sl : Nat}
theorem lc_mapL {a : Addr} {xs : List V} (g : V → V) (hS : SqL K H1 a xs) (nD : H1 D = none) (hl : xs.length < sizeLine) (he : ∀ x ∈ xs, ∀ H' (R : VK), Same H1 H' → R (g x) H' → te ((wipe σ vs).set sl (some x)) H' R)
    (hd : ∀ H', Same H1 H' → H' D = some (.lst (xs.map g)) → Qd H') (hw : ∀ x, wipe ((wipe σ vs).set sl (some x)) vs = wipe σ vs := by intro _; rfl) :
    ∃ W : Nat → Nat → Hp → Prop, (∃ m, W 0 m (upd H1 D (.lst []))) ∧ ∀ i m H, W i m H →
      ((Itl K a).stop i H ∧ Qd H) ∨ ((Itl K a).go i H ∧ ∃ Nx : Hp → Prop, (∀ H', Nx H' → ∃ m', m' < m ∧ W (i + 1) m' H') ∧ ∀ x H', (Itl K a).yld i H x H' → gName sl x (wipe σ vs) H' fun σ2 H2 => wipe σ2 vs = wipe σ vs ∧ tYes σ2 H2 fun b H3 =>
        if b = true then te σ2 H3 fun y H4 => ∃ acc, H4 D = some (.lst acc) ∧ acc.length < sizeLine ∧ Nx (upd H4 D (.lst (acc ++ [y]))) else Nx H3) := by
  refine lc_list (K := K) (a := a) (xs := xs) (fun i H => Same H1 H ∧ H D = some (.lst ((xs.take i).map g))) ⟨same_upd nD, upd_same⟩ (fun i H _ h => h.1.seq hS) ?_ ?_
  · rintro i x H hx ⟨s, e⟩
    refine ⟨hw x, tYes_if (he x (List.mem_of_getElem? hx) H _ s ⟨_, e, ?_, fun b o eb => ?_, ?_⟩)⟩
    · rw [List.length_map, List.length_take]
      exact Nat.lt_of_le_of_lt (Nat.min_le_right _ _) hl
    · rw [upd_ne (ne_of_none eb nD)]
      exact s _ _ eb
    · rw [upd_same, List.take_add_one, hx, List.map_append]
      rfl
  · rintro H ⟨s, e⟩
    rw [List.take_length] at e
    exact hd H s e
theorem lc_mapR {n : Nat} (g : Nat → V) (nD : H1 D = none) (hl : n < sizeLine) (he : ∀ i, i < n → ∀ H' (R : VK), Same H1 H' → R (g i) H' → te ((wipe σ vs).set sl (some (num i))) H' R)
    (hd : ∀ H', Same H1 H' → H' D = some (.lst ((List.range n).map g)) → Qd H') (hw : ∀ x, wipe ((wipe σ vs).set sl (some x)) vs = wipe σ vs := by intro _; rfl) :
    ∃ W : Nat → Nat → Hp → Prop, (∃ m, W 0 m (upd H1 D (.lst []))) ∧ ∀ i m H, W i m H →
      ((Itr 0 n).stop i H ∧ Qd H) ∨ ((Itr 0 n).go i H ∧ ∃ Nx : Hp → Prop, (∀ H', Nx H' → ∃ m', m' < m ∧ W (i + 1) m' H') ∧ ∀ x H', (Itr 0 n).yld i H x H' → gName sl x (wipe σ vs) H' fun σ2 H2 => wipe σ2 vs = wipe σ vs ∧ tYes σ2 H2 fun b H3 =>
        if b = true then te σ2 H3 fun y H4 => ∃ acc, H4 D = some (.lst acc) ∧ acc.length < sizeLine ∧ Nx (upd H4 D (.lst (acc ++ [y]))) else Nx H3) := by
  refine lc_range (lo := 0) (n := n) (fun i H => Same H1 H ∧ H D = some (.lst ((List.range i).map g))) ⟨same_upd nD, upd_same⟩ ?_ ?_
  · rintro i H hi ⟨s, e⟩
    refine ⟨hw _, tYes_if ?_⟩
    have en : V.int (0 + (i : Int)) = num i := congrArg V.int (Int.zero_add _)
    rw [en]
    refine he i hi H _ s ⟨_, e, ?_, fun b o eb => ?_, ?_⟩
    · rw [List.length_map, List.length_range]
      omega
    · rw [upd_ne (ne_of_none eb nD)]
      exact s _ _ eb
    · rw [upd_same, List.range_succ, List.map_append]
      rfl
  · rintro H ⟨s, e⟩
    exact hd H s e
theorem lc_mapS {cs : List Nat} (g : Nat → V) (nD : H1 D = none) (hl : cs.length < sizeLine) (he : ∀ c ∈ cs, ∀ H' (R : VK), Same H1 H' → R (g c) H' → te ((wipe σ vs).set sl (some (.str (S [c])))) H' R)
    (hd : ∀ H', Same H1 H' → H' D = some (.lst (cs.map g)) → Qd H') (hw : ∀ x, wipe ((wipe σ vs).set sl (some x)) vs = wipe σ vs := by intro _; rfl) :
    ∃ W : Nat → Nat → Hp → Prop, (∃ m, W 0 m (upd H1 D (.lst []))) ∧ ∀ i m H, W i m H →
      ((Its (S cs)).stop i H ∧ Qd H) ∨ ((Its (S cs)).go i H ∧ ∃ Nx : Hp → Prop, (∀ H', Nx H' → ∃ m', m' < m ∧ W (i + 1) m' H') ∧ ∀ x H', (Its (S cs)).yld i H x H' → gName sl x (wipe σ vs) H' fun σ2 H2 => wipe σ2 vs = wipe σ vs ∧ tYes σ2 H2 fun b H3 =>
        if b = true then te σ2 H3 fun y H4 => ∃ acc, H4 D = some (.lst acc) ∧ acc.length < sizeLine ∧ Nx (upd H4 D (.lst (acc ++ [y]))) else Nx H3) := by
  refine lc_it (walk_str (z := S cs)) (fun i H => Same H1 H ∧ H D = some (.lst ((cs.take i).map g))) ⟨same_upd nD, upd_same⟩ (fun _ _ _ _ => trivial) ?_ ?_
  · rintro i x H H' hi ⟨s, e⟩ ⟨rfl, c, hc, rfl⟩
    have hc' : cs[i]? = some c := by
      have h := hc
      rw [show (S cs).cps = cs.toArray from rfl, List.getElem?_toArray] at h
      exact h
    refine ⟨hw _, tYes_if (he c (List.mem_of_getElem? hc') _ _ s ⟨_, e, ?_, fun b o eb => ?_, ?_⟩)⟩
    · rw [List.length_map, List.length_take]
      exact Nat.lt_of_le_of_lt (Nat.min_le_right _ _) hl
    · rw [upd_ne (ne_of_none eb nD)]
      exact s _ _ eb
    · rw [upd_same, List.take_add_one, hc', List.map_append]
      rfl
  · rintro H ⟨s, e⟩
    rw [show (S cs).cps.size = cs.length from rfl, List.take_length] at e
    exact hd H s e
theorem tif {t : TT} {σ : L2.St} {H : Hp} {A : Hp → Prop} {B : Hp → Prop} {k : Bool} (ht : ∀ R : Bool → Hp → Prop, R k H → t σ H R) (h1 : k = true → A H) (h2 : k = false → B H) : t σ H (fun b H3 => if b = true then A H3 else B H3) := by
  refine ht _ ?_
  cases k with
  | true =>
    show (if true = true then A H else B H)
    rw [if_pos rfl]
    exact h1 rfl
  | false =>
    show (if false = true then A H else B H)
    rw [if_neg Bool.false_ne_true]
    exact h2 rfl
/-- a list's items that keep, each by its value -/
theorem lc_filtL {a : Addr} {xs : List V} {tt : TT} (keep : V → Bool) (g : V → V) (hS : SqL K H1 a xs) (nD : H1 D = none) (hl : xs.length < sizeLine) (ht : ∀ x ∈ xs, ∀ H' (R : Bool → Hp → Prop), Same H1 H' → R (keep x) H' → tt ((wipe σ vs).set sl (some x)) H' R)
    (he : ∀ x ∈ xs, keep x = true → ∀ H' (R : VK), Same H1 H' → R (g x) H' → te ((wipe σ vs).set sl (some x)) H' R)
    (hd : ∀ H', Same H1 H' → H' D = some (.lst ((xs.filter keep).map g)) → Qd H') (hw : ∀ x, wipe ((wipe σ vs).set sl (some x)) vs = wipe σ vs := by intro _; rfl) :
    ∃ W : Nat → Nat → Hp → Prop, (∃ m, W 0 m (upd H1 D (.lst []))) ∧ ∀ i m H, W i m H →
      ((Itl K a).stop i H ∧ Qd H) ∨ ((Itl K a).go i H ∧ ∃ Nx : Hp → Prop, (∀ H', Nx H' → ∃ m', m' < m ∧ W (i + 1) m' H') ∧ ∀ x H', (Itl K a).yld i H x H' → gName sl x (wipe σ vs) H' fun σ2 H2 => wipe σ2 vs = wipe σ vs ∧ tt σ2 H2 fun b H3 =>
        if b = true then te σ2 H3 fun y H4 => ∃ acc, H4 D = some (.lst acc) ∧ acc.length < sizeLine ∧ Nx (upd H4 D (.lst (acc ++ [y]))) else Nx H3) := by
  refine lc_list (K := K) (a := a) (xs := xs) (fun i H => Same H1 H ∧ H D = some (.lst (((xs.take i).filter keep).map g))) ⟨same_upd nD, upd_same⟩ (fun i H _ h => h.1.seq hS) ?_ ?_
  · rintro i x H hx ⟨s, e⟩
    have hm := List.mem_of_getElem? hx
    have et : xs.take (i + 1) = xs.take i ++ [x] := by
      rw [List.take_add_one, hx]
      rfl
    refine ⟨hw x, tif (k := keep x) (fun R r => ht x hm H R s r) (fun hk => he x hm hk H _ s ⟨_, e, ?_, fun b o eb => ?_, ?_⟩) (fun hk => ⟨s, ?_⟩)⟩
    · rw [List.length_map]
      refine Nat.lt_of_le_of_lt (List.length_filter_le _ _) ?_
      rw [List.length_take]
      exact Nat.lt_of_le_of_lt (Nat.min_le_right _ _) hl
    · rw [upd_ne (ne_of_none eb nD)]
      exact s _ _ eb
    · rw [upd_same, et, List.filter_append, List.map_append]
      simp only [List.filter_cons, hk, if_true, List.filter_nil]
      rfl
    · rw [e, et, List.filter_append]
      simp [List.filter_cons, hk]
  · rintro H ⟨s, e⟩
    rw [List.take_length] at e
    exact hd H s e
end
/-! ### slices, members -/
theorem inV_S (x : List Nat) (ys : List (List Nat)) : inV (.str (S x)) (ys.map fun y => .str (S y)) = decide (x ∈ ys) := by
  unfold inV
  rw [List.any_map, Bool.eq_iff_iff, List.any_eq_true, decide_eq_true_eq]
  constructor
  · rintro ⟨y, hy, e⟩
    have e' : (S y == S x) = true := e
    rw [← S_inj (beq_iff_eq.mp e')]
    exact hy
  · intro h
    exact ⟨x, h, beq_self_eq_true (S x)⟩
theorem flat_S (ys : List (List Nat)) : (ys.map fun y => V.str (S y)).all flatV = true := by
  rw [List.all_map, List.all_eq_true]
  intro y _
  rfl
theorem cutS_drop (cs : List Nat) (k : Nat) : cutS (S cs) (some (k : Int)) none = S (cs.drop k) := by
  refine ext_tl ?_
  show ((cs.drop (HT.sIx (S cs).length 0 (some (k : Int)))).take (HT.sIx (S cs).length (S cs).length none - HT.sIx (S cs).length 0 (some (k : Int)))) = cs.drop k
  rw [HT.sIx_nat, HT.sIx_none, len_S]
  by_cases h : k ≤ cs.length
  · rw [Nat.min_eq_left h]
    refine List.take_of_length_le ?_
    rw [List.length_drop]
    exact Nat.le_refl _
  · rw [Nat.min_eq_right (by omega), List.drop_eq_nil_of_le (Nat.le_refl _), List.drop_eq_nil_of_le (by omega)]
    rw [List.take_nil]
/-! ### slices -/
section
variable {X : Cx}
def rSlLS (K : PySem.W.Frag) : V → Option Int → Option Int → Hp → VK → Prop := fun x lo hi H Q => ∃ a xs, x = .ref a ∧ SqL K H a xs ∧ New H (.lst (cutV xs lo hi)) Q
theorem sl_listS : SlR X (rSlLS X.K) := fun pins s σ H x v vl vu lo hi sl Q I r hs h1 h2 ⟨a, xs, e, hS, q⟩ => sl_list pins s σ H x v vl vu lo hi sl Q I r hs h1 h2 ⟨a, xs, e, hS, q.at⟩
theorem cutV_take (xs : List V) (m : Nat) : cutV xs none (some (m : Int)) = xs.take m := by
  unfold cutV
  rw [HT.sIx_nat, HT.sIx_none, List.drop_zero, Nat.sub_zero, List.take_eq_take_iff]
  omega
end
end Tb

set_option Elab.async false
set_option linter.all false
set_option maxRecDepth 100000
namespace Tb
open PySem PySem.Spec PyProof.Rows L2
def topS (i : Nat) : Stmt := PySem.Challenge.pw_textboxes_k50_boxes_needed_and_cleared.main.body.getD i (.Pass ⟨0, 0, 0, 0⟩)
abbrev sSource : Stmt := topS 34
abbrev sDraw : Stmt := topS 35
abbrev sPick : Stmt := topS 36
abbrev sOrder : Stmt := topS 37
abbrev sName : Stmt := topS 38
abbrev sNames : Stmt := topS 39
abbrev sSigns : Stmt := topS 40
abbrev sPiece : Stmt := topS 41
abbrev sFill : Stmt := topS 42
abbrev sProgram : Stmt := topS 43
abbrev sMade : Stmt := topS 44
end Tb

set_option Elab.async false
set_option linter.all false
set_option maxRecDepth 100000
set_option maxHeartbeats 1000000
namespace Tb
open PySem PySem.Spec PyProof.Rows L2 TL
/-! ### the source of draws -/
/-- a list [great, seed, how many were drawn], of at most n draws -/
def SrcO (n : Nat) (o : HO) : Prop := ∃ g s c : Int, o = .lst [.int g, .int s, .int c] ∧ 0 ≤ g ∧ 0 ≤ s ∧ s < 2147483647 ∧ 0 ≤ c ∧ c ≤ n
/-- all but the source stands -/
def But (p : Addr) (H H' : Hp) : Prop := ∀ b o, H b = some o → b ≠ p → H' b = some o
theorem But.refl (p : Addr) (H : Hp) : But p H H := fun _ _ h _ => h
theorem But.trans {p : Addr} {H H1 H2 : Hp} (a : But p H H1) (b : But p H1 H2) : But p H H2 := fun c o h n => b c o (a c o h n) n
theorem But.upd (p : Addr) (H : Hp) (o : HO) : But p H (upd H p o) := fun b u h n => by
  rw [upd_ne n]
  exact h
theorem Same.but {H H' : Hp} (s : Same H H') (p : Addr) : But p H H' := fun b o h _ => s b o h
theorem But.seq {K : PySem.W.Frag} {p a : Addr} {H H' : Hp} {xs : List V} (e : But p H H') (n : a ≠ p) (h : SqL K H a xs) : SqL K H' a xs := by
  rcases h with (h | ⟨o, h⟩) | h
  · exact .inl (.inl (e _ _ h n))
  · exact .inl (.inr ⟨o, e _ _ h n⟩)
  · exact .inr h
theorem But.free {p : Addr} {H H' : Hp} (e : But p H H') {l : Addr} {o : HO} (hp : H' p = some o) (h : H' l = none) : H l = none := by
  cases q : H l with
  | none => rfl
  | some u =>
    have n : l ≠ p := fun z => by
      rw [z, hp] at h
      cases h
    rw [e l u q n] at h
    cases h
/-- the source stands at p, at most n were drawn -/
def Src (H : Hp) (p : Addr) (n : Nat) : Prop := ∃ o, H p = some o ∧ SrcO n o
theorem SrcO.le {n m : Nat} {o : HO} (h : SrcO n o) (l : n ≤ m) : SrcO m o := by
  obtain ⟨g, s, c, e, a, b, d, f, k⟩ := h
  exact ⟨g, s, c, e, a, b, d, f, by omega⟩
theorem Src.le {H : Hp} {p : Addr} {n m : Nat} (h : Src H p n) (l : n ≤ m) : Src H p m := by
  obtain ⟨o, e, h⟩ := h
  exact ⟨o, e, h.le l⟩
theorem Src.same {H H' : Hp} {p : Addr} {n : Nat} (h : Src H p n) (s : Same H H') : Src H' p n := by
  obtain ⟨o, e, h⟩ := h
  exact ⟨o, s _ _ e, h⟩
section
variable {P : Program} {w : World} {K : PySem.W.Frag} {mg : Str → Option Value} {base : Heap}
theorem scSource : FnScope ["_law_script", "_law_great", "_law_seed", "_law_cell"] ["_law_script"] (defScope sSource) := ⟨rfl, rfl, rfl, by decide +kernel, rfl, by decide +kernel, by decide +kernel⟩
def spSource (K : PySem.W.Frag) : Sp := fun vs H Q _ => ∃ (a : Addr) (ns : List Int), vs = [.ref a] ∧ SqL K H a (ns.map V.int) ∧ ∀ p o H', Same H H' → H p = none → H' p = some o → SrcO 0 o → Q (.ref p) H'
theorem ok_source {f : Addr} {fd : FuncData} {k : Nat} (F : Fun K "_law_source" "_law_source" sSource f fd) (mi : mg "int" = none) : FnOk P w K mg base CX0 (k + 1) f fd ["_law_script"] (spSource K) := by
  refine F.ok scSource (fun vs H Q E h => ?_) (fun cdv A outer s H vs Q E hr h => ?_)
  · obtain ⟨a, ns, rfl, _⟩ := h
    rfl
  · obtain ⟨a, ns, rfl, hS, q⟩ := h
    refine ⟨_, pss_cons (ps_asg (pe_tup (pa_cons pe_int (pa_cons pe_int pa_nil))) (pg_tup (by rfl) (pgs_cons (pg_name (i := 1) scSource.nd rfl (.inl rfl)) (pgs_cons (pg_name (i := 2) scSource.nd rfl (.inl rfl)) pgs_nil))))
      (pss_cons (ps_for PassesOwn.never rfl (pi_list (pv 0)) (pg_name (i := 3) scSource.nd rfl (.inl rfl))
        (pss_cons (ps_if (PW.pt (pw_and (pt_cmpR op_eq (pv 1) pe_int (nomark _)) (pw_and1 (pt_cmpR op_ge (pv 3) (pe_op op_pow pe_int pe_int) (nomark _))))) (pss_one (ps_set (i := 1) scSource.nd rfl (.inl rfl) (pv 3))) pss_nil)
        (pss_one (ps_set (i := 2) scSource.nd rfl (.inl rfl) (pe_op op_mod (pe_callTy call_int1 (by rfl) mi (by decide +kernel) (pa_cons (pe_op op_add (pe_op op_add (pe_op op_mul (pv 2) pe_int) (pv 3)) pe_int) pa_nil)) pe_int)))))
      (pss_one (ps_ret (pe_lst (pa_cons (pv 1) (pa_cons (pv 2) (pa_cons pe_int pa_nil))))))), ?_⟩
    refine ⟨by show 2 ≤ sizeLine; decide, fun tp ntp => ⟨tp, _, rfl, .inl (.inl upd_same), rfl, _, _, rfl, _, _, rfl, rfl, ?_⟩⟩
    have s1 : Same H (upd H tp (.tup [.int 0, .int 17])) := same_upd ntp
    generalize upd H tp (.tup [.int 0, .int 17]) = H1 at s1
    refine ⟨_, rfl, a, rfl, ⟨_, s1.seq hS⟩, for_list (K := K) (a := a) (xs := ns.map V.int) (fun i σ H2 => H2 = H1 ∧ ∃ (g s : Int) (v : Option V), σ = [some (.ref a), some (.int g), some (.int s), v] ∧ 0 ≤ g ∧ 0 ≤ s ∧ s < 2147483647) ⟨rfl, 0, 17, none, rfl, by decide, by decide, by decide⟩ (fun i σ H2 _ z => by rw [z.1]; exact s1.seq hS) ?_ ?_⟩
    · rintro i y σ H2 hi ⟨rfl, g, sd, v, rfl, g0, s0, s2⟩
      obtain ⟨z, rfl⟩ : ∃ z, y = V.int z := by
        rw [List.getElem?_map] at hi
        cases e : ns[i]? with
        | none =>
          rw [e] at hi
          cases hi
        | some z =>
          rw [e] at hi
          exact ⟨z, (Option.some.inj hi).symm⟩
      have fin : ∀ g' : Int, 0 ≤ g' → tAsg
        (tOp (rI (fun x j => 0 < j) fun i j => V.int (i % j))
          (tCB (fun xs H Q => (∃ i, xs = [V.int i] ∧ Q (V.int i) H) ∨ ∃ k, xs = [V.bl k] ∧ Q (V.int (if k = true then 1 else 0)) H)
            (tCons (tOp (rI0 fun i j => V.int (i + j)) (tOp (rI0 fun i j => V.int (i + j)) (tOp (rI CMul fun i j => V.int (i * j)) (tVar 2) (tC (V.int 31))) (tVar 3)) (tC (V.int 7))) tNil))
          (tC (V.int 2147483647))) (gName 2) { nx := fun σ H3 => H3 = H2 ∧ ∃ g s v, σ = [some (V.ref a), some (V.int g), some (V.int s), v] ∧ 0 ≤ g ∧ 0 ≤ s ∧ s < 2147483647, rt := Q } [some (.ref a), some (.int g'), some (.int sd), some (.int z)] H2 := fun g' hg => by
        refine ⟨_, rfl, _, _, rfl, rfl, .inl ⟨by omega, by omega⟩, _, rfl, _, _, rfl, rfl, _, _, rfl, rfl, .inl ⟨_, rfl, ?_⟩⟩
        exact ⟨_, _, rfl, rfl, by show (0 : Int) < 2147483647; decide, rfl, g', _, some (.int z), rfl, hg, Int.emod_nonneg _ (by decide), Int.emod_lt_of_pos _ (by decide)⟩
      refine ⟨_, rfl, rfl, _, rfl, ite2 (fun e0 => ?_) (fun e0 => ?_)⟩
      · refine ⟨_, rfl, _, _, rfl, rfl, ⟨by decide, by decide, by decide⟩, _, _, rfl, rfl, _, rfl, ite2 (fun e1 => ?_) (fun e1 => fin g g0)⟩
        have hz : (10 : Int) ^ (18 : Int).toNat ≤ z := of_decide_eq_true e1
        have h10 : (0 : Int) ≤ (10 : Int) ^ (18 : Int).toNat := by decide
        exact ⟨_, rfl, fin z (by omega)⟩
      · exact fin g g0
    · rintro σ H2 ⟨rfl, g, sd, v, rfl, g0, s0, s2⟩
      refine ⟨_, rfl, _, rfl, by show 3 ≤ sizeLine; decide, fun p np => ?_⟩
      exact q p _ _ (s1.trans (same_upd np)) (s1.free np) upd_same ⟨g, sd, 0, rfl, g0, s0, s2, by decide, by decide⟩
theorem scDraw : FnScope ["_law_source_here", "_law_many", "_law_digit", "_law_mixed"] ["_law_source_here", "_law_many"] (defScope sDraw) := ⟨rfl, rfl, rfl, by decide +kernel, rfl, by decide +kernel, by decide +kernel⟩
def spDraw : Sp := fun vs H Q _ => ∃ (p : Addr) (m : Int) (n : Nat) (o : HO), vs = [.ref p, .int m] ∧ H p = some o ∧ SrcO n o ∧ n < 1000000 ∧ 0 < m ∧ m < 1073741824 ∧ ∀ d o', 0 ≤ d → d < m → SrcO (n + 1) o' → Q (.int d) (upd H p o')
theorem ok_draw {f : Addr} {fd : FuncData} {k : Nat} (F : Fun K "_law_draw" "_law_draw" sDraw f fd) (mi : mg "int" = none) : FnOk P w K mg base CX0 (k + 1) f fd ["_law_source_here", "_law_many"] spDraw := by
  refine F.ok scDraw (fun vs H Q E h => ?_) (fun cdv A outer s H vs Q E hr h => ?_)
  · obtain ⟨p, m, n, o, rfl, _⟩ := h
    rfl
  · obtain ⟨p, m, n, o, rfl, hp, ⟨g, sd, c, rfl, g0, s0, s1, c0, c1⟩, hn, m0, m1, q⟩ := h
    refine ⟨_, pss_cons (ps_asg (pe_op op_add (pe_ix ix_list (pv 0) pe_int (fun _ _ => rfl)) pe_int) (pg_sub (pv 0) pe_int set_list))
      (pss_cons (ps_if (pt_cmpR op_gt (pe_ix ix_list (pv 0) pe_int (fun _ _ => rfl)) pe_int (nomark _))
        (pss_cons (ps_set (i := 2) scDraw.nd rfl (.inl rfl) (pe_op op_mod (pe_callTy call_int1 (by rfl) mi (by decide +kernel) (pa_cons (pe_ix ix_list (pv 0) pe_int (fun _ _ => rfl)) pa_nil)) (pv 1)))
        (pss_cons (ps_asg (pe_op op_fdiv (pe_ix ix_list (pv 0) pe_int (fun _ _ => rfl)) (pv 1)) (pg_sub (pv 0) pe_int set_list))
        (pss_one (ps_ret (pv 2))))) pss_nil)
      (pss_cons (ps_set (i := 3) scDraw.nd rfl (.inl rfl) (pe_op op_mod (pe_op op_pow (pe_op op_add (pe_ix ix_list (pv 0) pe_int (fun _ _ => rfl)) (pe_op op_mul pe_int (pe_ix ix_list (pv 0) pe_int (fun _ _ => rfl)))) pe_int) pe_int))
      (pss_one (ps_ret (pe_op op_mod (pe_op op_mod (pe_op op_pow (pe_op op_add (pe_op op_add (pe_op op_mul (pv 3) pe_int) (pe_op op_mul (pe_op op_mul pe_int (pe_ix ix_list (pv 0) pe_int (fun _ _ => rfl))) (pe_ix ix_list (pv 0) pe_int (fun _ _ => rfl)))) pe_int) pe_int) pe_int) (pv 1)))))), ?_⟩
    -- one more was drawn
    refine ⟨_, rfl, p, _, _, _, rfl, rfl, SqL.of hp, atI_nat (j := 2) rfl, _, _, rfl, rfl, _, rfl, p, _, _, 2, rfl, rfl, hp, rfl, ?_⟩
    have h1 : (upd H p (.lst ([V.int g, .int sd, .int c].set 2 (.int (c + 1))))) p = some (.lst [V.int g, .int sd, .int (c + 1)]) := upd_same
    -- a great number gives its digits
    refine ⟨_, rfl, p, _, _, _, rfl, rfl, SqL.of h1, atI_nat (j := 0) rfl, _, _, rfl, rfl, _, rfl, ite2 (fun e0 => ?_) (fun e0 => ?_)⟩
    · have hg : (1 : Int) < g := of_decide_eq_true e0
      refine ⟨_, rfl, p, _, _, _, rfl, rfl, SqL.of h1, atI_nat (j := 0) rfl, .inl ⟨_, rfl, _, rfl, _, _, rfl, rfl, m0, ?_⟩⟩
      refine ⟨_, rfl, p, _, _, _, rfl, rfl, SqL.of h1, atI_nat (j := 0) rfl, _, rfl, _, _, rfl, rfl, ⟨m0, m1⟩, _, rfl, p, _, _, 0, rfl, rfl, h1, rfl, ?_⟩
      refine ⟨_, rfl, ?_⟩
      rw [upd_upd]
      exact q _ _ (Int.emod_nonneg _ (by omega)) (Int.emod_lt_of_pos _ m0) ⟨g / m, sd, c + 1, rfl, Int.ediv_nonneg g0 (by omega), s0, s1, by omega, by omega⟩
    · refine ⟨_, rfl, p, _, _, _, rfl, rfl, SqL.of h1, atI_nat (j := 1) rfl, _, rfl, p, _, _, _, rfl, rfl, SqL.of h1, atI_nat (j := 2) rfl, _, _, rfl, rfl, .inl ⟨by omega, by omega⟩, _, _, rfl, rfl, _, _, rfl, rfl, ⟨by decide, by decide, by omega⟩, _, _, rfl, rfl, by show (0 : Int) < 2147483629; decide, ?_⟩
      have x0 : 0 ≤ (sd + 7919 * (c + 1)) ^ (5 : Int).toNat % 2147483629 := Int.emod_nonneg _ (by decide)
      have x1 : (sd + 7919 * (c + 1)) ^ (5 : Int).toNat % 2147483629 < 2147483629 := Int.emod_lt_of_pos _ (by decide)
      generalize (sd + 7919 * (c + 1)) ^ (5 : Int).toNat % 2147483629 = x at x0 x1
      have y0 : 0 ≤ (c + 1) * (c + 1) := Int.mul_nonneg (by omega) (by omega)
      have y1 : (c + 1) * (c + 1) ≤ 1000000 * 1000000 := Int.mul_le_mul (by omega) (by omega) (by omega) (by decide)
      have e : 16807 * (c + 1) * (c + 1) = 16807 * ((c + 1) * (c + 1)) := Int.mul_assoc _ _ _
      refine ⟨_, rfl, _, _, rfl, rfl, .inl ⟨by omega, by omega⟩, _, rfl, p, _, _, _, rfl, rfl, SqL.of h1, atI_nat (j := 2) rfl, _, _, rfl, rfl, .inl ⟨by decide, by decide⟩, _, rfl, p, _, _, _, rfl, rfl, SqL.of h1, atI_nat (j := 2) rfl, _, _, rfl, rfl, .inr ⟨by omega, by omega⟩, _, _, rfl, rfl, _, _, rfl, rfl, _, _, rfl, rfl, ⟨by decide, by decide, by omega⟩, _, _, rfl, rfl, by show (0 : Int) < 1000000007; decide, _, rfl, _, _, rfl, rfl, m0, ?_⟩
      exact q _ _ (Int.emod_nonneg _ (by omega)) (Int.emod_lt_of_pos _ m0) ⟨g, sd, c + 1, rfl, g0, s0, s1, by omega, by omega⟩
/-- a draw: a number below m -/
def spDrawS : Sp := fun vs H Q _ => ∃ (p : Addr) (m : Int) (n : Nat), vs = [.ref p, .int m] ∧ Src H p n ∧ n < 1000000 ∧ 0 < m ∧ m < 1073741824 ∧ ∀ (d : Nat) H', (d : Int) < m → But p H H' → Src H' p (n + 1) → Q (num d) H'
theorem draw_soft : ∀ vs H Q E, spDrawS vs H Q E → spDraw vs H Q E := by
  rintro vs H Q E ⟨p, m, n, rfl, ⟨o, hp, ho⟩, hn, m0, m1, q⟩
  refine ⟨p, m, n, o, rfl, hp, ho, hn, m0, m1, fun d o' d0 d1 ho' => ?_⟩
  have e : num d.toNat = .int d := congrArg V.int (Int.toNat_of_nonneg d0)
  rw [← e]
  exact q d.toNat _ (by omega) (But.upd p H o') ⟨o', upd_same, ho'⟩
theorem scPick : FnScope ["_law_source_here", "_law_things"] ["_law_source_here", "_law_things"] (defScope sPick) := ⟨rfl, rfl, rfl, by decide +kernel, rfl, by decide +kernel, by decide +kernel⟩
/-- one of a list's, or a text's, things -/
def spPick (K : PySem.W.Frag) : Sp := fun vs H Q _ => ∃ (p : Addr) (n : Nat), Src H p n ∧ n < 1000000 ∧
  ((∃ (t : Addr) (xs : List V), vs = [.ref p, .ref t] ∧ SqL K H t xs ∧ t ≠ p ∧ 0 < xs.length ∧ xs.length < 1073741824 ∧ ∀ x H', x ∈ xs → But p H H' → Src H' p (n + 1) → Q x H') ∨
   (∃ z : Str, vs = [.ref p, .str z] ∧ 0 < z.length ∧ z.length ≤ sizeLine ∧ z.length < 1073741824 ∧ ∀ c H', c ∈ z.cps.toList → But p H H' → Src H' p (n + 1) → Q (.str ⟨#[c]⟩) H'))
theorem ok_pick {f : Addr} {fd : FuncData} {k : Nat} (F : Fun K "_law_pick" "_law_pick" sPick f fd) (DD : Df P w K mg base (k + 1) "_law_draw" ["_law_source_here", "_law_many"] spDrawS) (ml : mg "len" = none) : FnOk P w K mg base CX0 (k + 2) f fd ["_law_source_here", "_law_things"] (spPick K) := by
  refine F.ok scPick (fun vs H Q E h => ?_) (fun cdv A outer s H vs Q E hr h => ?_)
  · obtain ⟨p, n, _, _, ⟨t, xs, rfl, _⟩ | ⟨z, rfl, _⟩⟩ := h
    · rfl
    · rfl
  · obtain ⟨p, n, hp, hn, ⟨t, xs, rfl, ht, ne, l0, l1, q⟩ | ⟨z, rfl, l0, lz, l1, q⟩⟩ := h
    · refine ⟨_, pss_one (ps_ret (pe_ix ix_list (pv 1) (pe_df DD hr (pa_cons (pv 0) (pa_cons (pe_callB call_lenS (by rfl) ml PySem.boot_len (pa_cons (pv 1) pa_nil)) pa_nil))) (fun _ _ => rfl))), ?_⟩
      refine ⟨_, rfl, _, rfl, _, rfl, t, xs, rfl, .inl ht, p, _, n, rfl, hp, hn, by omega, by omega, fun d H' d1 b' s' => ?_⟩
      have hd : d < xs.length := by omega
      exact ⟨t, xs, d, xs[d], rfl, rfl, b'.seq ne ht, atI_nat (List.getElem?_eq_getElem hd), q _ _ (List.getElem_mem hd) b' s'⟩
    · refine ⟨_, pss_one (ps_ret (pe_ix ix_str (pv 1) (pe_df DD hr (pa_cons (pv 0) (pa_cons (pe_callB call_len_str (by rfl) ml PySem.boot_len (pa_cons (pv 1) pa_nil)) pa_nil))) (fun _ _ => rfl))), ?_⟩
      refine ⟨_, rfl, _, rfl, _, rfl, z, rfl, lz, p, _, n, rfl, hp, hn, by omega, by omega, fun d H' d1 b' s' => ?_⟩
      have hd : d < z.cps.toList.length := by
        rw [Array.length_toList]
        have e : z.length = z.cps.size := rfl
        omega
      exact ⟨z, d, z.cps.toList[d], rfl, rfl, lz, atI_nat (List.getElem?_eq_getElem hd), q _ _ (List.getElem_mem hd) b' s'⟩
end
end Tb

set_option Elab.async false
set_option linter.all false
set_option maxRecDepth 100000
set_option maxHeartbeats 1000000
namespace Tb
open PySem PySem.Spec PyProof.Rows L2 TL
theorem erase_map {α β : Type} (f : α → β) : ∀ (xs : List α) (i : Nat), (xs.eraseIdx i).map f = (xs.map f).eraseIdx i
  | [], _ => rfl
  | _ :: _, 0 => rfl
  | x :: xs, i + 1 => congrArg (f x :: ·) (erase_map f xs i)
theorem erase_perm {α : Type} : ∀ (xs : List α) (i : Nat) (h : i < xs.length), (xs[i] :: xs.eraseIdx i).Perm xs
  | x :: xs, 0, _ => List.Perm.refl _
  | x :: xs, i + 1, h => by
    have h' : i < xs.length := Nat.lt_of_succ_lt_succ h
    have ih := erase_perm xs i h'
    show (xs[i] :: x :: xs.eraseIdx i).Perm (x :: xs)
    exact (List.Perm.swap _ _ _).trans (ih.cons x)
section
variable {P : Program} {w : World} {K : PySem.W.Frag} {mg : Str → Option Value} {base : Heap}
theorem scOrder : FnScope ["_law_source_here", "_law_many", "_law_left", "_law_k"] ["_law_source_here", "_law_many"] (defScope sOrder) := ⟨rfl, rfl, rfl, by decide +kernel, rfl, by decide +kernel, by decide +kernel⟩
/-- the numbers below m in some order -/
def spOrder : Sp := fun vs H Q _ => ∃ (p : Addr) (m n : Nat), vs = [.ref p, num m] ∧ Src H p n ∧ n + m < 1000000 ∧ m ≤ 1000 ∧
  ∀ q H' (ks : List Nat), But p H H' → Src H' p (n + m) → H q = none → H' q = some (.lst (ks.map num)) → ks.Perm (List.range m) → Q (.ref q) H'
theorem ok_order {f : Addr} {fd : FuncData} {k : Nat} (F : Fun K "_law_order" "_law_order" sOrder f fd) (DD : Df P w K mg base (k + 1) "_law_draw" ["_law_source_here", "_law_many"] spDrawS)
    (ml : mg "len" = none) (mt : mg "list" = none) (mr : mg "range" = none) : FnOk P w K mg base CX0 (k + 2) f fd ["_law_source_here", "_law_many"] spOrder := by
  refine F.ok scOrder (fun vs H Q E h => ?_) (fun cdv A outer s H vs Q E hr h => ?_)
  · obtain ⟨p, m, n, rfl, _⟩ := h
    rfl
  · obtain ⟨p, m, n, rfl, hp, hn, hm, q⟩ := h
    refine ⟨_, pss_cons (ps_set (i := 2) scOrder.nd rfl (.inr rfl) (pe_listN rfl (by rfl) mt (by rfl) mr (pv 1)))
      (pss_one (ps_ret (pe_lc (own := [("_law_k", 3)]) (g := gName 3) (tt := tYes) (te := tBM K "list" rPopAt (tVar 2) (tCons (tCall spDrawS [] E0 (tCons (tVar 0) (tCons (tCB (rLen K) (tCons (tVar 2) tNil)) tNil))) tNil)) rfl scOrder.nd (pi_range1 rfl mr (pa_cons (pv 1) pa_nil)) (blkOk_by (own := [("_law_k", 3)]) (N := ["_law_source_here", "_law_many", "_law_left", "_law_k"]) (sc := defScope sOrder) (by decide +kernel))
        (fun _ _ _ _ _ => pg_name (i := 3) scOrder.nd rfl (.inl rfl)) (fun _ _ _ _ _ => pts_nil)
        (fun _ _ _ _ _ => pe_bm PySem.F.plainAttrs_list PySem.F.slot_list_pop PySem.F.type_list_pop mt_popAt (pv 2) (pa_cons (pe_df DD hr (pa_cons (pv 0) (pa_cons (pe_callB call_lenS (by rfl) ml PySem.boot_len (pa_cons (pv 2) pa_nil)) pa_nil))) pa_nil))))), ?_⟩
    refine ⟨_, rfl, m, rfl, by omega, fun L H1 s1 nL e1 => ?_⟩
    have hp1 := hp.same s1
    refine ⟨_, rfl, m, rfl, by omega, by omega, fun D nD => lc_range (lo := 0) (n := (m : Int).toNat) (fun i H' => ∃ ks left : List Nat, Src H' p (n + i) ∧ H' L = some (.lst (left.map num)) ∧ H' D = some (.lst (ks.map num)) ∧ (ks ++ left).Perm (List.range m) ∧ ks.length = i ∧ But p H H') ?_ ?_ ?_⟩
    · refine ⟨[], List.range m, hp1.same (same_upd nD), same_upd nD _ _ e1, upd_same, List.Perm.refl _, rfl, Same.but (s1.trans (same_upd nD)) p⟩
    · rintro i H2 hi ⟨ks, left, hs, hL, hD, hpm, hk, hb⟩
      have hl : left.length = m - i := by
        have e := hpm.length_eq
        rw [List.length_append, List.length_range] at e
        omega
      have hi' : i < m := by omega
      refine ⟨rfl, tYes_if ?_⟩
      refine ⟨_, rfl, .inl ⟨rfl, _, SqL.of hL⟩, _, rfl, _, rfl, L, _, rfl, .inl (SqL.of hL), p, _, n + i, rfl, hs, by omega, by rw [List.length_map]; omega, by rw [List.length_map]; omega, fun d H3 hd hb3 hs3 => ?_⟩
      have hd' : d < left.length := by
        rw [List.length_map] at hd
        omega
      have nLp : L ≠ p := fun z => by
        obtain ⟨o, e, _⟩ := hp
        rw [z, e] at nL
        cases nL
      have nDL : D ≠ L := fun z => by
        rw [z, e1] at nD
        cases nD
      have nDp : D ≠ p := fun z => by
        obtain ⟨o, e, _⟩ := hp1
        rw [z, e] at nD
        cases nD
      refine ⟨L, _, d, d, num left[d], rfl, rfl, hb3 _ _ hL nLp, by omega, by omega, seqIndex_of (by omega) (by rw [List.length_map]; omega), by rw [List.getElem?_map, List.getElem?_eq_getElem hd']; rfl, ?_⟩
      refine ⟨ks.map num, by rw [upd_ne nDL]; exact hb3 _ _ hD nDp, by rw [List.length_map]; exact small1000 (by omega), ks ++ [left[d]], left.eraseIdx d, ?_, ?_, ?_, ?_, ?_, ?_⟩
      · obtain ⟨o, e, h⟩ := hs3
        exact ⟨o, by rw [upd_ne nDp.symm, upd_ne nLp.symm]; exact e, by rw [Nat.add_assoc] at h; exact h⟩
      · rw [upd_ne nDL.symm, upd_same, erase_map]
      · rw [upd_same, List.map_append]
        rfl
      · rw [List.append_assoc]
        exact (((erase_perm left d hd').append_left ks)).trans hpm
      · rw [List.length_append, hk]
        rfl
      · intro b o e ne
        have nb1 : b ≠ L := ne_of_none e nL
        have nb2 : b ≠ D := ne_of_none (s1 _ _ e) nD
        rw [upd_ne nb2, upd_ne nb1]
        exact hb3 _ _ (hb _ _ e ne) ne
    · rintro H2 ⟨ks, left, hs, hL, hD, hpm, hk, hb⟩
      have hl : left = [] := by
        have e := hpm.length_eq
        rw [List.length_append, List.length_range] at e
        exact List.eq_nil_of_length_eq_zero (by omega)
      subst hl
      rw [List.append_nil] at hpm
      exact q D H2 ks hb (by have e : (m : Int).toNat = m := by omega
                             rw [e] at hs
                             exact hs) (s1.free nD) hD hpm
end
end Tb

set_option Elab.async false
set_option linter.all false
set_option maxRecDepth 100000
set_option maxHeartbeats 1000000
namespace Tb
open PySem PySem.Spec PyProof.Rows L2 TL
section
variable {P : Program} {w : World} {K : PySem.W.Frag} {mg : Str → Option Value} {base : Heap}
theorem scSigns : FnScope ["_law_source_here", "_law_signs_here", "_law_many", "_law_k"] ["_law_source_here", "_law_signs_here", "_law_many"] (defScope sSigns) := ⟨rfl, rfl, rfl, by decide +kernel, rfl, by decide +kernel, by decide +kernel⟩
/-- so many of the signs, in some order -/
def spSigns : Sp := fun vs H Q _ => ∃ (p : Addr) (n m : Nat) (zs : List Nat), vs = [.ref p, .str (S zs), num m] ∧ Src H p n ∧ n + zs.length < 1000000 ∧ zs.length ≤ 1000 ∧
  ∀ H' (all : List Nat), But p H H' → Src H' p (n + zs.length) → all.Perm zs → Q (.str (S (all.take m))) H'
theorem ok_signs {f : Addr} {fd : FuncData} {k : Nat} (F : Fun K "_law_signs" "_law_signs" sSigns f fd) (DO : Df P w K mg base (k + 1) "_law_order" ["_law_source_here", "_law_many"] spOrder) (ml : mg "len" = none) : FnOk P w K mg base CX0 (k + 2) f fd ["_law_source_here", "_law_signs_here", "_law_many"] spSigns := by
  refine F.ok scSigns (fun vs H Q E h => ?_) (fun cdv A outer s H vs Q E hr h => ?_)
  · obtain ⟨p, n, m, zs, rfl, _⟩ := h
    rfl
  · obtain ⟨p, n, m, zs, rfl, hp, hn, hz, q⟩ := h
    refine ⟨_, pss_one (ps_ret (pe_join pe_str (pe_slice sl_listS (pe_lc (own := [("_law_k", 3)]) (g := gName 3) (tt := tYes) (te := tOp rIxS (tVar 1) (tVar 3)) rfl scSigns.nd
        (pi_list (pe_df DO hr (pa_cons (pv 0) (pa_cons (pe_callB call_len_str (by rfl) ml PySem.boot_len (pa_cons (pv 1) pa_nil)) pa_nil)))) (blkOk_by (own := [("_law_k", 3)]) (N := ["_law_source_here", "_law_signs_here", "_law_many", "_law_k"]) (sc := defScope sSigns) (by decide +kernel))
        (fun _ _ _ _ _ => pg_name (i := 3) scSigns.nd rfl (.inl rfl)) (fun _ _ _ _ _ => pts_nil) (fun _ _ _ _ _ => pe_ix ix_str (pv 1) (pv 3) (fun _ _ => rfl))) po_none (po_some (pv 2))))), ?_⟩
    have lz : (S zs).length ≤ sizeLine := by
      rw [len_S]
      exact Nat.le_of_lt (small1000 hz)
    have hzl : ((S zs).length : Int) = (zs.length : Int) := by rw [len_S]
    refine ⟨⟨_, rfl⟩, _, rfl, _, rfl, _, rfl, lz, p, zs.length, n, by rw [hzl]; rfl, hp, hn, hz, fun a H1 ks hb1 hs1 na e1 hperm => ⟨a, rfl, ⟨_, SqL.of e1⟩, fun D nD => ?_⟩⟩
    refine lc_mapL (fun v => match v with | .int i => .str (S [zs.getD i.toNat 0]) | _ => .non) (SqL.of e1) nD ?_ ?_ ?_
    · rw [List.length_map, hperm.length_eq, List.length_range]
      exact small1000 hz
    · intro x hx H' R _ r
      obtain ⟨i, hi, rfl⟩ := List.mem_map.mp hx
      have hi' : i < zs.length := List.mem_range.mp (hperm.mem_iff.mp hi)
      refine ⟨_, rfl, _, rfl, S zs, (i : Int), zs[i], rfl, rfl, lz, atI_nat (List.getElem?_eq_getElem hi'), ?_⟩
      have e : zs.getD ((i : Int)).toNat 0 = zs[i] := by
        rw [Int.toNat_natCast, List.getD_eq_getElem?_getD, List.getElem?_eq_getElem hi']
        rfl
      have r' : R (.str (S [zs.getD ((i : Int)).toNat 0])) H' := r
      rw [e] at r'
      exact r'
    · intro H2 s2 e2
      refine ⟨_, rfl, m, rfl, D, _, rfl, SqL.of e2, fun T H3 s3 nT e3 => ?_⟩
      rw [cutV_take, List.map_map, ← List.map_take] at e3
      have e4 : (ks.take m).map ((fun v => match v with | V.int i => V.str (S [zs.getD i.toNat 0]) | _ => .non) ∘ num) = (((ks.map fun i => zs.getD i 0).take m).map fun c => S [c]).map V.str := by
        rw [← List.map_take, List.map_map, List.map_map]
        rfl
      rw [e4] at e3
      refine ⟨_, T, _, rfl, rfl, .inl (SqL.of e3), ?_, ?_⟩
      · rw [sum_ones, str_empty]
        have : (((ks.map fun i => zs.getD i 0).take m).map fun c => S [c]).length ≤ 1000 := by
          rw [List.length_map, List.length_take, List.length_map, hperm.length_eq, List.length_range]
          omega
        rw [List.length_map] at this
        rw [len_S]
        show _ + _ * 0 ≤ _
        omega
      · rw [str_empty, join_signs]
        have hall : (ks.map fun i => zs.getD i 0).Perm zs := by
          have h1 := hperm.map fun i => zs.getD i 0
          have h2 : (List.range zs.length).map (fun i => zs.getD i 0) = zs := by
            refine List.ext_getElem (by simp) fun i h1 h2 => ?_
            rw [List.getElem_map, List.getElem_range, List.getD_eq_getElem?_getD, List.getElem?_eq_getElem h2]
            rfl
          rw [h2] at h1
          exact h1
        exact q H3 _ (hb1.trans (Same.but (s2.trans s3) p)) ((hs1.same s2).same s3) hall
end
end Tb

set_option Elab.async false
set_option linter.all false
set_option maxRecDepth 100000
set_option maxHeartbeats 1000000
namespace Tb
open PySem PySem.Spec PyProof.Rows L2 TL
theorem ne_src {H : Hp} {p q : Addr} {n : Nat} (h : Src H p n) (hq : H q = none) : q ≠ p := fun z => by
  obtain ⟨o, e, _⟩ := h
  rw [z, e] at hq
  cases hq
theorem Src.at {H H' : Hp} {p : Addr} {n : Nat} (h : Src H p n) (e : H' p = H p) : Src H' p n := by
  obtain ⟨o, k, h⟩ := h
  exact ⟨o, e.trans k, h⟩
section
variable {P : Program} {w : World} {K : PySem.W.Frag} {mg : Str → Option Value} {base : Heap}
theorem scPiece : FnScope ["_law_source_here", "_law_out", "_law_size", "_law_k"] ["_law_source_here", "_law_out"] (defScope sPiece) := ⟨rfl, rfl, rfl, by decide +kernel, rfl, by decide +kernel, by decide +kernel⟩
/-- a short text of these signs -/
def spPiece : Sp := fun vs H Q _ => ∃ (p : Addr) (n : Nat) (zs : List Nat), vs = [.ref p, .str (S zs)] ∧ Src H p n ∧ n + 4 < 1000000 ∧ 0 < zs.length ∧ zs.length ≤ 1000 ∧
  ∀ H' (cs : List Nat), But p H H' → Src H' p (n + 4) → cs.length ≤ 3 → (∀ c ∈ cs, c ∈ zs) → Q (.str (S cs)) H'
def sizes9 : List Nat := [0, 0, 0, 0, 1, 1, 1, 2, 3]
theorem ok_piece {f : Addr} {fd : FuncData} {k : Nat} (F : Fun K "_law_piece" "_law_piece" sPiece f fd) (DD : Df P w K mg base (k + 1) "_law_draw" ["_law_source_here", "_law_many"] spDrawS) (DP : Df P w K mg base (k + 2) "_law_pick" ["_law_source_here", "_law_things"] (spPick K)) (mr : mg "range" = none) : FnOk P w K mg base CX0 (k + 3) f fd ["_law_source_here", "_law_out"] spPiece := by
  refine F.ok scPiece (fun vs H Q E h => ?_) (fun cdv A outer s H vs Q E hr h => ?_)
  · obtain ⟨p, n, zs, rfl, _⟩ := h
    rfl
  · obtain ⟨p, n, zs, rfl, hp, hn, z0, hz, q⟩ := h
    refine ⟨_, pss_cons (ps_set (i := 2) scPiece.nd rfl (.inl rfl) (pe_ix ix_list (pe_lstS (pa_cons pe_int (pa_cons pe_int (pa_cons pe_int (pa_cons pe_int (pa_cons pe_int (pa_cons pe_int (pa_cons pe_int (pa_cons pe_int (pa_cons pe_int pa_nil)))))))))) (pe_df DD hr (pa_cons (pv 0) (pa_cons pe_int pa_nil))) (fun _ _ => rfl)))
      (pss_one (ps_ret (pe_join pe_str (pe_lc (own := [("_law_k", 3)]) (g := gName 3) (tt := tYes) (te := tCall (spPick K) [] E0 (tCons (tVar 0) (tCons (tVar 1) tNil))) rfl scPiece.nd
        (pi_range1 rfl mr (pa_cons (pv 2) pa_nil)) (blkOk_by (own := [("_law_k", 3)]) (N := ["_law_source_here", "_law_out", "_law_size", "_law_k"]) (sc := defScope sPiece) (by decide +kernel))
        (fun _ _ _ _ _ => pg_name (i := 3) scPiece.nd rfl (.inl rfl)) (fun _ _ _ _ _ => pts_nil) (fun _ _ _ _ _ => pe_df DP hr (pa_cons (pv 0) (pa_cons (pv 1) pa_nil))))))), ?_⟩
    refine ⟨by show 9 ≤ sizeLine; decide, fun L H1 s1 nL e1 => ⟨_, rfl, p, 9, n, rfl, hp.same s1, by omega, by decide, by decide, fun d H2 hd hb2 hs2 => ?_⟩⟩
    have nLp := ne_src hp nL
    have e2 : H2 L = some (.lst (sizes9.map num)) := hb2 _ _ e1 nLp
    have hd9 : d < 9 := by omega
    obtain ⟨m, em, hm⟩ : ∃ m : Nat, sizes9[d]? = some m ∧ m ≤ 3 := by
      refine ⟨sizes9[d]'hd9, List.getElem?_eq_getElem hd9, ?_⟩
      have : ∀ i (h : i < 9), sizes9[i]'h ≤ 3 := by decide
      exact this d hd9
    refine ⟨L, _, d, num m, rfl, rfl, SqL.of e2, atI_nat (by rw [List.getElem?_map, em]; rfl), ?_⟩
    refine ⟨⟨_, rfl⟩, _, rfl, m, rfl, by omega, by omega, fun D nD => ?_⟩
    have hb12 := But.trans (Same.but s1 p) hb2
    have nDp := ne_src hs2 nD
    refine lc_range (lo := 0) (n := (m : Int).toNat) (fun i H' => ∃ cs : List Nat, Src H' p (n + 1 + i) ∧ H' D = some (.lst (cs.map fun c => .str (S [c]))) ∧ cs.length = i ∧ (∀ c ∈ cs, c ∈ zs) ∧ But p H H') ?_ ?_ ?_
    · exact ⟨[], hs2.same (same_upd nD), upd_same, rfl, fun c hc => (nomatch hc), hb12.trans (Same.but (same_upd nD) p)⟩
    · rintro i H3 hi ⟨cs, hs3, eD, hl, hc, hb3⟩
      have hi' : i < m := by omega
      refine ⟨rfl, tYes_if ?_⟩
      refine ⟨_, rfl, _, rfl, p, n + 1 + i, hs3, by omega, .inr ⟨S zs, rfl, by rw [len_S]; exact z0, by rw [len_S]; exact Nat.le_of_lt (small1000 hz), by rw [len_S]; omega, fun c H4 hcm hb4 hs4 => ?_⟩⟩
      refine ⟨_, hb4 _ _ eD nDp, by rw [List.length_map]; exact small1000 (by omega), cs ++ [c], hs4.at (upd_ne nDp.symm), ?_, ?_, ?_, ?_⟩
      · rw [upd_same, List.map_append]
        rfl
      · rw [List.length_append, hl]
        rfl
      · intro x hx
        rcases List.mem_append.mp hx with h | h
        · exact hc x h
        · rw [List.mem_singleton.mp h]
          exact hcm
      · intro b o e ne
        have nb : b ≠ D := by
          intro z
          have e' := hb12 _ _ e ne
          rw [z, nD] at e'
          cases e'
        rw [upd_ne nb]
        exact hb4 _ _ (hb3 _ _ e ne) ne
    · rintro H3 ⟨cs, hs3, eD, hl, hc, hb3⟩
      have hl' : cs.length ≤ 3 := by omega
      refine ⟨_, D, cs.map fun c => S [c], rfl, rfl, .inl (SqL.of (by rw [eD, List.map_map]; rfl)), ?_, ?_⟩
      · rw [sum_ones, str_empty, len_S]
        show _ + _ * 0 ≤ _
        omega
      · rw [str_empty, join_signs]
        exact q H3 cs hb3 (hs3.le (by omega)) hl' hc
end
end Tb

set_option Elab.async false
set_option linter.all false
set_option maxRecDepth 100000
set_option maxHeartbeats 2000000
namespace Tb
open PySem PySem.Spec PyProof.Rows L2 TL
/-- the signs of a name -/
def NameL (cs : List Nat) : Prop := 1 ≤ cs.length ∧ cs.length ≤ 8 ∧ ∀ c ∈ cs, 97 ≤ c ∧ c ≤ 122
def az : List Nat := (List.range 26).map (97 + ·)
theorem az_str : Str.ofString "abcdefghijklmnopqrstuvwxyz" = S az := by decide +kernel
theorem az_mem {c : Nat} : c ∈ az ↔ 97 ≤ c ∧ c ≤ 122 := by
  unfold az
  rw [List.mem_map]
  constructor
  · rintro ⟨i, hi, rfl⟩
    have := List.mem_range.mp hi
    omega
  · rintro ⟨h1, h2⟩
    exact ⟨c - 97, List.mem_range.mpr (by omega), by omega⟩
theorem az_len : az.length = 26 := by decide
def words6 (r : List Nat) : List (List Nat) := [[112, 108, 97, 99, 101], [98, 111, 120, 101, 115], [108, 101, 116, 116, 101, 114, 115], [111, 110], [114, 101, 102, 117, 115, 101], 113 :: r]
theorem words6_str (r : List Nat) : (words6 r).map (fun y => V.str (S y)) = [.str (Str.ofString "place"), .str (Str.ofString "boxes"), .str (Str.ofString "letters"), .str (Str.ofString "on"), .str (Str.ofString "refuse"), .str (S (113 :: r))] := by
  have h1 : Str.ofString "place" = S [112, 108, 97, 99, 101] := by decide +kernel
  have h2 : Str.ofString "boxes" = S [98, 111, 120, 101, 115] := by decide +kernel
  have h3 : Str.ofString "letters" = S [108, 101, 116, 116, 101, 114, 115] := by decide +kernel
  have h4 : Str.ofString "on" = S [111, 110] := by decide +kernel
  have h5 : Str.ofString "refuse" = S [114, 101, 102, 117, 115, 101] := by decide +kernel
  rw [h1, h2, h3, h4, h5]
  rfl
theorem words6_name {r w : List Nat} (hr : r.length ≤ 7) (h : ∀ c ∈ r, 97 ≤ c ∧ c ≤ 122) (hw : w ∈ words6 r) : NameL w := by
  simp only [words6, List.mem_cons, List.not_mem_nil, or_false] at hw
  have lit : ∀ l : List Nat, 1 ≤ l.length → l.length ≤ 8 → (l.all fun c => decide (97 ≤ c ∧ c ≤ 122)) = true → NameL l := fun l a b c => ⟨a, b, fun x hx => of_decide_eq_true (List.all_eq_true.mp c x hx)⟩
  rcases hw with rfl | rfl | rfl | rfl | rfl | rfl
  · exact lit _ (by decide) (by decide) (by decide)
  · exact lit _ (by decide) (by decide) (by decide)
  · exact lit _ (by decide) (by decide) (by decide)
  · exact lit _ (by decide) (by decide) (by decide)
  · exact lit _ (by decide) (by decide) (by decide)
  · refine ⟨by rw [List.length_cons]; omega, by rw [List.length_cons]; omega, fun c hc => ?_⟩
    rcases List.mem_cons.mp hc with rfl | hc
    · omega
    · exact h c hc
def sizes13 : List Nat := [8, 4, 5, 6, 7, 1, 2, 3, 1, 2, 3, 1, 2]
section
variable {P : Program} {w : World} {K : PySem.W.Frag} {mg : Str → Option Value} {base : Heap}
theorem scName : FnScope ["_law_source_here", "_law_taken", "_law_size", "_law_name_here", "_law_k", "_law_one", "_law_sign"] ["_law_source_here", "_law_taken"] (defScope sName) := ⟨rfl, rfl, rfl, by decide +kernel, rfl, by decide +kernel, by decide +kernel⟩
abbrev nName : List Str := ["_law_source_here", "_law_taken", "_law_size", "_law_name_here", "_law_k", "_law_one", "_law_sign"]
/-- a name that is not taken -/
def spName (K : PySem.W.Frag) : Sp := fun vs H Q _ => ∃ (p t : Addr) (n : Nat) (taken : List (List Nat)), vs = [.ref p, .ref t] ∧ Src H p n ∧ n + 10 < 1000000 ∧ SqL K H t (taken.map fun y => .str (S y)) ∧ t ≠ p ∧ taken.length ≤ 25 ∧
  ∀ H' (cs : List Nat), But p H H' → Src H' p (n + 10) → NameL cs → cs ∉ taken → Q (.str (S cs)) H'
theorem ok_name {f : Addr} {fd : FuncData} {k : Nat} (F : Fun K "_law_name" "_law_name" sName f fd) (DD : Df P w K mg base (k + 1) "_law_draw" ["_law_source_here", "_law_many"] spDrawS) (mr : mg "range" = none) : FnOk P w K mg base CX0 (k + 2) f fd ["_law_source_here", "_law_taken"] (spName K) := by
  refine F.ok scName (fun vs H Q E h => ?_) (fun cdv A outer s H vs Q E hr h => ?_)
  · obtain ⟨p, t, n, taken, rfl, _⟩ := h
    rfl
  · obtain ⟨p, t, n, taken, rfl, hp, hn, ht, ntp, hl, q⟩ := h
    refine ⟨_, pss_cons (ps_set (i := 2) scName.nd rfl (.inl rfl) (pe_ix ix_list (pe_lstS (pa_cons pe_int (pa_cons pe_int (pa_cons pe_int (pa_cons pe_int (pa_cons pe_int (pa_cons pe_int (pa_cons pe_int (pa_cons pe_int (pa_cons pe_int (pa_cons pe_int (pa_cons pe_int (pa_cons pe_int (pa_cons pe_int pa_nil)))))))))))))) (pe_df DD hr (pa_cons (pv 0) (pa_cons pe_int pa_nil))) (fun _ _ => rfl)))
      (pss_cons (ps_set (i := 3) scName.nd rfl (.inl rfl) (pe_join pe_str (pe_lc (own := [("_law_k", 4)]) (g := gName 4) (tt := tYes) (te := tOp rIxS (tC (.str "abcdefghijklmnopqrstuvwxyz")) (tCall spDrawS [] E0 (tCons (tVar 0) (tCons (tC (.int 26)) tNil)))) rfl scName.nd
          (pi_range1 rfl mr (pa_cons (pv 2) pa_nil)) (blkOk_by (own := [("_law_k", 4)]) (N := nName) (sc := defScope sName) (by decide +kernel))
          (fun _ _ _ _ _ => pg_name (i := 4) scName.nd rfl (.inl rfl)) (fun _ _ _ _ _ => pts_nil) (fun _ _ _ _ _ => pe_ix ix_str pe_str (pe_df DD hr (pa_cons (pv 0) (pa_cons pe_int pa_nil))) (fun _ _ => rfl)))))
      (C8.pss_cut (ps_if (pt_chain op_lt op_lt pe_int (pv 2) pe_int) (pss_one (ps_set (i := 3) scName.nd rfl (.inl rfl) (pe_ix ix_list (pe_lstS (pa_cons pe_str (pa_cons pe_str (pa_cons pe_str (pa_cons pe_str (pa_cons pe_str (pa_cons (pe_op op_add_str pe_str (pe_slice sl_str (pv 3) (po_some pe_int) po_none)) pa_nil))))))) (pe_df DD hr (pa_cons (pv 0) (pa_cons pe_int pa_nil))) (fun _ _ => rfl)))) pss_nil)
      (pss_cons (ps_if (pt_cmpR op_notIn_seq (pv 3) (pv 1) (by rfl)) (pss_one (ps_ret (pv 3))) pss_nil)
      (pss_one (ps_ret (pe_ix ix_list (pe_lc (own := [("_law_one", 5)]) (g := gName 5) (tt := tTest (tOp (rIn K true) (tVar 5) (tVar 1))) (te := tVar 5) rfl scName.nd
          (pi_list (pe_lc (own := [("_law_sign", 6)]) (g := gName 6) (tt := tYes) (te := tOp (fun x y H Q => ∃ i j, x = .str i ∧ y = .str j ∧ i.length + j.length ≤ sizeLine ∧ Q (.str (i ++ j)) H) (tC (.str "z")) (tVar 6)) rfl scName.nd
            (pi_str pe_str) (blkOk_by (own := [("_law_sign", 6)]) (N := nName) (sc := defScope sName) (by decide +kernel)) (fun _ _ _ _ _ => pg_name (i := 6) scName.nd rfl (.inl rfl)) (fun _ _ _ _ _ => pts_nil) (fun _ _ _ _ _ => pe_op op_add_str pe_str (pv 6))))
          (blkOk_by (own := [("_law_one", 5)]) (N := nName) (sc := defScope sName) (by decide +kernel))
          (fun _ _ _ _ _ => pg_name (i := 5) scName.nd rfl (.inl rfl)) (fun _ _ _ _ _ => pts_one (pt_cmpR op_notIn_seq (pv 5) (pv 1) (by rfl))) (fun _ _ _ _ _ => pv 5)) pe_int (fun _ _ => rfl))))))), ?_⟩
    have hpS := hp
    refine ⟨by show 13 ≤ sizeLine; decide, fun L H1 s1 nL e1 => ⟨_, rfl, p, 13, n, rfl, hp.same s1, by omega, by decide, by decide, fun d H2 hd hb2 hs2 => ?_⟩⟩
    have nLp := ne_src hp nL
    have e2 : H2 L = some (.lst (sizes13.map num)) := hb2 _ _ e1 nLp
    have hd9 : d < 13 := by omega
    obtain ⟨m, em, hm0, hm⟩ : ∃ m : Nat, sizes13[d]? = some m ∧ 1 ≤ m ∧ m ≤ 8 := by
      refine ⟨sizes13[d]'hd9, List.getElem?_eq_getElem hd9, ?_⟩
      have : ∀ i (h : i < 13), 1 ≤ sizes13[i]'h ∧ sizes13[i]'h ≤ 8 := by decide
      exact this d hd9
    refine ⟨L, _, d, num m, rfl, rfl, SqL.of e2, atI_nat (by rw [List.getElem?_map, em]; rfl), ?_⟩
    have hb12 := But.trans (Same.but s1 p) hb2
    -- the signs
    refine ⟨⟨_, rfl⟩, _, rfl, m, rfl, by omega, by omega, fun D nD => ?_⟩
    have nDp := ne_src hs2 nD
    refine lc_range (lo := 0) (n := (m : Int).toNat) (fun i H' => ∃ cs : List Nat, Src H' p (n + 1 + i) ∧ H' D = some (.lst (cs.map fun c => .str (S [c]))) ∧ cs.length = i ∧ (∀ c ∈ cs, 97 ≤ c ∧ c ≤ 122) ∧ But p H H') ?_ ?_ ?_
    · exact ⟨[], hs2.same (same_upd nD), upd_same, rfl, fun c hc => (nomatch hc), hb12.trans (Same.but (same_upd nD) p)⟩
    · rintro i H3 hi ⟨cs, hs3, eD, hl3, hc, hb3⟩
      have hi' : i < m := by omega
      refine ⟨rfl, tYes_if ?_⟩
      refine ⟨_, rfl, p, 26, n + 1 + i, rfl, hs3, by omega, by decide, by decide, fun d2 H4 hd2 hb4 hs4 => ?_⟩
      have hd2' : d2 < az.length := by
        rw [az_len]
        omega
      have ha : (az[d2]) ∈ az := List.getElem_mem hd2'
      refine ⟨S az, d2, az[d2], by rw [← az_str], rfl, (by rw [len_S]; show 26 ≤ sizeLine; decide), atI_nat (List.getElem?_eq_getElem hd2'), ?_⟩
      refine ⟨_, hb4 _ _ eD nDp, by rw [List.length_map]; exact small1000 (by omega), cs ++ [az[d2]], hs4.at (upd_ne nDp.symm), ?_, ?_, ?_, ?_⟩
      · rw [upd_same, List.map_append]
        rfl
      · rw [List.length_append, hl3]
        rfl
      · intro x hx
        rcases List.mem_append.mp hx with h | h
        · exact hc x h
        · rw [List.mem_singleton.mp h]
          exact az_mem.mp ha
      · intro b o e ne
        have nb : b ≠ D := by
          intro z
          have e' := hb12 _ _ e ne
          rw [z, nD] at e'
          cases e'
        rw [upd_ne nb]
        exact hb4 _ _ (hb3 _ _ e ne) ne
    · rintro H3 ⟨cs, hs3, eD, hl3, hc, hb3⟩
      have hl' : cs.length = m := by omega
      refine ⟨_, D, cs.map fun c => S [c], rfl, rfl, .inl (SqL.of (by rw [eD, List.map_map]; rfl)), ?_, ?_⟩
      · rw [sum_ones, str_empty, len_S]
        show _ + _ * 0 ≤ _
        omega
      rw [str_empty, join_signs]
      have hs3' : Src H3 p (n + 9) := hs3.le (by omega)
      -- a word in its place
      refine ⟨fun σ H' => ∃ c2, σ = [some (.ref p), some (.ref t), some (num m), some (.str (S c2)), none, none, none] ∧ NameL c2 ∧ Src H' p (n + 10) ∧ But p H H', ?_, ?_⟩
      · have keep : ∃ c2, [some (V.ref p), some (.ref t), some (num m), some (.str (S cs)), none, none, none] = [some (V.ref p), some (.ref t), some (num m), some (.str (S c2)), none, none, none] ∧ NameL c2 ∧ Src H3 p (n + 10) ∧ But p H H3 :=
          ⟨cs, rfl, ⟨by omega, by omega, hc⟩, hs3'.le (by omega), hb3⟩
        refine ⟨_, rfl, 3, m, rfl, rfl, _, rfl, ?_⟩
        by_cases h3 : (3 : Int) < (m : Int)
        · rw [decide_eq_true h3]
          refine iteT ⟨m, 8, rfl, rfl, _, rfl, ?_⟩
          by_cases h8 : (m : Int) < 8
          · rw [decide_eq_true h8]
            refine iteT ?_
            have ec : cutS (S cs) (some 1) none = S (cs.drop 1) := cutS_drop cs 1
            have hdl : (cs.drop 1).length ≤ 7 := by rw [List.length_drop]; omega
            refine ⟨_, rfl, 1, rfl, S cs, rfl, by rw [len_S]; exact Nat.le_of_lt (small1000 (by omega)), ?_⟩
            rw [ec]
            have eq : Str.ofString "q" = S [113] := by decide +kernel
            refine ⟨_, _, rfl, rfl, by rw [eq, len_S, len_S]; exact Nat.le_of_lt (small1000 (by show 1 + _ ≤ 1000; omega)), by show 6 ≤ sizeLine; decide, fun L6 H4 s4 n4 e4 => ?_⟩
            rw [eq, S_app] at e4
            refine ⟨_, rfl, p, 6, n + 9, rfl, hs3'.same s4, by omega, by decide, by decide, fun d6 H5 hd6 hb5 hs5 => ?_⟩
            have e4' : H5 L6 = some (.lst ((words6 (cs.drop 1)).map fun y => .str (S y))) := by
              rw [words6_str]
              exact hb5 _ _ e4 (ne_src hs3' n4)
            have hd6' : d6 < (words6 (cs.drop 1)).length := by show d6 < 6; omega
            refine ⟨L6, _, d6, _, rfl, rfl, SqL.of e4', atI_nat (by rw [List.getElem?_map, List.getElem?_eq_getElem hd6']; rfl), (words6 (cs.drop 1))[d6], rfl, ?_, hs5, hb3.trans ((Same.but s4 p).trans hb5)⟩
            exact words6_name hdl (fun c hcm => hc c (List.mem_of_mem_drop hcm)) (List.getElem_mem hd6')
          · rw [decide_eq_false h8]
            exact iteF keep
        · rw [decide_eq_false h3]
          exact iteF ⟨_, rfl, iteF keep⟩
      · rintro σ H4 ⟨c2, rfl, hN, hs4, hb4⟩
        have ht4 := hb4.seq ntp ht
        refine ⟨_, rfl, _, rfl, t, _, rfl, .inl ht4, rfl, flat_S _, _, rfl, ?_⟩
        rw [inV_S]
        by_cases hin : c2 ∈ taken
        · rw [decide_eq_true hin]
          refine iteF ?_
          have ez : Str.ofString "z" = S [122] := by decide +kernel
          refine ⟨S az, by rw [← az_str], fun D1 nD1 => lc_mapS (cs := az) (fun c => .str (S [122, c])) nD1 (by show 26 < sizeLine; decide) ?_ ?_⟩
          · intro c hcm H' R s' r
            refine ⟨_, rfl, _, _, rfl, rfl, by rw [ez, len_S, len_S]; show 1 + 1 ≤ sizeLine; decide, ?_⟩
            rw [ez, S_app]
            exact r
          · intro H5 s5 e5
            refine ⟨D1, rfl, ⟨_, SqL.of e5⟩, fun D2 nD2 => lc_filtL (fun v => !inV v (taken.map fun y => .str (S y))) id (SqL.of e5) nD2 (by rw [List.length_map]; show 26 < sizeLine; decide) ?_ ?_ ?_⟩
            · intro x hx H' R s' r
              obtain ⟨c, _, rfl⟩ := List.mem_map.mp hx
              exact ⟨_, rfl, _, rfl, t, _, rfl, .inl (s'.seq (s5.seq ht4)), rfl, flat_S _, _, rfl, r⟩
            · intro x hx _ H' R s' r
              exact ⟨_, rfl, r⟩
            · intro H6 s6 e6
              have some_free : ∃ c ∈ az, [122, c] ∉ taken := by
                refine Classical.byContradiction fun hno => ?_
                have sub : (az.map fun c => [122, c]) ⊆ taken := by
                  intro y hy
                  obtain ⟨c, hcm, rfl⟩ := List.mem_map.mp hy
                  exact Classical.byContradiction fun hn => hno ⟨c, hcm, hn⟩
                have hle := List.Nodup.length_le_of_subset (by decide) sub
                rw [List.length_map, az_len] at hle
                omega
              obtain ⟨c0, hc0, hf0⟩ := some_free
              have hne : ((az.map fun c => V.str (S [122, c])).filter fun v => !inV v (taken.map fun y => .str (S y))) ≠ [] := by
                have hm0 : V.str (S [122, c0]) ∈ ((az.map fun c => V.str (S [122, c])).filter fun v => !inV v (taken.map fun y => .str (S y))) := by
                  refine List.mem_filter.mpr ⟨List.mem_map.mpr ⟨c0, hc0, rfl⟩, ?_⟩
                  rw [inV_S, decide_eq_false hf0]
                  rfl
                exact List.ne_nil_of_mem hm0
              obtain ⟨y, r, hyr⟩ := List.exists_cons_of_ne_nil hne
              have hy : y ∈ ((az.map fun c => V.str (S [122, c])).filter fun v => !inV v (taken.map fun y => .str (S y))) := by
                rw [hyr]
                exact List.mem_cons_self
              obtain ⟨hy1, hy2⟩ := List.mem_filter.mp hy
              obtain ⟨c, hcm, rfl⟩ := List.mem_map.mp hy1
              rw [inV_S] at hy2
              have hfree : [122, c] ∉ taken := fun z => by
                rw [decide_eq_true z] at hy2
                cases hy2
              rw [hyr] at e6
              refine ⟨D2, _, 0, _, rfl, rfl, SqL.of e6, atI_nat (j := 0) rfl, ?_⟩
              refine q H6 [122, c] (hb4.trans (Same.but (s5.trans s6) p)) ((hs4.same s5).same s6) ⟨by show 1 ≤ 2; decide, by show 2 ≤ 8; decide, fun x hx => ?_⟩ hfree
              have hcr := az_mem.mp hcm
              simp only [List.mem_cons, List.not_mem_nil, or_false] at hx
              omega
        · rw [decide_eq_false hin]
          refine iteT ⟨_, rfl, ?_⟩
          exact q H4 c2 hb4 hs4 hN hin
end
end Tb

set_option Elab.async false
set_option linter.all false
set_option maxRecDepth 100000
set_option maxHeartbeats 2000000
namespace Tb
open PySem PySem.Spec PyProof.Rows L2 TL
section
variable {P : Program} {w : World} {K : PySem.W.Frag} {mg : Str → Option Value} {base : Heap}
theorem scNames : FnScope ["_law_source_here", "_law_many", "_law_names_here", "_law_k"] ["_law_source_here", "_law_many"] (defScope sNames) := ⟨rfl, rfl, rfl, by decide +kernel, rfl, by decide +kernel, by decide +kernel⟩
/-- so many unlike names -/
def spNames : Sp := fun vs H Q _ => ∃ (p : Addr) (n m : Nat), vs = [.ref p, num m] ∧ Src H p n ∧ n + 10 * m < 1000000 ∧ m ≤ 25 ∧
  ∀ t H' (ns : List (List Nat)), But p H H' → Src H' p (n + 10 * m) → H t = none → H' t = some (.lst (ns.map fun y => .str (S y))) → ns.length = m → (∀ x ∈ ns, NameL x) → ns.Nodup → Q (.ref t) H'
theorem ok_names {f : Addr} {fd : FuncData} {k : Nat} (F : Fun K "_law_names" "_law_names" sNames f fd) (DN : Df P w K mg base (k + 1) "_law_name" ["_law_source_here", "_law_taken"] (spName K)) (mr : mg "range" = none) : FnOk P w K mg base CX0 (k + 2) f fd ["_law_source_here", "_law_many"] spNames := by
  refine F.ok scNames (fun vs H Q E h => ?_) (fun cdv A outer s H vs Q E hr h => ?_)
  · obtain ⟨p, n, m, rfl, _⟩ := h
    rfl
  · obtain ⟨p, n, m, rfl, hp, hn, hm, q⟩ := h
    refine ⟨_, pss_cons (ps_set (i := 2) scNames.nd rfl (.inl rfl) (pe_lstS pa_nil))
      (pss_cons (ps_for PassesOwn.never rfl (pi_range1 rfl mr (pa_cons (pv 1) pa_nil)) (pg_name (i := 3) scNames.nd rfl (.inl rfl))
        (pss_one (ps_expr (pe_bm PySem.F.plainAttrs_list PySem.F.slot_list_append PySem.F.type_list_append mt_append (pv 2) (pa_cons (pe_df DN hr (pa_cons (pv 0) (pa_cons (pv 2) pa_nil))) pa_nil)))))
      (pss_one (ps_ret (pv 2)))), ?_⟩
    refine ⟨Nat.zero_le _, fun t H1 s1 nt e1 => ?_⟩
    have ntp := ne_src hp nt
    refine ⟨_, rfl, m, rfl, by omega, by omega, for_range (lo := 0) (n := (m : Int).toNat) (fun i σ H' => ∃ (v : Option V) (ns : List (List Nat)), σ = [some (.ref p), some (num m), some (.ref t), v] ∧ Src H' p (n + 10 * i) ∧ But p H H' ∧ H' t = some (.lst (ns.map fun y => .str (S y))) ∧ ns.length = i ∧ (∀ x ∈ ns, NameL x) ∧ ns.Nodup) ?_ ?_ ?_⟩
    · exact ⟨none, [], rfl, hp.same s1, Same.but s1 p, e1, rfl, fun x hx => (nomatch hx), List.nodup_nil⟩
    · rintro i σ H2 hi ⟨v, ns, rfl, hs, hb, e, hl, hN, hd⟩
      have hi' : i < m := by omega
      refine ⟨_, rfl, .inl ⟨rfl, _, SqL.of e⟩, _, rfl, _, rfl, p, t, n + 10 * i, ns, rfl, hs, by omega, SqL.of e, ntp, by omega, fun H3 cs hb3 hs3 hc hf => ?_⟩
      refine ⟨t, _, _, rfl, rfl, hb3 _ _ e ntp, by rw [List.length_map]; exact small1000 (by omega), some (.int (0 + i)), ns ++ [cs], rfl, ?_, ?_, ?_, ?_, ?_, ?_⟩
      · have h4 := hs3.at (H' := upd H3 t (.lst (ns.map (fun y => V.str (S y)) ++ [.str (S cs)]))) (upd_ne ntp.symm)
        exact h4.le (by omega)
      · intro b o eb ne
        have nb : b ≠ t := ne_of_none eb nt
        rw [upd_ne nb]
        exact hb3 _ _ (hb _ _ eb ne) ne
      · rw [upd_same, List.map_append]
        rfl
      · rw [List.length_append, hl]
        rfl
      · intro x hx
        rcases List.mem_append.mp hx with h | h
        · exact hN x h
        · rw [List.mem_singleton.mp h]
          exact hc
      · rw [List.nodup_append]
        refine ⟨hd, List.nodup_cons.mpr ⟨fun h => (nomatch h), List.nodup_nil⟩, fun a ha b hb' => ?_⟩
        rw [List.mem_singleton.mp hb']
        intro z
        rw [z] at ha
        exact hf ha
    · rintro σ H2 ⟨v, ns, rfl, hs, hb, e, hl, hN, hd⟩
      have el : (m : Int).toNat = m := by omega
      rw [el] at hs hl
      exact ⟨_, rfl, q t H2 ns hb hs nt e hl hN hd⟩
end
end Tb

set_option Elab.async false
set_option linter.all false
set_option maxRecDepth 100000
set_option maxHeartbeats 2000000
namespace Tb
open PySem PySem.Spec PyProof.Rows L2 TL
/-! ### dicts of texts -/
abbrev Fil := List (List Nat × List Nat)
def fkv (hf : Fil) : List (Key × V) := hf.map fun q => (Sum.inr (S q.1), V.str (S q.2))
def getF (hf : Fil) (h : List Nat) : Option (List Nat) := (hf.find? fun q => decide (q.1 = h)).map (·.2)
def setF (hf : Fil) (h f : List Nat) : Fil := hf.map fun q => if q.1 = h then (q.1, f) else q
theorem key_S {a b : List Nat} : (Sum.inr (S a) : Key) = Sum.inr (S b) ↔ a = b := ⟨fun h => S_inj (Sum.inr.inj h), fun h => by rw [h]⟩
theorem getF_cons (q : List Nat × List Nat) (hf : Fil) (h : List Nat) : getF (q :: hf) h = if q.1 = h then some q.2 else getF hf h := by
  unfold getF
  rw [List.find?_cons]
  by_cases e : q.1 = h
  · rw [if_pos e, decide_eq_true e]
    rfl
  · rw [if_neg e, decide_eq_false e]
theorem val_fkv (h : List Nat) : ∀ hf : Fil, valV (fkv hf) (Sum.inr (S h)) = (getF hf h).map fun f => V.str (S f)
  | [] => rfl
  | q :: hf => by
    rw [getF_cons]
    show valV ((Sum.inr (S q.1), V.str (S q.2)) :: fkv hf) _ = _
    by_cases e : q.1 = h
    · rw [if_pos e, valV_pos (key_S.mpr e)]
      rfl
    · rw [if_neg e, valV_neg (fun z => e (key_S.mp z)), val_fkv h hf]
theorem getF_some {hf : Fil} {h : List Nat} (m : h ∈ hf.map (·.1)) : ∃ f, getF hf h = some f ∧ (h, f) ∈ hf := by
  induction hf with
  | nil => exact (nomatch m)
  | cons q r ih =>
    rw [getF_cons]
    by_cases e : q.1 = h
    · exact ⟨q.2, by rw [if_pos e], by rw [← e]; exact List.mem_cons_self⟩
    · rw [if_neg e]
      rcases List.mem_cons.mp m with z | z
      · exact absurd z.symm e
      · obtain ⟨f, h1, h2⟩ := ih z
        exact ⟨f, h1, List.mem_cons_of_mem _ h2⟩
theorem getF_none {hf : Fil} {h : List Nat} (m : h ∉ hf.map (·.1)) : getF hf h = none := by
  induction hf with
  | nil => rfl
  | cons q r ih =>
    rw [getF_cons, if_neg (fun e => m (by rw [← e]; exact List.mem_cons_self)), ih (fun z => m (List.mem_cons_of_mem _ z))]
theorem put_fkv {hf : Fil} {h : List Nat} (f : List Nat) (m : h ∈ hf.map (·.1)) : putK (fkv hf) (Sum.inr (S h)) (V.str (S f)) = fkv (setF hf h f) := by
  obtain ⟨f0, e, _⟩ := getF_some m
  unfold putK
  rw [if_pos (by rw [valV_any, val_fkv, e]; rfl)]
  unfold fkv setF
  rw [List.map_map, List.map_map]
  refine List.map_congr_left fun q _ => ?_
  show (if (Sum.inr (S q.1) : Key) = Sum.inr (S h) then _ else _) = _
  by_cases e : q.1 = h
  · rw [if_pos (key_S.mpr e)]
    show _ = ((Sum.inr (S (if q.1 = h then (q.1, f) else q).1) : Key), V.str (S (if q.1 = h then (q.1, f) else q).2))
    rw [if_pos e]
  · rw [if_neg (fun z => e (key_S.mp z))]
    show _ = ((Sum.inr (S (if q.1 = h then (q.1, f) else q).1) : Key), V.str (S (if q.1 = h then (q.1, f) else q).2))
    rw [if_neg e]
theorem setF_keys (hf : Fil) (h f : List Nat) : (setF hf h f).map (·.1) = hf.map (·.1) := by
  unfold setF
  rw [List.map_map]
  refine List.map_congr_left fun q _ => ?_
  show (if q.1 = h then (q.1, f) else q).1 = q.1
  by_cases e : q.1 = h
  · rw [if_pos e]
  · rw [if_neg e]
theorem setF_mem {hf : Fil} {h f : List Nat} {q : List Nat × List Nat} (m : q ∈ setF hf h f) : q.2 = f ∨ q ∈ hf := by
  obtain ⟨r, hr, e⟩ := List.mem_map.mp m
  by_cases z : r.1 = h
  · rw [if_pos z] at e
    exact .inl (by rw [← e])
  · rw [if_neg z] at e
    exact .inr (by rw [← e]; exact hr)
theorem setF_other {h f : List Nat} : ∀ {hf : Fil}, h ∉ hf.map (·.1) → setF hf h f = hf
  | [], _ => rfl
  | q :: r, m => by
    have e : q.1 ≠ h := fun z => m (by rw [← z]; exact List.mem_cons_self)
    show (if q.1 = h then (q.1, f) else q) :: setF r h f = q :: r
    rw [if_neg e, setF_other (fun z => m (List.mem_cons_of_mem _ z))]
theorem setF_count (p : Nat → Bool) {h f0 x : List Nat} : ∀ {hf : Fil}, (hf.map (·.1)).Nodup → getF hf h = some f0 →
    (((setF hf h (f0 ++ x)).map (·.2)).flatten).countP p = ((hf.map (·.2)).flatten).countP p + x.countP p
  | [], _, e => by cases e
  | q :: r, nd, e => by
    have nd' := List.nodup_cons.mp nd
    rw [getF_cons] at e
    show (((if q.1 = h then (q.1, f0 ++ x) else q) :: setF r h (f0 ++ x)).map (·.2)).flatten.countP p = _
    rw [List.map_cons, List.flatten_cons, List.countP_append, List.map_cons, List.flatten_cons, List.countP_append]
    by_cases z : q.1 = h
    · rw [if_pos z] at e
      have e' : q.2 = f0 := Option.some.inj e
      rw [if_pos z, setF_other (by rw [← z]; exact nd'.1)]
      show (f0 ++ x).countP p + _ = _
      rw [List.countP_append, e']
      omega
    · rw [if_neg z] at e
      rw [if_neg z, setF_count p nd'.2 e]
      omega
theorem merge_new : ∀ (more acc : List (Key × V)), ((acc ++ more).map (·.1)).Nodup → mergeK acc more = acc ++ more
  | [], acc, _ => (List.append_nil acc).symm
  | kv :: r, acc, nd => by
    show mergeK (putK acc kv.1 kv.2) r = _
    have hno : kv.1 ∉ acc.map (·.1) := fun z => by
      rw [List.map_append, List.nodup_append] at nd
      exact nd.2.2 _ z _ (by rw [List.map_cons]; exact List.mem_cons_self) rfl
    have en : putK acc kv.1 kv.2 = acc ++ [kv] := by
      unfold putK
      rw [if_neg ?_]
      intro z
      obtain ⟨u, hu, e⟩ := List.any_eq_true.mp z
      exact hno (List.mem_map.mpr ⟨u, hu, of_decide_eq_true e⟩)
    rw [en, merge_new r (acc ++ [kv]) (by rw [List.append_assoc]; exact nd), List.append_assoc]
    rfl
theorem fkv_nodup {hf : Fil} (nd : (hf.map (·.1)).Nodup) : ((fkv hf).map (·.1)).Nodup := by
  unfold fkv
  rw [List.map_map]
  have e : hf.map ((fun q : Key × V => q.1) ∘ fun q => (Sum.inr (S q.1), V.str (S q.2))) = (hf.map (·.1)).map fun h => (Sum.inr (S h) : Key) := by
    rw [List.map_map]
    rfl
  rw [e]
  refine List.Pairwise.map _ (fun a b hab z => hab (key_S.mp z)) nd
/-! ### a list of pairs -/
section
variable {K : PySem.W.Frag} {te : TE} {tt : TT} {vs : List Nat} {σ : L2.St} {H1 : Hp} {D : Addr} {Qd : Hp → Prop} {sl : Nat}
theorem lc_pairsL {a : Addr} {xs : List V} (keep : V → Bool) (kf vf : V → V) (hS : SqL K H1 a xs) (nD : H1 D = none) (hl : xs.length < sizeLine)
    (ht : ∀ x ∈ xs, ∀ H' (R : Bool → Hp → Prop), Same H1 H' → R (keep x) H' → tt ((wipe σ vs).set sl (some x)) H' R)
    (he : ∀ x ∈ xs, keep x = true → ∀ H' (R : VK), Same H1 H' → New H' (.tup [kf x, vf x]) R → te ((wipe σ vs).set sl (some x)) H' R)
    (hd : ∀ H' ts, Same H1 H' → H' D = some (.lst (ts.map V.ref)) → Paired (fun t x => H' t = some (.tup [kf x, vf x])) ts (xs.filter keep) → Qd H') (hw : ∀ x, wipe ((wipe σ vs).set sl (some x)) vs = wipe σ vs := by intro _; rfl) :
    ∃ W : Nat → Nat → Hp → Prop, (∃ m, W 0 m (upd H1 D (.lst []))) ∧ ∀ i m H, W i m H →
      ((Itl K a).stop i H ∧ Qd H) ∨ ((Itl K a).go i H ∧ ∃ Nx : Hp → Prop, (∀ H', Nx H' → ∃ m', m' < m ∧ W (i + 1) m' H') ∧ ∀ x H', (Itl K a).yld i H x H' → gName sl x (wipe σ vs) H' fun σ2 H2 => wipe σ2 vs = wipe σ vs ∧ tt σ2 H2 fun b H3 =>
        if b = true then te σ2 H3 fun y H4 => ∃ acc, H4 D = some (.lst acc) ∧ acc.length < sizeLine ∧ Nx (upd H4 D (.lst (acc ++ [y]))) else Nx H3) := by
  have mono : ∀ {H H' : Hp} {ts : List Addr} {ys : List V}, (∀ b o, H b = some o → b ≠ D → H' b = some o) → (∃ l, H D = some (.lst l)) → Paired (fun t x => H t = some (.tup [kf x, vf x])) ts ys → Paired (fun t x => H' t = some (.tup [kf x, vf x])) ts ys := by
    intro H H' ts ys hb hD hp
    induction hp with
    | nil => exact .nil
    | cons h _ ih =>
      refine .cons (hb _ _ h fun z => ?_) ih
      obtain ⟨l, e⟩ := hD
      rw [z, e] at h
      cases h
  refine lc_list (K := K) (a := a) (xs := xs) (fun i H => Same H1 H ∧ ∃ ts, H D = some (.lst (ts.map V.ref)) ∧ Paired (fun t x => H t = some (.tup [kf x, vf x])) ts ((xs.take i).filter keep)) ⟨same_upd nD, [], upd_same, .nil⟩ (fun i H _ h => h.1.seq hS) ?_ ?_
  · rintro i x H hx ⟨s, ts, e, hp⟩
    have hm := List.mem_of_getElem? hx
    have et : xs.take (i + 1) = xs.take i ++ [x] := by
      rw [List.take_add_one, hx]
      rfl
    refine ⟨hw x, tif (k := keep x) (fun R r => ht x hm H R s r) (fun hk => he x hm hk H _ s fun T H2 s2 nT eT => ?_) (fun hk => ⟨s, ts, e, ?_⟩)⟩
    · have hlt : ts.length < sizeLine := by
        rw [Paired.length hp]
        refine Nat.lt_of_le_of_lt (List.length_filter_le _ _) ?_
        rw [List.length_take]
        exact Nat.lt_of_le_of_lt (Nat.min_le_right _ _) hl
      have nTD : T ≠ D := fun z => by
        rw [z, e] at nT
        cases nT
      refine ⟨_, s2 _ _ e, by rw [List.length_map]; exact hlt, fun b o eb => ?_, ts ++ [T], ?_, ?_⟩
      · rw [upd_ne (ne_of_none eb nD)]
        exact s2 _ _ (s _ _ eb)
      · rw [upd_same, List.map_append]
        rfl
      · rw [et, List.filter_append]
        have h1 : Paired (fun t x => (upd H2 D (.lst (ts.map V.ref ++ [.ref T]))) t = some (.tup [kf x, vf x])) ts ((xs.take i).filter keep) :=
          mono (H := H) (fun b o eb ne => by rw [upd_ne ne]; exact s2 _ _ eb) ⟨_, e⟩ hp
        have h2 : [x].filter keep = [x] := by simp [List.filter_cons, hk]
        rw [h2]
        exact h1.snoc (by rw [upd_ne nTD]; exact eT)
    · rw [et, List.filter_append]
      have h2 : [x].filter keep = [] := by simp [List.filter_cons, hk]
      rw [h2, List.append_nil]
      exact hp
  · rintro H ⟨s, ts, e, hp⟩
    rw [List.take_length] at hp
    exact hd H ts s e hp
end
section
variable {X : Cx}
def rDictP (K : PySem.W.Frag) : List V → Hp → VK → Prop := fun xs H Q => ∃ (a : Addr) (ps : List Addr) (kvs : List (Key × V)), xs = [.ref a] ∧ SqL K H a (ps.map V.ref) ∧ Paired (fun p kv => SqT K H p [kV kv.1, kv.2]) ps kvs ∧ New H (.dK (mergeK [] kvs)) Q
theorem call_dictS (hc : X.calm = true) : CallR X (.type "dict") (rDictP X.K) := CallR.weak (call_dictP hc) fun xs H Q ⟨a, ps, kvs, e, h1, h2, q⟩ => ⟨a, ps, kvs, e, h1, h2, q.at⟩
/-- xs != ys: of unlike lengths, or the very same things -/
def rNeLen (K : PySem.W.Frag) : R2 := fun x y H Q => ∃ a b xs ys, x = .ref a ∧ y = .ref b ∧ SqL K H a xs ∧ SqL K H b ys ∧ ((xs.length ≠ ys.length ∧ Q (.bl true) H) ∨ (xs = [] ∧ ys = [] ∧ Q (.bl false) H))
theorem op_neLen (hu : X.A.units + 1 < cLine) : OpR X (compareOp .NotEq) (rNeLen X.K) := by
  intro pins s σ H x y v u Q I rx ry h
  obtain ⟨a, b, xs, ys, rfl, rfl, ha, hb, hq⟩ := h
  cases (show v = Value.ref a from rx)
  cases (show u = Value.ref b from ry)
  obtain ⟨us, r1, p1, _⟩ := I.list ha
  obtain ⟨ws, r2, p2, _⟩ := I.list hb
  rcases hq with ⟨hne, q⟩ | ⟨rfl, rfl, q⟩
  · have hsz : (us.toArray.size != ws.toArray.size) = true := by
      rw [List.size_toArray, List.size_toArray, ← r1.length, ← r2.length]
      simpa using hne
    exact SeqAt.RcNeAt.lists_lengths (A := X.A) (s := s) p1.isList p2.isList hsz (by omega) X.prog X.w _ _ ⟨.bl true, H, I, rfl, q⟩
  · cases r1
    cases r2
    exact SeqAt.RcNeAt.lists (A := X.A) (s := s) (e := fun _ => true) p1.isList p2.isList rfl (by omega) (fun j h1 h2 => absurd h1 (Nat.not_lt_zero j)) X.prog X.w _ _ ⟨.bl false, H, I, rfl, q⟩
end
end Tb

set_option Elab.async false
set_option linter.all false
set_option maxRecDepth 100000
set_option maxHeartbeats 2000000
namespace Tb
open PySem PySem.Spec PyProof.Rows L2 TL
def txs (l : List (List Nat)) : List V := l.map fun y => V.str (S y)
def sgs (l : List Nat) : List V := l.map fun c => V.str (S [c])
/-- each sign of the fillings is of out or a box; each box stands at most as often as in `done` -/
structure FillOk (out boxes done : List Nat) (hf : Fil) : Prop where
  nd : (hf.map (·.1)).Nodup
  signs : ∀ q ∈ hf, ∀ c ∈ q.2, c ∈ out ∨ c ∈ boxes
  cnt : ∀ b ∈ boxes, ((hf.map (·.2)).flatten).count b ≤ done.count b
theorem count_countP (l : List Nat) (b : Nat) : l.count b = l.countP (· == b) := rfl
theorem FillOk.put {out boxes done : List Nat} {hf : Fil} (F : FillOk out boxes done hf) {h f0 x y : List Nat} (g : getF hf h = some f0) (hm : (h, f0) ∈ hf) (hx : ∀ c ∈ x, c ∈ out) (hb : ∀ b ∈ boxes, b ∉ out) (hy : ∀ c ∈ y, c ∈ boxes) (d2 : List Nat) (hd : ∀ b ∈ boxes, done.count b + y.count b ≤ d2.count b) :
    FillOk out boxes d2 (setF hf h (f0 ++ (x ++ y))) where
  nd := by rw [setF_keys]; exact F.nd
  signs := fun q hq c hc => by
    rcases setF_mem hq with e | e
    · rw [e] at hc
      rcases List.mem_append.mp hc with z | z
      · exact F.signs _ hm c z
      · rcases List.mem_append.mp z with z | z
        · exact .inl (hx c z)
        · exact .inr (hy c z)
    · exact F.signs q e c hc
  cnt := fun b hbm => by
    rw [count_countP, setF_count (· == b) F.nd g, List.countP_append]
    have h1 := F.cnt b hbm
    have h2 := hd b hbm
    rw [count_countP] at h1
    have h3 : x.countP (· == b) = 0 := List.countP_eq_zero.mpr fun c hc z => hb b hbm (by rw [← beq_iff_eq.mp z]; exact hx c hc)
    have h4 : y.countP (· == b) = y.count b := rfl
    omega
def lenF (hf : Fil) : Nat := ((hf.map (·.2)).flatten).length
theorem lenF_put {hf : Fil} {h f0 x : List Nat} (nd : (hf.map (·.1)).Nodup) (g : getF hf h = some f0) : lenF (setF hf h (f0 ++ x)) = lenF hf + x.length := by
  have e := setF_count (fun _ => true) nd g (x := x)
  simpa [lenF, List.countP_true] using e
theorem len_le {hf : Fil} {q : List Nat × List Nat} (m : q ∈ hf) : q.2.length ≤ lenF hf := by
  unfold lenF
  induction hf with
  | nil => exact (nomatch m)
  | cons r rs ih =>
    rw [List.map_cons, List.flatten_cons, List.length_append]
    rcases List.mem_cons.mp m with e | e
    · rw [e]; omega
    · have := ih e
      omega
theorem fill_start {out boxes : List Nat} {hs : List (List Nat)} (nd : hs.Nodup) : FillOk out boxes [] (hs.map fun h => (h, [])) := by
  have e0 : (hs.map fun h => (h, ([] : List Nat))).map (·.2) = hs.map fun _ => [] := by
    rw [List.map_map]
    rfl
  have e1 : ((hs.map fun h => (h, ([] : List Nat))).map (·.2)).flatten = [] := by
    rw [e0]
    induction hs with
    | nil => rfl
    | cons h r ih =>
      rw [List.map_cons, List.flatten_cons, ih (List.nodup_cons.mp nd).2 (by rw [List.map_map]; rfl)]
      rfl
  refine ⟨?_, fun q hq c hc => ?_, fun b _ => ?_⟩
  · have : (hs.map fun h => (h, ([] : List Nat))).map (·.1) = hs := by
      rw [List.map_map]
      exact List.map_id _
    rw [this]
    exact nd
  · obtain ⟨h, _, rfl⟩ := List.mem_map.mp hq
    exact (nomatch hc)
  · rw [e1]
    exact Nat.le_refl _
theorem keys_start (hs : List (List Nat)) : (hs.map fun h => (h, ([] : List Nat))).map (·.1) = hs := by
  rw [List.map_map]
  exact List.map_id _
theorem lenF_start (hs : List (List Nat)) : lenF (hs.map fun h => (h, ([] : List Nat))) = 0 := by
  unfold lenF
  rw [List.map_map]
  induction hs with
  | nil => rfl
  | cons h r ih => exact ih
theorem paired_map {α β γ : Type} {F : α → β → Prop} {g : γ → β} : ∀ {l : List α} {m : List γ}, Paired F l (m.map g) → Paired (fun a c => F a (g c)) l m
  | _, [], h => by
    cases h
    exact .nil
  | _, c :: m, h => by
    cases h with
    | cons h t => exact .cons h (paired_map t)
theorem map_paired {α β γ : Type} {F : α → β → Prop} {g : γ → β} : ∀ {l : List α} {m : List γ}, Paired (fun a c => F a (g c)) l m → Paired F l (m.map g)
  | _, [], h => by
    cases h
    exact .nil
  | _, c :: m, h => by
    cases h with
    | cons h t => exact .cons h (map_paired t)
def pick1 (l : List Nat) : V → V := fun v => match v with | .int i => .str (S [l.getD i.toNat 0]) | _ => .non
theorem pick1_num (l : List Nat) (i : Nat) : pick1 l (num i) = .str (S [l.getD i 0]) := rfl
theorem getD_perm {ks zs : List Nat} (h : ks.Perm (List.range zs.length)) : (ks.map fun i => zs.getD i 0).Perm zs := by
  have h1 := h.map fun i => zs.getD i 0
  have h2 : (List.range zs.length).map (fun i => zs.getD i 0) = zs := by
    refine List.ext_getElem (by simp) fun i h1 h2 => ?_
    rw [List.getElem_map, List.getElem_range, List.getD_eq_getElem?_getD, List.getElem?_eq_getElem h2]
    rfl
  rw [h2] at h1
  exact h1
section
variable {P : Program} {w : World} {K : PySem.W.Frag} {mg : Str → Option Value} {base : Heap}
abbrev nFill : List Str := ["_law_source_here", "_law_boxes", "_law_holders", "_law_out", "_law_holder", "_law_found", "_law_box", "_law_way", "_law_k"]
theorem scFill : FnScope nFill ["_law_source_here", "_law_boxes", "_law_holders", "_law_out"] (defScope sFill) := ⟨rfl, rfl, rfl, by decide +kernel, rfl, by decide +kernel, by decide +kernel⟩
/-- fillings of the holders, each box once at most -/
def spFill (K : PySem.W.Frag) : Sp := fun vs H Q _ => ∃ (p tb th : Addr) (n : Nat) (boxes out : List Nat) (hs : List (List Nat)), vs = [.ref p, .ref tb, .ref th, .str (S out)] ∧ Src H p n ∧ n + 100 < 1000000 ∧ SqL K H tb (sgs boxes) ∧ SqL K H th (txs hs) ∧ tb ≠ p ∧ th ≠ p ∧
  boxes.length ≤ 7 ∧ hs.length ≤ 7 ∧ boxes.Nodup ∧ hs.Nodup ∧ 0 < out.length ∧ out.length ≤ 1000 ∧ (∀ b ∈ boxes, b ∉ out) ∧
  ∀ d H' (hf : Fil), But p H H' → Src H' p (n + 100) → H d = none → H' d = some (.dK (fkv hf)) → hf.map (·.1) = hs → FillOk out boxes boxes hf → lenF hf ≤ 100 → Q (.ref d) H'
theorem ok_fill {f : Addr} {fd : FuncData} {k : Nat} (F : Fun K "_law_fill" "_law_fill" sFill f fd) (DD : Df P w K mg base (k + 1) "_law_draw" ["_law_source_here", "_law_many"] spDrawS) (DP : Df P w K mg base (k + 2) "_law_pick" ["_law_source_here", "_law_things"] (spPick K))
    (DO : Df P w K mg base (k + 2) "_law_order" ["_law_source_here", "_law_many"] spOrder) (DC : Df P w K mg base (k + 3) "_law_piece" ["_law_source_here", "_law_out"] spPiece) (ml : mg "len" = none) (md : mg "dict" = none) : FnOk P w K mg base CX0 (k + 4) f fd ["_law_source_here", "_law_boxes", "_law_holders", "_law_out"] (spFill K) := by
  refine F.ok scFill (fun vs H Q E h => ?_) (fun cdv A outer s H vs Q E hr h => ?_)
  · obtain ⟨p, tb, th, n, boxes, out, hs, rfl, _⟩ := h
    rfl
  · obtain ⟨p, tb, th, n, boxes, out, hs, rfl, hp, hn, hB, hH, nbp, nhp, lB, lH, ndB, ndH, o0, o1, dis, q⟩ := h
    have hu := hu_of hr
    refine ⟨_, pss_cons (ps_set (i := 5) scFill.nd rfl (.inl rfl) (pe_callTy (call_dictS rfl) (by rfl) md (by decide +kernel) (pa_cons (pe_lc (own := [("_law_holder", 4)]) (g := gName 4) (tt := tYes) (te := tTupS (tCons (tVar 4) (tCons (tC (.str "")) tNil))) rfl scFill.nd
          (pi_list (pv 2)) (blkOk_by (own := [("_law_holder", 4)]) (N := nFill) (sc := defScope sFill) (by decide +kernel)) (fun _ _ _ _ _ => pg_name (i := 4) scFill.nd rfl (.inl rfl)) (fun _ _ _ _ _ => pts_nil) (fun _ _ _ _ _ => pe_tupS (pa_cons (pv 4) (pa_cons pe_str pa_nil)))) pa_nil)))
      (pss_cons (ps_for PassesOwn.never rfl (pi_list (pe_lc (own := [("_law_k", 8)]) (g := gName 8) (tt := tYes) (te := tOp (rIxL K) (tVar 1) (tVar 8)) rfl scFill.nd
          (pi_list (pe_df DO hr (pa_cons (pv 0) (pa_cons (pe_callB call_lenS (by rfl) ml PySem.boot_len (pa_cons (pv 1) pa_nil)) pa_nil)))) (blkOk_by (own := [("_law_k", 8)]) (N := nFill) (sc := defScope sFill) (by decide +kernel)) (fun _ _ _ _ _ => pg_name (i := 8) scFill.nd rfl (.inl rfl)) (fun _ _ _ _ _ => pts_nil) (fun _ _ _ _ _ => pe_ix ix_list (pv 1) (pv 8) (fun _ _ => rfl)))) (pg_name (i := 6) scFill.nd rfl (.inl rfl))
        (pss_cons (ps_set (i := 7) scFill.nd rfl (.inl rfl) (pe_df DD hr (pa_cons (pv 0) (pa_cons pe_int pa_nil))))
        (pss_one (ps_if (PW.pt (pw_and (pt_cmpR op_gt (pv 7) pe_int (nomark _)) (pw_and1 (pt_cmpR (op_neLen hu) (pv 2) (pe_lstS pa_nil) (nomark _)))))
          (C8.pss_cut (ps_set (i := 4) scFill.nd rfl (.inl rfl) (pe_ifExp (PW.pt (pw_and (pt_cmpR op_gt (pv 7) pe_int (nomark _)) (pw_and1 (pt_cmp (pc_din hu (pv 6) (pv 5)))))) (pv 6) (pe_df DP hr (pa_cons (pv 0) (pa_cons (pv 2) pa_nil)))))
          (pss_one (ps_dput hu (pv 5) (pv 4) (pe_op op_add_str (pe_op op_add_str (pe_dget hu (pv 5) (pv 4) (fun _ _ => rfl)) (pe_df DC hr (pa_cons (pv 0) (pa_cons (pv 3) pa_nil)))) (pv 6)) rfl))) pss_nil))))
      (pss_cons (ps_for PassesOwn.never rfl (pi_list (pv 2)) (pg_name (i := 4) scFill.nd rfl (.inl rfl))
        (pss_one (ps_dput hu (pv 5) (pv 4) (pe_op op_add_str (pe_dget hu (pv 5) (pv 4) (fun _ _ => rfl)) (pe_df DC hr (pa_cons (pv 0) (pa_cons (pv 3) pa_nil)))) rfl)))
      (pss_one (ps_ret (pv 5))))), ?_⟩
    have ee : Str.ofString "" = S [] := str_empty
    -- found = dict([(holder, '') ..])
    refine ⟨_, rfl, th, rfl, ⟨_, hH⟩, fun D0 nD0 => lc_pairsL (fun _ => true) id (fun _ => .str (S [])) hH nD0 (by show (hs.map _).length < _; rw [List.length_map]; exact small1000 (by omega)) (fun x hx H' R s' r => r) (fun x hx _ H' R s' hN => ?_) (fun H1 ts s1 e1 hpair => ?_)⟩
    · refine ⟨_, rfl, by show 2 ≤ sizeLine; decide, ?_⟩
      rw [ee]
      exact hN
    have hpair2 : Paired (fun p kv => SqT K H1 p [kV kv.1, kv.2]) ts (fkv (hs.map fun h => (h, []))) := by
      rw [List.filter_eq_self.mpr (fun _ _ => rfl)] at hpair
      have h1 := paired_map (m := hs) (g := fun y => V.str (S y)) hpair
      unfold fkv
      rw [List.map_map]
      exact map_paired (Paired.mono (fun a c h => SqT.of h) h1)
    refine ⟨D0, ts, fkv (hs.map fun h => (h, [])), rfl, SqL.of e1, hpair2, fun d H2 s2 nd0 e2 => ?_⟩
    have ndK : ((hs.map fun h => (h, ([] : List Nat))).map (·.1)).Nodup := by rw [keys_start]; exact ndH
    rw [merge_new _ [] (by rw [List.nil_append]; exact fkv_nodup ndK), List.nil_append] at e2
    have s12 := s1.trans s2
    have hp2 := hp.same s12
    have ndp : d ≠ p := ne_src (hp.same s1) nd0
    have ndH0 : H d = none := s1.free nd0
    -- the boxes in some order
    have hB2 := s12.seq hB
    have lb : (sgs boxes).length = boxes.length := List.length_map _
    refine ⟨_, rfl, _, rfl, tb, _, rfl, .inl hB2, p, (sgs boxes).length, n, rfl, hp2, by omega, by omega, fun a H3 ks hb3 hs3 na e3 hperm => ⟨a, rfl, ⟨_, SqL.of e3⟩, fun D nD => lc_mapL (pick1 boxes) (SqL.of e3) nD ?_ ?_ ?_⟩⟩
    · rw [List.length_map, hperm.length_eq, List.length_range]
      exact small1000 (by omega)
    · intro x hx H' R s' r
      obtain ⟨i, hi, rfl⟩ := List.mem_map.mp hx
      have hi' : i < boxes.length := by
        rw [← lb]
        exact List.mem_range.mp (hperm.mem_iff.mp hi)
      rw [pick1_num] at r
      have eg : boxes.getD i 0 = boxes[i] := by
        rw [List.getD_eq_getElem?_getD, List.getElem?_eq_getElem hi']
        rfl
      rw [eg] at r
      exact ⟨_, rfl, _, rfl, tb, _, (i : Int), _, rfl, rfl, s'.seq (hb3.seq nbp hB2), atI_nat (by unfold sgs; rw [List.getElem?_map, List.getElem?_eq_getElem hi']; rfl), r⟩
    intro H4 s4 e4
    rw [lb] at hperm
    have hall := getD_perm hperm
    have e4' : H4 D = some (.lst (sgs (ks.map fun i => boxes.getD i 0))) := by
      rw [e4, List.map_map]
      unfold sgs
      rw [List.map_map]
      rfl
    generalize (ks.map fun i => boxes.getD i 0) = all at hall e4'
    have la : all.length = boxes.length := hall.length_eq
    have hb4 : But p H H4 := (Same.but s12 p).trans (hb3.trans (Same.but s4 p))
    have hs4 : Src H4 p (n + 7) := (hs3.same s4).le (by omega)
    have ed4 : H4 d = some (.dK (fkv (hs.map fun h => (h, [])))) := s4 _ _ (hb3 _ _ e2 ndp)
    have nDp : D ≠ p := ne_src hs3 nD
    have nDH : H D = none := by
      cases z : H D with
      | none => rfl
      | some o =>
        have z' := hb3 _ _ (s12 _ _ z) nDp
        rw [nD] at z'
        cases z'
    have ndD : d ≠ D := fun z => by
      rw [z] at ndp e2
      have z' := hb3 _ _ e2 ndp
      rw [nD] at z'
      cases z'
    refine ⟨D, rfl, ⟨_, SqL.of e4'⟩, for_list (K := K) (a := D) (xs := sgs all) (fun i σ H' => ∃ v4 v6 v7 hf, σ = [some (.ref p), some (.ref tb), some (.ref th), some (.str (S out)), v4, some (.ref d), v6, v7, none] ∧ Src H' p (n + 7 + 6 * i) ∧ But p H H' ∧ H' D = some (.lst (sgs all)) ∧ H' d = some (.dK (fkv hf)) ∧ hf.map (·.1) = hs ∧ FillOk out boxes (all.take i) hf ∧ lenF hf ≤ 4 * i)
      ⟨none, none, none, hs.map fun h => (h, []), rfl, hs4, hb4, e4', ed4, keys_start hs, fill_start ndH, by rw [lenF_start]; exact Nat.zero_le _⟩ (fun i σ H' _ ⟨_, _, _, _, _, _, _, e, _⟩ => SqL.of e) ?_ ?_⟩
    · rintro i y σ H5 hi ⟨v4, v6, v7, hf, rfl, hs5, hb5, eD5, ed5, hk5, F5, l5⟩
      obtain ⟨c, hc, rfl⟩ : ∃ c, all[i]? = some c ∧ y = V.str (S [c]) := by
        unfold sgs at hi
        rw [List.getElem?_map] at hi
        cases z : all[i]? with
        | none =>
          rw [z] at hi
          cases hi
        | some c =>
          rw [z] at hi
          exact ⟨c, rfl, (Option.some.inj hi).symm⟩
      have hcb : c ∈ boxes := hall.mem_iff.mp (List.mem_of_getElem? hc)
      have hi7 : i < 7 := by
        have := (List.getElem?_eq_some_iff.mp hc).1
        omega
      have et : all.take (i + 1) = all.take i ++ [c] := by
        rw [List.take_add_one, hc]
        rfl
      have more : FillOk out boxes (all.take (i + 1)) hf := ⟨F5.nd, F5.signs, fun b hb => by
        have h1 := F5.cnt b hb
        rw [et, List.count_append]
        omega⟩
      refine ⟨_, rfl, p, 6, n + 7 + 6 * i, rfl, hs5, by omega, by decide, by decide, fun wv H6 hw hb6 hs6 => ?_⟩
      have hb6' := hb5.trans hb6
      have eD6 := hb6 _ _ eD5 nDp
      have ed6 := hb6 _ _ ed5 ndp
      refine ⟨_, rfl, _, _, rfl, rfl, _, rfl, ite2 (fun _ => ?_) (fun _ => ?_)⟩
      · refine ⟨_, rfl, Nat.zero_le _, fun z H7 s7 n7 e7 => ?_⟩
        have hH7 : SqL K H7 th (txs hs) := s7.seq (hb6'.seq nhp hH)
        have keep7 : ∃ v4 v6 v7 hf, [some (V.ref p), some (.ref tb), some (.ref th), some (.str (S out)), v4, some (.ref d), some (.str (S [c])), some (num wv), none] = [some (V.ref p), some (.ref tb), some (.ref th), some (.str (S out)), v4, some (.ref d), v6, v7, none] ∧ Src H7 p (n + 7 + 6 * (i + 1)) ∧ But p H H7 ∧ H7 D = some (.lst (sgs all)) ∧ H7 d = some (.dK (fkv hf)) ∧ hf.map (·.1) = hs ∧ FillOk out boxes (all.take (i + 1)) hf ∧ lenF hf ≤ 4 * (i + 1) := by
          exact ⟨v4, _, _, hf, rfl, (hs6.same s7).le (by omega), hb6'.trans (Same.but s7 p), s7 _ _ eD6, s7 _ _ ed6, hk5, more, by omega⟩
        refine ⟨th, z, _, [], rfl, rfl, hH7, SqL.of e7, ?_⟩
        by_cases hne : hs = []
        · refine .inr ⟨by rw [hne]; rfl, rfl, _, rfl, iteF ?_⟩
          exact ⟨v4, _, _, hf, rfl, (hs6.same s7).le (by omega), hb6'.trans (Same.but s7 p), s7 _ _ eD6, s7 _ _ ed6, hk5, more, by omega⟩
        · have hl0 : 0 < (txs hs).length := by
            show 0 < (hs.map _).length
            rw [List.length_map]
            exact List.length_pos_iff.mpr hne
          refine .inl ⟨by show (txs hs).length ≠ 0; omega, _, rfl, iteT ?_⟩
          -- the holder
          refine ⟨fun σ H' => ∃ h, h ∈ hs ∧ σ = [some (.ref p), some (.ref tb), some (.ref th), some (.str (S out)), some (.str (S h)), some (.ref d), some (.str (S [c])), some (num wv), none] ∧ Src H' p (n + 7 + 6 * i + 2) ∧ But p H H' ∧ H' D = some (.lst (sgs all)) ∧ H' d = some (.dK (fkv hf)), ?_, ?_⟩
          · have hs7 := hs6.same s7
            have other : ∀ Q' : VK, (∀ h H', h ∈ hs → Src H' p (n + 7 + 6 * i + 2) → But p H7 H' → Q' (.str (S h)) H') → tCall (spPick K) [] E0 (tCons (tVar 0) (tCons (tVar 2) tNil)) [some (.ref p), some (.ref tb), some (.ref th), some (.str (S out)), v4, some (.ref d), some (.str (S [c])), some (num wv), none] H7 Q' := fun Q' hQ => by
              refine ⟨_, rfl, _, rfl, p, n + 7 + 6 * i + 1, hs7, by omega, .inl ⟨th, _, rfl, hH7, nhp, hl0, by show (hs.map _).length < _; rw [List.length_map]; omega, fun x H8 hx hb8 hs8 => ?_⟩⟩
              obtain ⟨h, hh, rfl⟩ := List.mem_map.mp hx
              exact hQ h H8 hh hs8 hb8
            have fin8 : ∀ h H8, h ∈ hs → Src H8 p (n + 7 + 6 * i + 2) → But p H7 H8 → ∃ h', h' ∈ hs ∧ [some (V.ref p), some (.ref tb), some (.ref th), some (.str (S out)), some (.str (S h)), some (.ref d), some (.str (S [c])), some (num wv), none] = [some (V.ref p), some (.ref tb), some (.ref th), some (.str (S out)), some (.str (S h')), some (.ref d), some (.str (S [c])), some (num wv), none] ∧ Src H8 p (n + 7 + 6 * i + 2) ∧ But p H H8 ∧ H8 D = some (.lst (sgs all)) ∧ H8 d = some (.dK (fkv hf)) :=
              fun h H8 hh hs8 hb8 => ⟨h, hh, rfl, hs8, (hb6'.trans (Same.but s7 p)).trans hb8, hb8 _ _ (s7 _ _ eD6) nDp, hb8 _ _ (s7 _ _ ed6) ndp⟩
            refine ⟨_, rfl, _, _, rfl, rfl, _, rfl, ite2 (fun _ => ?_) (fun _ => ?_)⟩
            · refine ⟨_, rfl, _, rfl, d, _, rfl, DGet.k (k := Sum.inr (S [c])) (s7 _ _ ed6), _, rfl, ?_⟩
              by_cases hin : [c] ∈ hs
              · obtain ⟨f0, g0, _⟩ := getF_some (hf := hf) (h := [c]) (by rw [hk5]; exact hin)
                rw [val_fkv, g0]
                exact iteT ⟨_, rfl, fin8 [c] H7 hin (hs7.le (by omega)) (But.refl p H7)⟩
              · rw [val_fkv, getF_none (by rw [hk5]; exact hin)]
                exact iteF (other _ fun h H8 hh hs8 hb8 => fin8 h H8 hh hs8 hb8)
            · exact iteF (other _ fun h H8 hh hs8 hb8 => fin8 h H8 hh hs8 hb8)
          · rintro σ H8 ⟨h, hh, rfl, hs8, hb8, eD8, ed8⟩
            obtain ⟨f0, g0, m0⟩ := getF_some (hf := hf) (h := h) (by rw [hk5]; exact hh)
            have lf0 := len_le m0
            have lf1 : f0.length ≤ 28 := Nat.le_trans lf0 (by omega)
            have hv : valV (fkv hf) (Sum.inr (S h)) = some (.str (S f0)) := by rw [val_fkv, g0]; rfl
            have lk : (fkv hf).length ≤ 7 := by
              unfold fkv
              rw [List.length_map]
              have := congrArg List.length hk5
              rw [List.length_map] at this
              omega
            refine ⟨_, rfl, _, rfl, d, _, rfl, hv ▸ DGet.k (k := Sum.inr (S h)) ed8, _, rfl, _, rfl, p, n + 7 + 6 * i + 2, out, rfl, hs8, by omega, o0, o1, fun H9 cs hb9 hs9 l9 hc9 => ?_⟩
            refine ⟨_, _, rfl, rfl, by rw [len_S, len_S]; exact Nat.le_of_lt (small1000 (by omega)), _, rfl, _, _, rfl, rfl, by rw [S_app, len_S, len_S, List.length_append]; exact Nat.le_of_lt (small1000 (by show _ + 1 ≤ 1000; omega)), ?_⟩
            rw [S_app, S_app, List.append_assoc]
            have ed9 := hb9 _ _ ed8 ndp
            refine ⟨_, rfl, _, rfl, d, _, rfl, DPut.k (k := Sum.inr (S h)) ed9 (small1000 (by omega)), ?_⟩
            refine ⟨_, _, _, setF hf h (f0 ++ (cs ++ [c])), rfl, ?_, ?_, ?_, ?_, ?_, ?_, ?_⟩
            · exact (hs9.at (upd_ne ndp.symm)).le (by omega)
            · intro b o eb ne
              rw [upd_ne (ne_of_none eb ndH0)]
              exact hb9 _ _ (hb8 _ _ eb ne) ne
            · rw [upd_ne ndD.symm]
              exact hb9 _ _ eD8 nDp
            · rw [upd_same, put_fkv _ (by rw [hk5]; exact hh)]
            · rw [setF_keys, hk5]
            · refine F5.put g0 m0 hc9 dis (fun x hx => by rw [List.mem_singleton.mp hx]; exact hcb) _ fun b hb => ?_
              rw [et, List.count_append]
              exact Nat.le_refl _
            · rw [lenF_put F5.nd g0, List.length_append]
              show _ + (_ + 1) ≤ _
              omega
      · refine iteF ?_
        exact ⟨v4, _, _, hf, rfl, hs6.le (by omega), hb6', eD6, ed6, hk5, more, by omega⟩
    · rintro σ H5 ⟨v4, v6, v7, hf, rfl, hs5, hb5, eD5, ed5, hk5, F5, l5⟩
      have la' : (sgs all).length = all.length := List.length_map _
      rw [la'] at hs5 l5 F5
      rw [List.take_length] at F5
      have F5' : FillOk out boxes boxes hf := ⟨F5.nd, F5.signs, fun b hb => by rw [← hall.count_eq]; exact F5.cnt b hb⟩
      have lH' : hf.length = hs.length := by
        have := congrArg List.length hk5
        rw [List.length_map] at this
        exact this
      -- a last piece for each holder
      refine ⟨_, rfl, th, rfl, ⟨_, hb5.seq nhp hH⟩, for_list (K := K) (a := th) (xs := txs hs) (fun i σ H' => ∃ v4 hf, σ = [some (.ref p), some (.ref tb), some (.ref th), some (.str (S out)), v4, some (.ref d), v6, v7, none] ∧ Src H' p (n + 49 + 4 * i) ∧ But p H H' ∧ H' d = some (.dK (fkv hf)) ∧ hf.map (·.1) = hs ∧ FillOk out boxes boxes hf ∧ lenF hf ≤ 28 + 3 * i)
        ⟨v4, hf, rfl, hs5.le (by omega), hb5, ed5, hk5, F5', by omega⟩ (fun i σ H' _ ⟨_, _, _, _, b, _⟩ => b.seq nhp hH) ?_ ?_⟩
      · rintro i y σ H6 hi ⟨v4, hf, rfl, hs6, hb6, ed6, hk6, F6, l6⟩
        obtain ⟨h, hh, rfl⟩ := List.mem_map.mp (List.mem_of_getElem? hi)
        have hi7 : i < 7 := by
          have := (List.getElem?_eq_some_iff.mp hi).1
          unfold txs at this
          rw [List.length_map] at this
          omega
        obtain ⟨f0, g0, m0⟩ := getF_some (hf := hf) (h := h) (by rw [hk6]; exact hh)
        have lf1 : f0.length ≤ lenF hf := len_le m0
        have hv : valV (fkv hf) (Sum.inr (S h)) = some (.str (S f0)) := by rw [val_fkv, g0]; rfl
        have lk : (fkv hf).length ≤ 7 := by
          unfold fkv
          rw [List.length_map]
          have := congrArg List.length hk6
          rw [List.length_map] at this
          omega
        refine ⟨_, rfl, _, rfl, d, _, rfl, hv ▸ DGet.k (k := Sum.inr (S h)) ed6, _, rfl, _, rfl, p, n + 49 + 4 * i, out, rfl, hs6, by omega, o0, o1, fun H9 cs hb9 hs9 l9 hc9 => ?_⟩
        refine ⟨_, _, rfl, rfl, by rw [len_S, len_S]; exact Nat.le_of_lt (small1000 (by omega)), ?_⟩
        rw [S_app]
        have ed9 := hb9 _ _ ed6 ndp
        refine ⟨_, rfl, _, rfl, d, _, rfl, DPut.k (k := Sum.inr (S h)) ed9 (small1000 (by omega)), ?_⟩
        have ea : f0 ++ cs = f0 ++ (cs ++ []) := by rw [List.append_nil]
        refine ⟨_, setF hf h (f0 ++ cs), rfl, ?_, ?_, ?_, ?_, ?_, ?_⟩
        · exact (hs9.at (upd_ne ndp.symm)).le (by omega)
        · intro b o eb ne
          rw [upd_ne (ne_of_none eb ndH0)]
          exact hb9 _ _ (hb6 _ _ eb ne) ne
        · rw [upd_same, put_fkv _ (by rw [hk6]; exact hh)]
        · rw [setF_keys, hk6]
        · rw [ea]
          exact F6.put g0 m0 hc9 dis (fun x hx => absurd hx (List.not_mem_nil)) _ fun b hb => Nat.le_refl _
        · rw [lenF_put F6.nd g0]
          omega
      · rintro σ H6 ⟨v4, hf, rfl, hs6, hb6, ed6, hk6, F6, l6⟩
        have lt' : (txs hs).length = hs.length := List.length_map _
        rw [lt'] at hs6 l6
        exact ⟨_, rfl, q d H6 hf hb6 (hs6.le (by omega)) ndH0 ed6 hk6 F6 (by omega)⟩
end
end Tb

set_option Elab.async false
set_option linter.all false
set_option maxRecDepth 100000
set_option maxHeartbeats 4000000
/-! set(..) of a list of texts, or of a text's signs, of any number; len of it. -/
namespace Ts
open PySem PySem.Spec PySem.Calls PyProof.Rows
def stepS (σ : List Str) (v : Str) : List Str := if σ.any (· == v) then σ else σ ++ [v]
/-- the first i of them, each once -/
def metS (val : Nat → Str) (i : Nat) : List Str := ((List.range i).map val).foldl stepS []
theorem metS_succ (val : Nat → Str) (i : Nat) : metS val (i + 1) = stepS (metS val i) (val i) := by
  unfold metS
  rw [List.range_succ, List.map_append, List.foldl_append]
  rfl
theorem stepS_len (σ : List Str) (v : Str) : (stepS σ v).length = if σ.any (· == v) then σ.length else σ.length + 1 := by
  unfold stepS
  split <;> simp
theorem metS_le (val : Nat → Str) : ∀ i, (metS val i).length ≤ i
  | 0 => Nat.le_refl _
  | i + 1 => by
    rw [metS_succ, stepS_len]
    have ih := metS_le val i
    split <;> omega
theorem stepS_any (σ : List Str) (v k : Str) : (stepS σ v).any (· == k) = (σ.any (· == k) || decide (k = v)) := by
  unfold stepS
  by_cases h : σ.any (· == v) = true
  · rw [if_pos h]
    by_cases e : k = v
    · subst e
      rw [h]
      simp
    · simp [e]
  · rw [if_neg h, List.any_append]
    by_cases e : k = v
    · subst e
      simp
    · have hb : (v == k) = false := by simpa [beq_iff_eq] using (fun h' : v = k => e h'.symm)
      simp [hb, e]
section
variable {prog : Program} {w : World} {A : Around} {R : Result → Shared → Prop} {I : Addr} {fp wr : List Addr} {G : Array GenState → Array GenState → Prop} {n : Nat} {P : Nat → Value → Prop} {St : Nat → Shared → Prop}
theorem loopS (W : WalksS prog w A.in1 I fp wr G n P St) (b0 : Addr) (hfp : b0 ∉ fp) (val : Nat → Str) (hval : ∀ i v, P i v → ∃ t, v = .str (val i) t) (hb : n + 1 < scanBound) :
    ∀ (k i : Nat) (s : Shared), n - i = k → i ≤ n → St i s → s.heap.SetOf (PySem.strKind prog w) b0 (fun k' => (metS val i).any (· == k')) (metS val i).length →
      (∀ s', Moved (b0 :: wr) G s s' → s'.heap.SetOf (PySem.strKind prog w) b0 (fun k' => (metS val n).any (· == k')) (metS val n).length → R (.ok (.ret .none)) s') →
      codeAny (model prog w) A (.builtin "set.update.loop" ⟨[.ref b0, .ref I], []⟩) R s := by
  have hwr : b0 ∉ wr := fun h => hfp (W.sub _ h)
  have sub : ∀ b ∈ wr, b ∈ b0 :: wr := fun b h => List.mem_cons_of_mem _ h
  intro k
  induction k with
  | zero =>
    intro i s hk hi hst hS hR
    have hin : i = n := by omega
    subst hin
    refine codeAny_builtin PyProof.Rows.F.entry_set_update_loop ?_
    rw [Around.under_plainId PyProof.Rows.F.plain_set_update_loop _]
    show wpAny _ A.in1 (pyNext (.ref I) >>= _) _ _ s
    refine wpAny_bind (W.done s _ _ hst fun s' hm => ?_)
    show wpAny _ A.in1 (ret Value.none) _ _ s'
    refine wpAny_pure (hR s' (hm.mono sub) ?_)
    obtain ⟨o, es, ep, t, ho, rest⟩ := hS
    exact ⟨o, es, ep, t, hm.heap b0 _ hwr ho, rest⟩
  | succ k ih =>
    intro i s hk hi hst hS hR
    have hlt : i < n := by omega
    refine codeAny_builtin PyProof.Rows.F.entry_set_update_loop ?_
    rw [Around.under_plainId PyProof.Rows.F.plain_set_update_loop _]
    show wpAny _ A.in1 (pyNext (.ref I) >>= _) _ _ s
    refine wpAny_bind (W.item i s _ _ hlt hst fun v s' hP hst' hm => ?_)
    obtain ⟨t, rfl⟩ := hval i v hP
    have hS1 : s'.heap.SetOf (PySem.strKind prog w) b0 (fun k' => (metS val i).any (· == k')) (metS val i).length := by
      obtain ⟨o, es, ep, tb, ho, rest⟩ := hS
      exact ⟨o, es, ep, tb, hm.heap b0 _ hwr ho, rest⟩
    show wpAny _ A.in1 (holding [Value.str (val i) t] (setAdd b0 (.str (val i) t)) >>= _) _ _ s'
    refine wpAny_bind (wpAny_holding ?_)
    unfold setAdd
    refine wpAny_holding ?_
    refine wpAny_bind ((PySem.strKind prog w).pyHash (k := val i) (strKind_is _ _ _ _) ?_)
    have room : (metS val i).length + 1 < scanBound := by
      have := metS_le val i
      omega
    refine wpAny_setAddHashed_of (knd := PySem.strKind prog w) (s := { s' with toks := s'.toks + 1 }) (strKind_is _ _ _ _) rfl hS1 room fun h' hsb hS2 => ?_
    have hSi : h'.SetOf (PySem.strKind prog w) b0 (fun k' => (metS val (i + 1)).any (· == k')) (metS val (i + 1)).length :=
      SetOf_congr hS2 (fun k' => by rw [metS_succ, stepS_any]) (by rw [metS_succ, stepS_len])
    refine wpAny_pure ⟨plainId_quiet PyProof.Rows.F.plain_set_update_loop _, ih (i + 1) _ (by omega) hlt (W.frame _ s' _ _ hst' (Nat.le_succ _) fun b hbf o e => ?_) hSi fun s2 hm2 hS2' => ?_⟩
    · rw [hsb.2 b (fun h : b = b0 => hfp (by rw [← h]; exact hbf))]
      exact e
    · refine hR s2 (Moved.trans W.gtrans ((hm.mono sub).then_heap (Nat.le_succ _) fun b o hbw e => ?_) hm2) hS2'
      rw [hsb.2 b (fun h : b = b0 => hbw (by rw [h]; exact List.mem_cons_self))]
      exact e
end
section
variable {prog : Program} {w : World} {A : Around} {E : Value → Shared → Prop} {s : Shared}
abbrev newSet (led : Bool) : Obj := { cls := .type "set", dict := none, data := .set #[] 0 (.fresh 0 0 led) }
set_option maxHeartbeats 6400000 in
theorem set_of_list {l : Addr} {items : Array Value} {val : Nat → Str} {Q : Value → Shared → Prop} (hh : A.handled = none) (hl : s.heap.IsList l items) (hi : ∀ (i : Nat) (v : Value), items[i]? = some v → ∃ t, v = .str (val i) t) (hb : items.size + 1 < scanBound)
    (h : ∀ (h' : Heap) (tk : Nat), h'.SetOf (PySem.strKind prog w) s.heap.objs.size (fun k' => (metS val items.size).any (· == k')) (metS val items.size).length →
      (∀ b o, b < s.heap.objs.size → s.heap.get? b = some o → h'.get? b = some o) → Q (.ref s.heap.objs.size) { s with heap := h', toks := tk }) :
    wpAny (model prog w) A (call (.type "set") [.ref l]) Q E s := by
  obtain ⟨c, tl, hmro⟩ := PySem.F.called_set.mro
  have hmade := PySem.F.called_set.made
  have hsub := PySem.F.called_set.sub
  refine wpAny_call (codeAny_of_tree ?_)
  show wpAny _ _ (callAny (.type "set") _) _ _ _
  refine wpAny_pure ⟨Code.quiet_builtin _ (by decide +kernel), codeAny_builtin PySem.F.entry_type_call ?_⟩
  rw [Around.under_plain (weight_type_call_type "set" [.ref l] []) rfl]
  have h1 := PySem.F.called_set.notType
  have h2 := PySem.F.called_set.canCreate
  have hct := PySem.F.typeCall_set_1 (.ref l)
  repeat (any_goals (first
    | assumption
    | wp_step))
  refine codeAny_mono (code_set_new_1 (.ref l) (E := E) (Q₁ := fun obj s₁ => ∃ led : Bool, obj = .ref s.heap.objs.size ∧ s₁ = { s with heap := s.heap.push (newSet led) }) fun led => ⟨led, rfl, rfl⟩) fun r s₁ hr => ?_
  cases r with
  | error e => exact hr
  | ok fl =>
    cases fl with
    | ret obj =>
      obtain ⟨led, rfl, rfl⟩ := hr
      have hS : (s.heap.push (newSet led)).get? s.heap.objs.size = some (newSet led) := Heap.get?_push_size _ rfl
      have hT : Shared.TypeIs { s with heap := s.heap.push (newSet led) } (.ref s.heap.objs.size) "set" := ⟨_, hS, rfl⟩
      have hli := PySem.F.called_set.init.lookup
      have hbi := PySem.F.called_set.init.bind (.ref s.heap.objs.size)
      repeat (any_goals (first
        | assumption
        | wp_step))
      refine codeAny_mono (codeAny_call_builtin (R := wants (fun r s₂ => r = .none ∧ ∃ h' tk, s₂ = { s with heap := h', toks := tk } ∧ h'.SetOf (PySem.strKind prog w) s.heap.objs.size (fun k' => (metS val items.size).any (· == k')) (metS val items.size).length ∧
          (∀ b o, b < s.heap.objs.size → s.heap.get? b = some o → h'.get? b = some o)) E) PySem.F.called_set.init.plain PySem.F.entry_set_init (check_set_init_1 hT ?_)) fun r₂ s₂ hr₂ => ?_
      · obtain ⟨ol, hol, hcl, nl, hdl⟩ := hl
        obtain ⟨ocls, odict, odata, oslots⟩ := ol
        simp only at hcl hdl
        subst hcl
        subst hdl
        have hol' : (s.heap.push (newSet led)).get? l = some { cls := .type "list", dict := odict, data := .seq items nl, slots := oslots } := Heap.get?_push_of_some _ hol
        have hsls := PySem.F.sub_list_set
        have hslf := PySem.F.sub_list_frozenset
        have hne : (Value.type "list" == Value.type "dict") = false := by decide
        have hl1 : (s.heap.push (newSet led)).IsList l items := ⟨_, hol', rfl, nl, rfl⟩
        unfold Builtin.«set.__init__» noKeywords Builtin.Frozenset.updateFrom
        generalize hPI : pyIter = PI
        wp_walk
        subst hPI
        refine wpAny_pyIter_list hl1 ?_
        refine wpAny_bind (wpAny_runValue ?_)
        have hlS : l < s.heap.objs.size := Heap.lt_size hol
        have hh3 : A.in1.in1.in1.handled = none := by simp [hh]
        have sz : (s.heap.push (newSet led)).objs.size = s.heap.objs.size + 1 := Heap.size_push _ _
        have hneI : l ≠ (s.heap.push (newSet led)).objs.size := by
          rw [sz]
          exact Nat.ne_of_lt (Nat.lt_succ_of_lt hlS)
        have hSf : s.heap.objs.size ∉ [(s.heap.push (newSet led)).objs.size, l] := by
          rw [sz]
          simp only [List.mem_cons, List.not_mem_nil, or_false, not_or]
          exact ⟨Nat.ne_of_lt (Nat.lt_succ_self _), Nat.ne_of_gt hlS⟩
        refine loopS ((Walks.list hh3 _ l hneI items).toS) s.heap.objs.size hSf val hi hb (items.size - 0) 0 _ (by omega) (Nat.zero_le _) ⟨⟨_, Heap.get?_push_size _ rfl, rfl, rfl⟩, (hl1.push _)⟩ ?hS0 ?hR
        case hS0 =>
          have hget : ((s.heap.push (newSet led)).push { cls := .type "list_iterator", data := .fields #[.ref l, .int 0 0] }).get? s.heap.objs.size = some (newSet led) := Heap.get?_push_of_some _ hS
          exact SetOf_congr ((setObjOf_fresh (knd := PySem.strKind prog w) led).setOf hget (by unfold scanBound; omega)) (fun _ => rfl) rfl
        case hR =>
          intro s' hm hS'
          obtain ⟨h', g', d', tk', os'⟩ := s'
          have eg : g' = s.gens := hm.gens
          have ed : d' = s.drawn := hm.drawn
          have eo : os' = s.os := hm.os
          subst eg
          subst ed
          subst eo
          show wpAny _ _ _ _ _ _
          refine wpAny_pure ?_
          show wpAny _ _ (ret Value.none) _ _ _
          refine wpAny_pure ⟨rfl, h', tk', rfl, hS', fun b o hbs e => ?_⟩
          refine hm.heap b o ?_ (Heap.get?_push_of_some _ (Heap.get?_push_of_some _ e))
          rw [sz]
          simp only [List.mem_cons, List.not_mem_nil, or_false, not_or]
          exact ⟨Nat.ne_of_lt hbs, Nat.ne_of_lt (Nat.lt_succ_of_lt hbs)⟩
      · cases r₂ with
        | error e => exact hr₂
        | ok fl₂ =>
          cases fl₂ with
          | ret r =>
            obtain ⟨rfl, h', tk, rfl, hS', hk'⟩ := hr₂
            repeat (any_goals (first
              | assumption
              | wp_step))
            exact h _ _ hS' hk'
          | _ => exact hr₂.elim
    | _ => exact hr.elim
end
end Ts

set_option Elab.async false
set_option linter.all false
set_option maxRecDepth 100000
set_option maxHeartbeats 4000000
namespace Ts
open PySem PySem.Spec PySem.Calls PyProof.Rows
section
variable {prog : Program} {w : World} {A : Around} {E : Value → Shared → Prop} {s : Shared}
set_option maxHeartbeats 6400000 in
theorem set_of_tuple {l : Addr} {items : Array Value} {val : Nat → Str} {Q : Value → Shared → Prop} (hh : A.handled = none) (hl : s.heap.IsTuple l items) (hi : ∀ (i : Nat) (v : Value), items[i]? = some v → ∃ t, v = .str (val i) t) (hb : items.size + 1 < scanBound)
    (h : ∀ (h' : Heap) (tk : Nat), h'.SetOf (PySem.strKind prog w) s.heap.objs.size (fun k' => (metS val items.size).any (· == k')) (metS val items.size).length →
      (∀ b o, b < s.heap.objs.size → s.heap.get? b = some o → h'.get? b = some o) → Q (.ref s.heap.objs.size) { s with heap := h', toks := tk }) :
    wpAny (model prog w) A (call (.type "set") [.ref l]) Q E s := by
  obtain ⟨c, tl, hmro⟩ := PySem.F.called_set.mro
  have hmade := PySem.F.called_set.made
  have hsub := PySem.F.called_set.sub
  refine wpAny_call (codeAny_of_tree ?_)
  show wpAny _ _ (callAny (.type "set") _) _ _ _
  refine wpAny_pure ⟨Code.quiet_builtin _ (by decide +kernel), codeAny_builtin PySem.F.entry_type_call ?_⟩
  rw [Around.under_plain (weight_type_call_type "set" [.ref l] []) rfl]
  have h1 := PySem.F.called_set.notType
  have h2 := PySem.F.called_set.canCreate
  have hct := PySem.F.typeCall_set_1 (.ref l)
  repeat (any_goals (first
    | assumption
    | wp_step))
  refine codeAny_mono (code_set_new_1 (.ref l) (E := E) (Q₁ := fun obj s₁ => ∃ led : Bool, obj = .ref s.heap.objs.size ∧ s₁ = { s with heap := s.heap.push (newSet led) }) fun led => ⟨led, rfl, rfl⟩) fun r s₁ hr => ?_
  cases r with
  | error e => exact hr
  | ok fl =>
    cases fl with
    | ret obj =>
      obtain ⟨led, rfl, rfl⟩ := hr
      have hS : (s.heap.push (newSet led)).get? s.heap.objs.size = some (newSet led) := Heap.get?_push_size _ rfl
      have hT : Shared.TypeIs { s with heap := s.heap.push (newSet led) } (.ref s.heap.objs.size) "set" := ⟨_, hS, rfl⟩
      have hli := PySem.F.called_set.init.lookup
      have hbi := PySem.F.called_set.init.bind (.ref s.heap.objs.size)
      repeat (any_goals (first
        | assumption
        | wp_step))
      refine codeAny_mono (codeAny_call_builtin (R := wants (fun r s₂ => r = .none ∧ ∃ h' tk, s₂ = { s with heap := h', toks := tk } ∧ h'.SetOf (PySem.strKind prog w) s.heap.objs.size (fun k' => (metS val items.size).any (· == k')) (metS val items.size).length ∧
          (∀ b o, b < s.heap.objs.size → s.heap.get? b = some o → h'.get? b = some o)) E) PySem.F.called_set.init.plain PySem.F.entry_set_init (check_set_init_1 hT ?_)) fun r₂ s₂ hr₂ => ?_
      · obtain ⟨ol, hol, hcl, nl, hdl⟩ := hl
        obtain ⟨ocls, odict, odata, oslots⟩ := ol
        simp only at hcl hdl
        subst hcl
        subst hdl
        have hol' : (s.heap.push (newSet led)).get? l = some { cls := .type "tuple", dict := odict, data := .seq items nl, slots := oslots } := Heap.get?_push_of_some _ hol
        have hsls := PySem.F.sub_tuple_set
        have hslf := PySem.F.sub_tuple_frozenset
        have hne : (Value.type "tuple" == Value.type "dict") = false := by decide
        have hl1 : (s.heap.push (newSet led)).IsTuple l items := ⟨_, hol', rfl, nl, rfl⟩
        unfold Builtin.«set.__init__» noKeywords Builtin.Frozenset.updateFrom
        generalize hPI : pyIter = PI
        wp_walk
        subst hPI
        refine wpAny_pyIter_tuple hl1 ?_
        refine wpAny_bind (wpAny_runValue ?_)
        have hlS : l < s.heap.objs.size := Heap.lt_size hol
        have hh3 : A.in1.in1.in1.handled = none := by simp [hh]
        have sz : (s.heap.push (newSet led)).objs.size = s.heap.objs.size + 1 := Heap.size_push _ _
        have hneI : l ≠ (s.heap.push (newSet led)).objs.size := by
          rw [sz]
          exact Nat.ne_of_lt (Nat.lt_succ_of_lt hlS)
        have hSf : s.heap.objs.size ∉ [(s.heap.push (newSet led)).objs.size, l] := by
          rw [sz]
          simp only [List.mem_cons, List.not_mem_nil, or_false, not_or]
          exact ⟨Nat.ne_of_lt (Nat.lt_succ_self _), Nat.ne_of_gt hlS⟩
        refine loopS ((Walks.tuple hh3 _ l hneI items).toS) s.heap.objs.size hSf val hi hb (items.size - 0) 0 _ (by omega) (Nat.zero_le _) ⟨⟨_, Heap.get?_push_size _ rfl, rfl, rfl⟩, (hl1.push _)⟩ ?hS0 ?hR
        case hS0 =>
          have hget : ((s.heap.push (newSet led)).push { cls := .type "tuple_iterator", data := .fields #[.ref l, .int 0 0] }).get? s.heap.objs.size = some (newSet led) := Heap.get?_push_of_some _ hS
          exact SetOf_congr ((setObjOf_fresh (knd := PySem.strKind prog w) led).setOf hget (by unfold scanBound; omega)) (fun _ => rfl) rfl
        case hR =>
          intro s' hm hS'
          obtain ⟨h', g', d', tk', os'⟩ := s'
          have eg : g' = s.gens := hm.gens
          have ed : d' = s.drawn := hm.drawn
          have eo : os' = s.os := hm.os
          subst eg
          subst ed
          subst eo
          show wpAny _ _ _ _ _ _
          refine wpAny_pure ?_
          show wpAny _ _ (ret Value.none) _ _ _
          refine wpAny_pure ⟨rfl, h', tk', rfl, hS', fun b o hbs e => ?_⟩
          refine hm.heap b o ?_ (Heap.get?_push_of_some _ (Heap.get?_push_of_some _ e))
          rw [sz]
          simp only [List.mem_cons, List.not_mem_nil, or_false, not_or]
          exact ⟨Nat.ne_of_lt hbs, Nat.ne_of_lt (Nat.lt_succ_of_lt hbs)⟩
      · cases r₂ with
        | error e => exact hr₂
        | ok fl₂ =>
          cases fl₂ with
          | ret r =>
            obtain ⟨rfl, h', tk, rfl, hS', hk'⟩ := hr₂
            repeat (any_goals (first
              | assumption
              | wp_step))
            exact h _ _ hS' hk'
          | _ => exact hr₂.elim
    | _ => exact hr.elim
end
end Ts

set_option Elab.async false
set_option linter.all false
set_option maxRecDepth 100000
set_option maxHeartbeats 4000000
namespace Ts
open PySem PySem.Spec PySem.Calls PyProof.Rows
section
variable {prog : Program} {w : World} {A : Around} {E : Value → Shared → Prop} {s : Shared}
set_option maxHeartbeats 6400000 in
theorem set_of_str {x : Str} {u : Tok} {val : Nat → Str} {Q : Value → Shared → Prop} (hh : A.handled = none) (hi : ∀ (i : Nat) (v : Value), SignAt x i v → ∃ t, v = .str (val i) t) (hb : x.cps.size + 1 < scanBound)
    (h : ∀ (h' : Heap) (tk : Nat), h'.SetOf (PySem.strKind prog w) s.heap.objs.size (fun k' => (metS val x.cps.size).any (· == k')) (metS val x.cps.size).length →
      (∀ b o, b < s.heap.objs.size → s.heap.get? b = some o → h'.get? b = some o) → Q (.ref s.heap.objs.size) { s with heap := h', toks := tk }) :
    wpAny (model prog w) A (call (.type "set") [.str x u]) Q E s := by
  obtain ⟨c, tl, hmro⟩ := PySem.F.called_set.mro
  have hmade := PySem.F.called_set.made
  have hsub := PySem.F.called_set.sub
  refine wpAny_call (codeAny_of_tree ?_)
  show wpAny _ _ (callAny (.type "set") _) _ _ _
  refine wpAny_pure ⟨Code.quiet_builtin _ (by decide +kernel), codeAny_builtin PySem.F.entry_type_call ?_⟩
  rw [Around.under_plain (weight_type_call_type "set" [.str x u] []) rfl]
  have h1 := PySem.F.called_set.notType
  have h2 := PySem.F.called_set.canCreate
  have hct := PySem.F.typeCall_set_1 (.str x u)
  repeat (any_goals (first
    | assumption
    | wp_step))
  refine codeAny_mono (code_set_new_1 (.str x u) (E := E) (Q₁ := fun obj s₁ => ∃ led : Bool, obj = .ref s.heap.objs.size ∧ s₁ = { s with heap := s.heap.push (newSet led) }) fun led => ⟨led, rfl, rfl⟩) fun r s₁ hr => ?_
  cases r with
  | error e => exact hr
  | ok fl =>
    cases fl with
    | ret obj =>
      obtain ⟨led, rfl, rfl⟩ := hr
      have hS : (s.heap.push (newSet led)).get? s.heap.objs.size = some (newSet led) := Heap.get?_push_size _ rfl
      have hT : Shared.TypeIs { s with heap := s.heap.push (newSet led) } (.ref s.heap.objs.size) "set" := ⟨_, hS, rfl⟩
      have hli := PySem.F.called_set.init.lookup
      have hbi := PySem.F.called_set.init.bind (.ref s.heap.objs.size)
      repeat (any_goals (first
        | assumption
        | wp_step))
      refine codeAny_mono (codeAny_call_builtin (R := wants (fun r s₂ => r = .none ∧ ∃ h' tk, s₂ = { s with heap := h', toks := tk } ∧ h'.SetOf (PySem.strKind prog w) s.heap.objs.size (fun k' => (metS val x.cps.size).any (· == k')) (metS val x.cps.size).length ∧
          (∀ b o, b < s.heap.objs.size → s.heap.get? b = some o → h'.get? b = some o)) E) PySem.F.called_set.init.plain PySem.F.entry_set_init (check_set_init_1 hT ?_)) fun r₂ s₂ hr₂ => ?_
      · have hsls := PySem.F.sub_str_set
        have hslf := PySem.F.sub_str_frozenset
        have hne : (Value.type "str" == Value.type "dict") = false := by decide
        unfold Builtin.«set.__init__» noKeywords Builtin.Frozenset.updateFrom
        generalize hPI : pyIter = PI
        wp_walk
        subst hPI
        refine wpAny_pyIter_str fun oI StI hW hst => ?_
        refine wpAny_bind (wpAny_runValue ?_)
        have hh3 : A.in1.in1.in1.handled = none := by simp [hh]
        have sz : (s.heap.push (newSet led)).objs.size = s.heap.objs.size + 1 := Heap.size_push _ _
        have hSf : s.heap.objs.size ∉ [(s.heap.push (newSet led)).objs.size] := by
          rw [sz]
          simp only [List.mem_cons, List.not_mem_nil, or_false]
          exact Nat.ne_of_lt (Nat.lt_succ_self _)
        refine loopS ((hW _ hh3).toS) s.heap.objs.size hSf val hi hb (x.cps.size - 0) 0 _ (by omega) (Nat.zero_le _) hst ?hS0 ?hR
        case hS0 =>
          have hget : ((s.heap.push (newSet led)).push oI).get? s.heap.objs.size = some (newSet led) := Heap.get?_push_of_some _ hS
          exact SetOf_congr ((setObjOf_fresh (knd := PySem.strKind prog w) led).setOf hget (by unfold scanBound; omega)) (fun _ => rfl) rfl
        case hR =>
          intro s' hm hS'
          obtain ⟨h', g', d', tk', os'⟩ := s'
          have eg : g' = s.gens := hm.gens
          have ed : d' = s.drawn := hm.drawn
          have eo : os' = s.os := hm.os
          subst eg
          subst ed
          subst eo
          show wpAny _ _ _ _ _ _
          refine wpAny_pure ?_
          show wpAny _ _ (ret Value.none) _ _ _
          refine wpAny_pure ⟨rfl, h', tk', rfl, hS', fun b o hbs e => ?_⟩
          refine hm.heap b o ?_ (Heap.get?_push_of_some _ (Heap.get?_push_of_some _ e))
          rw [sz]
          simp only [List.mem_cons, List.not_mem_nil, or_false, not_or]
          exact ⟨Nat.ne_of_lt hbs, Nat.ne_of_lt (Nat.lt_succ_of_lt hbs)⟩
      · cases r₂ with
        | error e => exact hr₂
        | ok fl₂ =>
          cases fl₂ with
          | ret r =>
            obtain ⟨rfl, h', tk, rfl, hS', hk'⟩ := hr₂
            repeat (any_goals (first
              | assumption
              | wp_step))
            exact h _ _ hS' hk'
          | _ => exact hr₂.elim
    | _ => exact hr.elim
end
end Ts

set_option Elab.async false
set_option linter.all false
set_option maxRecDepth 100000
set_option maxHeartbeats 4000000
namespace Tb
open PySem PySem.Spec PyProof.Rows L2 TL
def dedS (xs : List Str) : List Str := xs.foldl Ts.stepS []
theorem metS_list (xs : List Str) : Ts.metS (fun i => xs.getD i Str.empty) xs.length = dedS xs := by
  unfold Ts.metS dedS
  have e : (List.range xs.length).map (fun i => xs.getD i Str.empty) = xs := by
    refine List.ext_getElem (by simp) fun i h1 h2 => ?_
    rw [List.getElem_map, List.getElem_range, List.getD_eq_getElem?_getD, List.getElem?_eq_getElem h2]
    rfl
  rw [e]
/-- len(set(a)), a a list or a tuple of texts, or a text -/
def tLenSetS (K : PySem.W.Frag) (ta : TE) : TE := fun σ H Q => ta σ H fun x H1 =>
  (∃ l, ∃ xs : List Str, x = .ref l ∧ (SqL K H1 l (xs.map V.str) ∨ SqT K H1 l (xs.map V.str)) ∧ xs.length ≤ 1000 ∧ Q (num (dedS xs).length) H1) ∨
  (∃ cs : List Nat, x = .str (S cs) ∧ cs.length ≤ 1000 ∧ Q (num (dedS (cs.map fun c => S [c])).length) H1)
section
variable {X : Cx}
theorem pe_lenSetS {a : Expr} {ta : TE} {p p2 q pos : Pos} (hc : X.calm = true) (hg : Gl X "len") (hm : X.mg "len" = none) (hg2 : Gl X "set") (hm2 : X.mg "set" = none) (ha : PE X a ta)
    (na : starEach [a] X.env = (false, eval a X.env) :: starEach [] X.env := by rfl) : PE X (.Call (.Name "len" p) [.Call (.Name "set" p2) [a] [] q] [] pos) (tLenSetS X.K ta) := by
  refine ⟨fun pins s σ H Q I h => ?_⟩
  refine Call_ (ld_blt I hg hm boot_len ?_)
  refine PyProof.Rows.callWith_builtin1 (PyProof.Rows.args_cons ?_ rfl) rfl rfl
  refine Call_ (ld_blt I hg2 hm2 boot_set ?_)
  refine PyProof.Rows.callWith_type1 (PyProof.Rows.args_cons (thn (ha.run pins s σ H _ I h) fun v s1 ⟨x, H1, I1, r1, q1⟩ => PyProof.Rows.args_nil ?_) na) na rfl
  have scan : (1002 : Nat) < scanBound := by unfold scanBound; decide
  have fin : ∀ (xs : List Str), xs.length ≤ 1000 → Q (num (dedS xs).length) H1 → ∀ (h' : Heap) (tk : Nat), h'.SetOf (PySem.strKind X.prog X.w) s1.heap.objs.size (fun k' => (Ts.metS (fun i => xs.getD i Str.empty) xs.length).any (· == k')) (Ts.metS (fun i => xs.getD i Str.empty) xs.length).length →
      (∀ b o, b < s1.heap.objs.size → s1.heap.get? b = some o → h'.get? b = some o) →
      wpAny (model X.prog X.w) X.A (spliced (backTo pos (starEach [] X.env))) (fun vs s₂ => wpAny (model X.prog X.w) X.A (call (.builtin "len") (Value.ref s1.heap.objs.size :: vs)) (EP X pins σ Q) X.xe s₂) X.xe { s1 with heap := h', toks := tk } := fun xs hl q h' tk hS hk => by
    refine PyProof.Rows.args_nil ?_
    rw [metS_list] at hS
    have hle : (dedS xs).length ≤ xs.length := by
      rw [← metS_list]
      exact Ts.metS_le _ _
    obtain ⟨o, es, ep, t, ho, hex, hd, _, _, _, hf, hn⟩ := hS
    have I2 : Inv X pins σ H1 { s1 with heap := h', toks := tk } := I1.kept fun b o e => hk b o (Heap.lt_size e) e
    exact call_len_set ho hex hd hf (by rw [hn]; omega) ⟨.int (dedS xs).length, H1, I2.tok _, ⟨_, by rw [hn]⟩, q⟩
  have strAt : ∀ (xs : List Str) (its : List Value), Vals (xs.map V.str) its → ∀ (i : Nat) (v : Value), its.toArray[i]? = some v → ∃ t, v = .str (xs.getD i Str.empty) t := by
    intro xs its r i v hv
    rw [List.getElem?_toArray] at hv
    have hlt : i < xs.length := by
      have h1 := (List.getElem?_eq_some_iff.mp hv).1
      rw [← r.length, List.length_map] at h1
      exact h1
    obtain ⟨u, hu, ru⟩ := r.get (i := i) (x := V.str xs[i]) (by rw [List.getElem?_map, List.getElem?_eq_getElem hlt]; rfl)
    rw [hv] at hu
    cases hu
    obtain ⟨t, e⟩ := ru
    exact ⟨t, by rw [e, List.getD_eq_getElem?_getD, List.getElem?_eq_getElem hlt]; rfl⟩
  rcases q1 with ⟨l, xs, rfl, hq, hl, q1⟩ | ⟨cs, rfl, hl, q1⟩
  · cases r1
    rcases hq with hq | hq
    · obtain ⟨its, r, pl, hz⟩ := I1.list hq
      have sz : its.toArray.size = xs.length := by rw [List.size_toArray, ← r.length, List.length_map]
      exact Ts.set_of_list (val := fun i => xs.getD i Str.empty) (I1.ok.hd hc) pl.isList (strAt xs its r) (by omega) fun h' tk hS hk => fin xs hl q1 h' tk (by rw [sz] at hS; exact hS) hk
    · obtain ⟨its, r, pl, hz⟩ := I1.tuple hq
      have sz : its.toArray.size = xs.length := by rw [List.size_toArray, ← r.length, List.length_map]
      exact Ts.set_of_tuple (val := fun i => xs.getD i Str.empty) (I1.ok.hd hc) pl (strAt xs its r) (by omega) fun h' tk hS hk => fin xs hl q1 h' tk (by rw [sz] at hS; exact hS) hk
  · obtain ⟨t, rfl⟩ := r1
    have sz : (S cs).cps.size = (cs.map fun c => S [c]).length := by
      rw [List.length_map]
      rfl
    refine Ts.set_of_str (val := fun i => (cs.map fun c => S [c]).getD i Str.empty) (I1.ok.hd hc) (fun i v ⟨c, u, hcv, e⟩ => ⟨u, ?_⟩) (by rw [sz, List.length_map]; omega) fun h' tk hS hk => fin (cs.map fun c => S [c]) (by rw [List.length_map]; exact hl) q1 h' tk (by rw [sz] at hS; exact hS) hk
    have hc' : cs[i]? = some c := by
      rw [show (S cs).cps = cs.toArray from rfl, List.getElem?_toArray] at hcv
      exact hcv
    rw [e, List.getD_eq_getElem?_getD, List.getElem?_map, hc']
    rfl
end
/-! ### are they different -/
theorem dedS_nodup : ∀ (xs acc : List Str), (acc ++ xs).Nodup → xs.foldl Ts.stepS acc = acc ++ xs
  | [], acc, _ => (List.append_nil acc).symm
  | x :: r, acc, nd => by
    have hno : x ∉ acc := fun z => by
      rw [List.nodup_append] at nd
      exact nd.2.2 x z x List.mem_cons_self rfl
    have e : Ts.stepS acc x = acc ++ [x] := by
      unfold Ts.stepS
      rw [if_neg]
      intro z
      obtain ⟨y, hy, e⟩ := List.any_eq_true.mp z
      rw [beq_iff_eq.mp e] at hy
      exact hno hy
    rw [List.foldl_cons, e, dedS_nodup r (acc ++ [x]) (by rw [List.append_assoc]; exact nd), List.append_assoc]
    rfl
theorem dedS_len {xs : List Str} (nd : xs.Nodup) : (dedS xs).length = xs.length := by
  unfold dedS
  rw [dedS_nodup xs [] nd]
  rfl
theorem dedS_grow : ∀ (xs acc : List Str), (xs.foldl Ts.stepS acc).length ≤ acc.length + xs.length
  | [], acc => Nat.le_refl _
  | x :: r, acc => by
    rw [List.foldl_cons, List.length_cons]
    have h1 := dedS_grow r (Ts.stepS acc x)
    have h2 := Ts.stepS_len acc x
    split at h2 <;> omega
theorem stepS_mem {acc : List Str} {x y : Str} (h : y ∈ acc) : y ∈ Ts.stepS acc x := by
  unfold Ts.stepS
  split
  · exact h
  · exact List.mem_append_left _ h
theorem dedS_less : ∀ (xs acc : List Str), ((∃ x ∈ xs, x ∈ acc) ∨ ¬ xs.Nodup) → (xs.foldl Ts.stepS acc).length < acc.length + xs.length
  | [], acc, h => by
    rcases h with ⟨x, hx, _⟩ | h
    · exact (nomatch hx)
    · exact absurd List.nodup_nil h
  | x :: r, acc, h => by
    rw [List.foldl_cons, List.length_cons]
    have h2 := Ts.stepS_len acc x
    by_cases hx : acc.any (· == x) = true
    · rw [if_pos hx] at h2
      have h1 := dedS_grow r (Ts.stepS acc x)
      omega
    · rw [if_neg hx] at h2
      have hxn : x ∉ acc := fun z => hx (List.any_eq_true.mpr ⟨x, z, beq_self_eq_true x⟩)
      have h1 : (∃ y ∈ r, y ∈ Ts.stepS acc x) ∨ ¬ r.Nodup := by
        rcases h with ⟨y, hy, hya⟩ | h
        · rcases List.mem_cons.mp hy with e | e
          · rw [e] at hya
            exact absurd hya hxn
          · exact .inl ⟨y, e, stepS_mem hya⟩
        · by_cases hr : r.Nodup
          · refine .inl ⟨x, Classical.byContradiction fun z => h (List.nodup_cons.mpr ⟨z, hr⟩), ?_⟩
            unfold Ts.stepS
            rw [if_neg hx]
            exact List.mem_append_right _ List.mem_cons_self
          · exact .inr hr
      have h3 := dedS_less r _ h1
      omega
theorem dedS_iff (xs : List Str) : (dedS xs).length = xs.length ↔ xs.Nodup := by
  constructor
  · intro h
    refine Classical.byContradiction fun z => ?_
    have h1 := dedS_less xs [] (.inr z)
    unfold dedS at h
    simp at h1
    omega
  · exact dedS_len
end Tb

set_option Elab.async false
set_option linter.all false
set_option maxRecDepth 100000
set_option maxHeartbeats 2000000
namespace Tb
open PySem PySem.Spec PyProof.Rows L2 TL
/-! ### list(text) -/
def rListStr : List V → Hp → VK → Prop := fun xs H Q => ∃ cs : List Nat, xs = [.str (S cs)] ∧ cs.length ≤ 1000 ∧ New H (.lst (sgs cs)) Q
theorem vals_signs : ∀ (cs : List Nat) (us : List Value), us.length = cs.length → (∀ (j : Nat) v, us[j]? = some v → ∃ c t, cs[j]? = some c ∧ v = .str (S [c]) t) → Vals (sgs cs) us
  | [], [], _, _ => .nil
  | c :: cs, u :: us, hl, h => by
    obtain ⟨c', t, e, hu⟩ := h 0 u rfl
    cases e
    exact .cons ⟨t, hu⟩ (vals_signs cs us (Nat.succ.inj hl) fun j v hv => h (j + 1) v hv)
theorem call_listStr {X : Cx} (hc : X.calm = true) : CallR X (.type "list") rListStr := by
  intro pins s σ H xs us Q I r h
  obtain ⟨cs, rfl, hl, q⟩ := h
  obtain ⟨u, rfl, t, rfl⟩ := vals1 r
  have sz : (S cs).cps.size = cs.length := rfl
  have line : (1000 : Nat) ≤ sizeLine := by decide
  refine PySem.call_list_str (I.ok.hd hc) (S cs) t (hn := by rw [sz]; omega) fun h' tk acc c' k hS hacc => ?_
  have hv : Vals (sgs cs) acc.toList := vals_signs cs acc.toList (by rw [Array.length_toList, hacc.1, sz]) fun j v hv => by
    obtain ⟨c, u, e1, e2⟩ := hacc.2 j v (by simpa using hv)
    refine ⟨c, u, ?_, e2⟩
    rw [show (S cs).cps = cs.toArray from rfl, List.getElem?_toArray] at e1
    exact e1
  have hz : (sgs cs).length ≤ sizeLine := by
    unfold sgs
    rw [List.length_map]
    omega
  exact ⟨.ref s.heap.objs.size, _, I.laid (t' := tk) k (Nat.le_refl _) (show ObjOk X.prog X.w _ h' _ (.lst (sgs cs)) from ⟨hz, acc.toList, c', hv, by simpa using hS⟩), rfl, q.at _ (I.hok.fresh (Nat.le_refl _))⟩
/-! ### the parts of a program -/
structure Mv where
  pl : List Nat
  lt : Nat
  to : List Nat
  fl : Fil
structure Pt where
  letters : List Nat
  boxes : List Nat
  places : List (List Nat)
  moves : List Mv
  ends : Fil
def Mv.key (m : Mv) : List Key := [Sum.inr (S m.pl), Sum.inr (S [m.lt])]
/-- what stands under a key of the moves -/
def MvAt (H : Hp) (kv : List Key × V) (m : Mv) : Prop := kv.1 = m.key ∧ ∃ t d, kv.2 = .ref t ∧ H t = some (.tup [.str (S m.to), .ref d]) ∧ H d = some (.dK (fkv m.fl))
structure PtAt (H : Hp) (L : Addr) (pt : Pt) : Prop where
  ex : ∃ tp tm te kvs, H L = some (.lst [.str (S pt.letters), .str (S pt.boxes), .ref tp, .ref tm, .ref te]) ∧ H tp = some (.lst (txs pt.places)) ∧ H tm = some (.dT kvs) ∧ Paired (MvAt H) kvs pt.moves ∧ H te = some (.dK (fkv pt.ends))
theorem MvAt.same {H H' : Hp} (s : Same H H') {kv : List Key × V} {m : Mv} (h : MvAt H kv m) : MvAt H' kv m := by
  obtain ⟨e, t, d, h1, h2, h3⟩ := h
  exact ⟨e, t, d, h1, s _ _ h2, s _ _ h3⟩
theorem MvAt.but {H H' : Hp} {p : Addr} {n : Nat} (hp : Src H p n) (s : But p H H') {kv : List Key × V} {m : Mv} (h : MvAt H kv m) : MvAt H' kv m := by
  obtain ⟨e, t, d, h1, h2, h3⟩ := h
  obtain ⟨o, ho, g, sd, c, rfl, _⟩ := hp
  exact ⟨e, t, d, h1, s _ _ h2 (ne_of h2 ho (by intro z; cases z)), s _ _ h3 (ne_of h3 ho (by intro z; cases z))⟩
theorem PtAt.same {H H' : Hp} (s : Same H H') {L : Addr} {pt : Pt} (h : PtAt H L pt) : PtAt H' L pt := by
  obtain ⟨tp, tm, te, kvs, h1, h2, h3, h4, h5⟩ := h.ex
  exact ⟨tp, tm, te, kvs, s _ _ h1, s _ _ h2, s _ _ h3, Paired.mono (fun _ _ z => z.same s) h4, s _ _ h5⟩
/-- drawn fillings: each sign is a lower letter or a box, no box stands twice -/
structure FilOk (boxes : List Nat) (fs : List (List Nat)) : Prop where
  sg : ∀ f ∈ fs, ∀ c ∈ f, (97 ≤ c ∧ c ≤ 122) ∨ c ∈ boxes
  one : ∀ b ∈ boxes, fs.flatten.count b ≤ 1
  len : fs.flatten.length ≤ 100
structure GoodP (pt : Pt) : Prop where
  l1 : 1 ≤ pt.letters.length
  l5 : pt.letters.length ≤ 5
  ll : ∀ c ∈ pt.letters, 97 ≤ c ∧ c ≤ 122
  ln : pt.letters.Nodup
  b6 : pt.boxes.length ≤ 6
  bb : ∀ c ∈ pt.boxes, 65 ≤ c ∧ c ≤ 90
  bn : pt.boxes.Nodup
  p1 : 1 ≤ pt.places.length
  p8 : pt.places.length ≤ 8
  pn : pt.places.Nodup
  pp : ∀ x ∈ pt.places, NameL x
  ky : (pt.moves.map fun m => (m.pl, m.lt)).Nodup
  mv : ∀ m ∈ pt.moves, m.pl ∈ pt.places ∧ m.lt ∈ pt.letters ∧ m.to ∈ pt.places ∧ m.fl.map (·.1) = pt.boxes.map (fun b => [b]) ∧ FilOk pt.boxes (m.fl.map (·.2))
  ek : (pt.ends.map (·.1)).Nodup
  en : ∀ q ∈ pt.ends, q.1 ∈ pt.places ∧ FilOk pt.boxes [q.2]
theorem putK_end {κ : Type} [DecidableEq κ] {kvs : List (κ × V)} {k : κ} (v : V) (h : k ∉ kvs.map (·.1)) : putK kvs k v = kvs ++ [(k, v)] := by
  unfold putK
  rw [if_neg]
  intro z
  obtain ⟨u, hu, e⟩ := List.any_eq_true.mp z
  exact h (List.mem_map.mpr ⟨u, hu, of_decide_eq_true e⟩)
theorem keys_of {H : Hp} : ∀ {kvs : List (List Key × V)} {ms : List Mv}, Paired (MvAt H) kvs ms → kvs.map (·.1) = ms.map Mv.key
  | _, _, .nil => rfl
  | _, _, .cons h t => by
    rw [List.map_cons, List.map_cons, h.1, keys_of t]
theorem key_inj {m : Mv} {pl : List Nat} {c : Nat} (h : m.key = [Sum.inr (S pl), Sum.inr (S [c])]) : m.pl = pl ∧ m.lt = c := by
  injection h with h1 h2
  injection h2 with h3 _
  have e := key_S.mp h3
  injection e with e1 _
  exact ⟨key_S.mp h1, e1⟩
def xyz : List Nat := [88, 89, 90, 65, 66, 80, 81]
theorem xyz_str : Str.ofString "XYZABPQ" = S xyz := by decide +kernel
def outs : List (List Nat) := [[97, 98], [97, 122], [97, 98, 99], [120]]
theorem outs_str : txs outs = [.str (Str.ofString "ab"), .str (Str.ofString "az"), .str (Str.ofString "abc"), .str (Str.ofString "x")] := by
  have h1 : Str.ofString "ab" = S [97, 98] := by decide +kernel
  have h2 : Str.ofString "az" = S [97, 122] := by decide +kernel
  have h3 : Str.ofString "abc" = S [97, 98, 99] := by decide +kernel
  have h4 : Str.ofString "x" = S [120] := by decide +kernel
  rw [h1, h2, h3, h4]
  rfl
theorem outs_ok {o : List Nat} (h : o ∈ outs) : 0 < o.length ∧ o.length ≤ 3 ∧ ∀ c ∈ o, 97 ≤ c ∧ c ≤ 122 := by
  have h' : ∀ o ∈ outs, 0 < o.length ∧ o.length ≤ 3 ∧ (o.all fun c => decide (97 ≤ c ∧ c ≤ 122)) = true := by decide
  obtain ⟨a, b, c⟩ := h' o h
  exact ⟨a, b, fun x hx => of_decide_eq_true (List.all_eq_true.mp c x hx)⟩
theorem end_str : Str.ofString "end" = S [101, 110, 100] := by decide +kernel
def MvOk (boxes letters : List Nat) (places : List (List Nat)) (m : Mv) : Prop := m.pl ∈ places ∧ m.lt ∈ letters ∧ m.to ∈ places ∧ m.fl.map (·.1) = boxes.map (fun b => [b]) ∧ FilOk boxes (m.fl.map (·.2))
structure MsOk (boxes letters : List Nat) (places done : List (List Nat)) (cur : List Nat) (sofar : List Nat) (ms : List Mv) : Prop where
  nd : (ms.map fun m => (m.pl, m.lt)).Nodup
  ok : ∀ m ∈ ms, MvOk boxes letters places m
  wh : ∀ m ∈ ms, m.pl ∈ done ∨ (m.pl = cur ∧ m.lt ∈ sofar)
structure EsOk (boxes : List Nat) (places done : List (List Nat)) (es : Fil) : Prop where
  nd : (es.map (·.1)).Nodup
  ok : ∀ q ∈ es, q.1 ∈ places ∧ FilOk boxes [q.2]
  wh : ∀ q ∈ es, q.1 ∈ done
/-- a move, its fillings apart from te -/
def MvX (te : Addr) (H : Hp) (kv : List Key × V) (m : Mv) : Prop := kv.1 = m.key ∧ ∃ t d, kv.2 = .ref t ∧ H t = some (.tup [.str (S m.to), .ref d]) ∧ H d = some (.dK (fkv m.fl)) ∧ d ≠ te
theorem MvX.at {te : Addr} {H : Hp} {kv : List Key × V} {m : Mv} (h : MvX te H kv m) : MvAt H kv m := by
  obtain ⟨e, t, d, a, b, c, _⟩ := h
  exact ⟨e, t, d, a, b, c⟩
/-- what the drawing of a program holds meanwhile -/
structure PgAt (H : Hp) (tb tpl tm te : Addr) (boxes : List Nat) (places : List (List Nat)) (ms : List Mv) (es : Fil) : Prop where
  b : H tb = some (.lst (sgs boxes))
  pl : H tpl = some (.lst (txs places))
  m : ∃ kvs, H tm = some (.dT kvs) ∧ Paired (MvX te H) kvs ms
  e : H te = some (.dK (fkv es))
theorem PgAt.same {H H' : Hp} {tb tpl tm te : Addr} {boxes : List Nat} {places : List (List Nat)} {ms : List Mv} {es : Fil} (G : PgAt H tb tpl tm te boxes places ms es) (s : Same H H') : PgAt H' tb tpl tm te boxes places ms es := by
  obtain ⟨kvs, h1, h2⟩ := G.m
  refine ⟨s _ _ G.b, s _ _ G.pl, ⟨kvs, s _ _ h1, Paired.mono (fun _ _ z => ?_) h2⟩, s _ _ G.e⟩
  obtain ⟨e, t, d, a, b, c, n⟩ := z
  exact ⟨e, t, d, a, s _ _ b, s _ _ c, n⟩
theorem PgAt.but {H H' : Hp} {p tb tpl tm te : Addr} {n : Nat} {boxes : List Nat} {places : List (List Nat)} {ms : List Mv} {es : Fil} (G : PgAt H tb tpl tm te boxes places ms es) (hp : Src H p n) (n1 : tb ≠ p) (n2 : tpl ≠ p) (s : But p H H') : PgAt H' tb tpl tm te boxes places ms es := by
  obtain ⟨kvs, h1, h2⟩ := G.m
  obtain ⟨o, ho, g, sd, c, rfl, _⟩ := id hp
  refine ⟨s _ _ G.b n1, s _ _ G.pl n2, ⟨kvs, s _ _ h1 (ne_of h1 ho (by intro z; cases z)), Paired.mono (fun _ _ z => ?_) h2⟩, s _ _ G.e (ne_of G.e ho (by intro z; cases z))⟩
  obtain ⟨e, t, d, a, b, c, n⟩ := z
  exact ⟨e, t, d, a, s _ _ b (ne_of b ho (by intro z; cases z)), s _ _ c (ne_of c ho (by intro z; cases z)), n⟩
/-- a move more -/
theorem PgAt.put {H : Hp} {tb tpl tm te t d : Addr} {boxes : List Nat} {places : List (List Nat)} {ms : List Mv} {es : Fil} {kvs : List (List Key × V)} (G : PgAt H tb tpl tm te boxes places ms es) (h1 : H tm = some (.dT kvs)) (h2 : Paired (MvX te H) kvs ms) (m : Mv) (hk : m.key ∉ kvs.map (·.1))
    (ht : H t = some (.tup [.str (S m.to), .ref d])) (hd : H d = some (.dK (fkv m.fl))) (nd : d ≠ te) : PgAt (upd H tm (.dT (putK kvs m.key (.ref t)))) tb tpl tm te boxes places (ms ++ [m]) es := by
  refine ⟨by rw [upd_ne (ne_of G.b h1 (by intro z; cases z))]; exact G.b, by rw [upd_ne (ne_of G.pl h1 (by intro z; cases z))]; exact G.pl, ⟨_, upd_same, ?_⟩, by rw [upd_ne (ne_of G.e h1 (by intro z; cases z))]; exact G.e⟩
  rw [putK_end _ hk]
  refine (Paired.mono (fun kv m' z => ?_) h2).snoc ?_
  · obtain ⟨e, t', d', a, b, c, n⟩ := z
    exact ⟨e, t', d', a, by rw [upd_ne (ne_of b h1 (by intro z; cases z))]; exact b, by rw [upd_ne (ne_of c h1 (by intro z; cases z))]; exact c, n⟩
  · exact ⟨rfl, t, d, rfl, by rw [upd_ne (ne_of ht h1 (by intro z; cases z))]; exact ht, by rw [upd_ne (ne_of hd h1 (by intro z; cases z))]; exact hd, nd⟩
/-- an end more -/
theorem PgAt.pute {H : Hp} {tb tpl tm te : Addr} {boxes : List Nat} {places : List (List Nat)} {ms : List Mv} {es es2 : Fil} (G : PgAt H tb tpl tm te boxes places ms es) : PgAt (upd H te (.dK (fkv es2))) tb tpl tm te boxes places ms es2 := by
  obtain ⟨kvs, h1, h2⟩ := G.m
  refine ⟨by rw [upd_ne (ne_of G.b G.e (by intro z; cases z))]; exact G.b, by rw [upd_ne (ne_of G.pl G.e (by intro z; cases z))]; exact G.pl, ⟨kvs, by rw [upd_ne (ne_of h1 G.e (by intro z; cases z))]; exact h1, Paired.mono (fun _ _ z => ?_) h2⟩, upd_same⟩
  obtain ⟨e, t, d, a, b, c, n⟩ := z
  exact ⟨e, t, d, a, by rw [upd_ne (ne_of b G.e (by intro z; cases z))]; exact b, by rw [upd_ne n]; exact c, n⟩
theorem keysX {te : Addr} {H : Hp} : ∀ {kvs : List (List Key × V)} {ms : List Mv}, Paired (MvX te H) kvs ms → kvs.map (·.1) = ms.map Mv.key
  | _, _, .nil => rfl
  | _, _, .cons h t => by
    rw [List.map_cons, List.map_cons, h.1, keysX t]
theorem fil_of {out boxes : List Nat} {hf : Fil} (F : FillOk out boxes boxes hf) (ho : ∀ c ∈ out, 97 ≤ c ∧ c ≤ 122) (bn : boxes.Nodup) (hl : lenF hf ≤ 100) : FilOk boxes (hf.map (·.2)) where
  sg := fun f hf' c hc => by
    obtain ⟨q, hq, rfl⟩ := List.mem_map.mp hf'
    rcases F.signs q hq c hc with h | h
    · exact .inl (ho c h)
    · exact .inr h
  one := fun b hb => Nat.le_trans (F.cnt b hb) (List.nodup_iff_count.mp bn b)
  len := hl
theorem fkv_put {es : Fil} {h : List Nat} (f : List Nat) (hk : h ∉ es.map (·.1)) : putK (fkv es) (Sum.inr (S h)) (.str (S f)) = fkv (es ++ [(h, f)]) := by
  rw [putK_end]
  · unfold fkv
    rw [List.map_append]
    rfl
  · intro z
    obtain ⟨kv, hkv, e⟩ := List.mem_map.mp z
    obtain ⟨q, hq, rfl⟩ := List.mem_map.mp hkv
    exact hk (List.mem_map.mpr ⟨q, hq, key_S.mp e⟩)
section
variable {P : Program} {w : World} {K : PySem.W.Frag} {mg : Str → Option Value} {base : Heap}
abbrev nProgram : List Str := ["_law_source_here", "_law_letters", "_law_most_boxes", "_law_most_places", "_law_boxes", "_law_places", "_law_out", "_law_moves", "_law_ends", "_law_place", "_law_letter"]
theorem scProgram : FnScope nProgram ["_law_source_here", "_law_letters", "_law_most_boxes", "_law_most_places"] (defScope sProgram) := ⟨rfl, rfl, rfl, by decide +kernel, rfl, by decide +kernel, by decide +kernel⟩
def spProgram : Sp := fun vs H Q _ => ∃ (p : Addr) (n mb mp : Nat) (letters : List Nat), vs = [.ref p, .str (S letters), num mb, num mp] ∧ Src H p n ∧ n + 6000 < 1000000 ∧ 1 ≤ letters.length ∧ letters.length ≤ 5 ∧ letters.Nodup ∧ (∀ c ∈ letters, 97 ≤ c ∧ c ≤ 122) ∧ mb ≤ 6 ∧ 1 ≤ mp ∧ mp ≤ 8 ∧
  ∀ L H' (pt : Pt), But p H H' → Src H' p (n + 6000) → H L = none → PtAt H' L pt → GoodP pt → pt.letters = letters → pt.boxes.length ≤ mb → pt.places.length ≤ mp → Q (.ref L) H'
theorem ok_program {f : Addr} {fd : FuncData} {k : Nat} (F : Fun K "_law_program" "_law_program" sProgram f fd) (DD : Df P w K mg base (k + 1) "_law_draw" ["_law_source_here", "_law_many"] spDrawS) (DP : Df P w K mg base (k + 2) "_law_pick" ["_law_source_here", "_law_things"] (spPick K))
    (DS : Df P w K mg base (k + 3) "_law_signs" ["_law_source_here", "_law_signs_here", "_law_many"] spSigns) (DN : Df P w K mg base (k + 3) "_law_names" ["_law_source_here", "_law_many"] spNames) (DF : Df P w K mg base (k + 4) "_law_fill" ["_law_source_here", "_law_boxes", "_law_holders", "_law_out"] (spFill K))
    (mt : mg "list" = none) : FnOk P w K mg base CX0 (k + 5) f fd ["_law_source_here", "_law_letters", "_law_most_boxes", "_law_most_places"] spProgram := by
  refine F.ok scProgram (fun vs H Q E h => ?_) (fun cdv A outer s H vs Q E hr h => ?_)
  · obtain ⟨p, n, mb, mp, letters, rfl, _⟩ := h
    rfl
  · obtain ⟨p, n, mb, mp, letters, rfl, hp, hn, l1, l5, ln, ll, hmb, hmp1, hmp, q⟩ := h
    have hu := hu_of hr
    refine ⟨_, pss_cons (ps_set (i := 4) scProgram.nd rfl (.inl rfl) (pe_callTy (call_listStr rfl) (by rfl) mt (by decide +kernel) (pa_cons (pe_df DS hr (pa_cons (pv 0) (pa_cons pe_str (pa_cons (pe_df DD hr (pa_cons (pv 0) (pa_cons (pe_op op_add (pv 2) pe_int) pa_nil))) pa_nil)))) pa_nil)))
      (pss_cons (ps_set (i := 5) scProgram.nd rfl (.inl rfl) (pe_df DN hr (pa_cons (pv 0) (pa_cons (pe_op op_add pe_int (pe_df DD hr (pa_cons (pv 0) (pa_cons (pv 3) pa_nil)))) pa_nil))))
      (pss_cons (ps_par3 (i := 6) (j := 7) (l := 8) (by rfl) scProgram.nd rfl rfl rfl (by decide) (by decide) (by decide) rfl rfl rfl (pa_cons (pe_df DP hr (pa_cons (pv 0) (pa_cons (pe_lstS (pa_cons pe_str (pa_cons pe_str (pa_cons pe_str (pa_cons pe_str pa_nil))))) pa_nil))) (pa_cons pe_newT (pa_cons pe_newK pa_nil))) (by rfl))
      (pss_cons (ps_for PassesOwn.never rfl (pi_list (pv 5)) (pg_name (i := 9) scProgram.nd rfl (.inl rfl))
        (pss_cons (ps_for PassesOwn.never rfl (pi_str (pv 1)) (pg_name (i := 10) scProgram.nd rfl (.inl rfl))
          (pss_one (ps_if (pt_cmpR op_gt (pe_df DD hr (pa_cons (pv 0) (pa_cons pe_int pa_nil))) pe_int (nomark _))
            (pss_one (ps_dput hu (pv 7) (pe_tupS (pa_cons (pv 9) (pa_cons (pv 10) pa_nil))) (pe_tupS (pa_cons (pe_df DP hr (pa_cons (pv 0) (pa_cons (pv 5) pa_nil))) (pa_cons (pe_df DF hr (pa_cons (pv 0) (pa_cons (pv 4) (pa_cons (pv 4) (pa_cons (pv 6) pa_nil))))) pa_nil))) rfl)) pss_nil)))
        (pss_one (ps_if (pt_cmpR op_gt (pe_df DD hr (pa_cons (pv 0) (pa_cons pe_int pa_nil))) pe_int (nomark _))
          (pss_one (ps_dput hu (pv 8) (pv 9) (pe_dget hu (pe_df DF hr (pa_cons (pv 0) (pa_cons (pv 4) (pa_cons (pe_lstS (pa_cons pe_str pa_nil)) (pa_cons (pv 6) pa_nil))))) pe_str (fun _ _ => rfl)) rfl)) pss_nil))))
      (pss_one (ps_ret (pe_lstS (pa_cons (pv 1) (pa_cons (pe_join pe_str (pv 4)) (pa_cons (pv 5) (pa_cons (pv 7) (pa_cons (pv 8) pa_nil))))))))))), ?_⟩
    -- the boxes
    refine ⟨_, rfl, _, rfl, _, rfl, _, _, rfl, rfl, p, ((mb : Int) + 1), n, rfl, hp, by omega, by omega, by omega, fun d1 H1 hd1 hb1 hs1 => ?_⟩
    refine ⟨p, n + 1, d1, xyz, by rw [← xyz_str]; rfl, hs1, by show n + 1 + 7 < _; omega, by decide, fun H2 all hb2 hs2 hperm => ?_⟩
    have hall : all.length = 7 := hperm.length_eq
    have hbx : ∀ b ∈ all.take d1, b ∈ xyz := fun b hb => hperm.mem_iff.mp (List.mem_of_mem_take hb)
    have hbn : (all.take d1).Nodup := (List.take_sublist d1 all).nodup (hperm.nodup_iff.mpr (by decide))
    have hbl : (all.take d1).length ≤ mb := by
      rw [List.length_take]
      omega
    generalize all.take d1 = boxes at hbx hbn hbl
    refine ⟨boxes, rfl, by omega, fun tb H3 s3 nb e3 => ?_⟩
    have hb13 : But p H H3 := hb1.trans (hb2.trans (Same.but s3 p))
    have hs3 : Src H3 p (n + 8) := (hs2.same s3)
    have ntb : tb ≠ p := ne_src hs2 nb
    -- the places
    refine ⟨_, rfl, _, rfl, _, rfl, p, (mp : Int), n + 8, rfl, hs3, by omega, by omega, by omega, fun d2 H4 hd2 hb4 hs4 => ?_⟩
    refine ⟨_, _, rfl, rfl, p, n + 9, 1 + d2, congrArg (fun i : Int => [V.ref p, V.int i]) (show (1 + (d2 : Int)) = ((1 + d2 : Nat) : Int) by omega), hs4, by omega, by omega, fun tpl H5 places hb5 hs5 np5 e5 lpl hpp hpn => ?_⟩
    have ntpl : tpl ≠ p := ne_src hs4 np5
    have hs5' : Src H5 p (n + 89) := hs5.le (by omega)
    -- the letters that are told, no moves, no ends
    refine ⟨_, rfl, by show 4 ≤ sizeLine; decide, fun L4 H6 s6 n6 e6 => ?_⟩
    rw [← outs_str] at e6
    refine ⟨p, n + 89, hs5'.same s6, by omega, .inl ⟨L4, _, rfl, SqL.of e6, ne_src hs5' n6, by decide, by decide, fun x H7 hx hb7 hs7 => ?_⟩⟩
    obtain ⟨out, hout, rfl⟩ := List.mem_map.mp hx
    obtain ⟨o0, o3, ho⟩ := outs_ok hout
    refine fun tm H8 s8 n8 e8 => fun te H9 s9 n9 e9 => ⟨_, _, _, rfl, ?_⟩
    have s89 := s8.trans s9
    have hs9 : Src H9 p (n + 90) := hs7.same s89
    have hb9 : But p H H9 := hb13.trans (hb4.trans (hb5.trans ((Same.but s6 p).trans (hb7.trans (Same.but s89 p)))))
    have ntm : tm ≠ p := ne_src hs7 n8
    have nte : te ≠ p := ne_src (hs7.same s8) n9
    have back : ∀ {q : Addr} {Hm : Hp}, q ≠ p → But p H Hm → Hm q = none → H q = none := fun {q Hm} nq hb hn => by
      cases z : H q with
      | none => rfl
      | some o =>
        have z' := hb _ _ z nq
        rw [hn] at z'
        cases z'
    have hb7' : But p H H7 := hb13.trans (hb4.trans (hb5.trans ((Same.but s6 p).trans hb7)))
    have nHtm : H tm = none := back ntm hb7' n8
    have nHte : H te = none := back nte (hb7'.trans (Same.but s8 p)) n9
    have G9 : PgAt H9 tb tpl tm te boxes places [] [] := by
      refine ⟨s89 _ _ (hb7 _ _ (s6 _ _ (hb5 _ _ (hb4 _ _ e3 ntb) ntb)) ntb), s89 _ _ (hb7 _ _ (s6 _ _ e5) ntpl), ⟨[], s9 _ _ e8, .nil⟩, e9⟩
    have hdis : ∀ b ∈ boxes, b ∉ out := fun b hb hbo => by
      have h1 := hbx b hb
      have h2 := ho b hbo
      have h3 : ∀ b ∈ xyz, b ≤ 90 := by decide
      have h4 := h3 b h1
      omega
    refine ⟨_, rfl, tpl, rfl, ⟨_, SqL.of G9.pl⟩, for_list (K := K) (a := tpl) (xs := txs places) (fun i σ H' => ∃ v9 v10 ms es, σ = [some (.ref p), some (.str (S letters)), some (num mb), some (num mp), some (.ref tb), some (.ref tpl), some (.str (S out)), some (.ref tm), some (.ref te), v9, v10] ∧ Src H' p (n + 90 + 611 * i) ∧ But p H H' ∧ PgAt H' tb tpl tm te boxes places ms es ∧ MsOk boxes letters places (places.take i) [] [] ms ∧ EsOk boxes places (places.take i) es)
      ⟨none, none, [], [], rfl, hs9, hb9, G9, ⟨List.nodup_nil, fun m hm => (nomatch hm), fun m hm => (nomatch hm)⟩, ⟨List.nodup_nil, fun m hm => (nomatch hm), fun m hm => (nomatch hm)⟩⟩ (fun i σ H' _ ⟨_, _, _, _, _, _, _, G, _⟩ => SqL.of G.pl) ?_ ?_⟩
    · rintro i y σ H10 hi ⟨v9, v10, ms, es, rfl, hs10, hb10, G10, M10, E10⟩
      obtain ⟨pl, hpl, rfl⟩ : ∃ pl, places[i]? = some pl ∧ y = V.str (S pl) := by
        unfold txs at hi
        rw [List.getElem?_map] at hi
        cases z : places[i]? with
        | none =>
          rw [z] at hi
          cases hi
        | some c =>
          rw [z] at hi
          exact ⟨c, rfl, (Option.some.inj hi).symm⟩
      have hplm : pl ∈ places := List.mem_of_getElem? hpl
      have hi8 : i < 8 := by
        have := (List.getElem?_eq_some_iff.mp hpl).1
        omega
      have et : places.take (i + 1) = places.take i ++ [pl] := by
        rw [List.take_add_one, hpl]
        rfl
      have hnew : pl ∉ places.take i := fun z => by
        have h1 : (places.take (i + 1)).Nodup := (List.take_sublist _ _).nodup hpn
        rw [et, List.nodup_append] at h1
        exact h1.2.2 pl z pl (List.mem_singleton.mpr rfl) rfl
      -- the letters
      refine ⟨_, rfl, S letters, rfl, for_it (walk_str (z := S letters)) (fun j σ H' => ∃ v10 ms, σ = [some (.ref p), some (.str (S letters)), some (num mb), some (num mp), some (.ref tb), some (.ref tpl), some (.str (S out)), some (.ref tm), some (.ref te), some (.str (S pl)), v10] ∧ Src H' p (n + 90 + 611 * i + 102 * j) ∧ But p H H' ∧ PgAt H' tb tpl tm te boxes places ms es ∧ MsOk boxes letters places (places.take i) pl (letters.take j) ms)
        ⟨v10, ms, rfl, hs10, hb10, G10, ⟨M10.nd, M10.ok, fun m hm => .inl ((M10.wh m hm).resolve_right fun z => (nomatch z.2))⟩⟩ (fun _ _ _ _ _ => trivial) ?_ ?_⟩
      · rintro j x σ H11 H11' hj ⟨w10, ms, rfl, hs11, hb11, G11, M11⟩ ⟨rfl, c, hc, rfl⟩
        have hc' : letters[j]? = some c := by
          rw [show (S letters).cps = letters.toArray from rfl, List.getElem?_toArray] at hc
          exact hc
        have hj' : j < letters.length := (List.getElem?_eq_some_iff.mp hc').1
        have hcl : c ∈ letters := List.mem_of_getElem? hc'
        have etj : letters.take (j + 1) = letters.take j ++ [c] := by
          rw [List.take_add_one, hc']
          rfl
        have hcnew : c ∉ letters.take j := fun z => by
          have h1 : (letters.take (j + 1)).Nodup := (List.take_sublist _ _).nodup ln
          rw [etj, List.nodup_append] at h1
          exact h1.2.2 c z c (List.mem_singleton.mpr rfl) rfl
        have M11' : MsOk boxes letters places (places.take i) pl (letters.take (j + 1)) ms := ⟨M11.nd, M11.ok, fun m hm => (M11.wh m hm).imp id fun z => ⟨z.1, by rw [etj]; exact List.mem_append_left _ z.2⟩⟩
        refine ⟨_, rfl, p, 8, n + 90 + 611 * i + 102 * j, rfl, hs11, by omega, by decide, by decide, fun d H12 hd hb12 hs12 => ?_⟩
        have G12 := G11.but hs11 ntb ntpl hb12
        refine ⟨_, _, rfl, rfl, _, rfl, ite2 (fun _ => ?_) (fun _ => ?_)⟩
        · -- moves[(place, letter)] = (pick, fill)
          have lpl0 : 0 < (txs places).length := by
            show 0 < (places.map _).length
            rw [List.length_map]
            omega
          refine ⟨_, rfl, _, rfl, p, n + 90 + 611 * i + 102 * j + 1, hs12, by omega, .inl ⟨tpl, _, rfl, SqL.of G12.pl, ntpl, lpl0, by show (places.map _).length < _; rw [List.length_map]; omega, fun x H13 hx hb13' hs13 => ?_⟩⟩
          obtain ⟨to, hto, rfl⟩ := List.mem_map.mp hx
          have G13 := G12.but hs12 ntb ntpl hb13'
          have esg : sgs boxes = txs (boxes.map fun b => [b]) := by
            unfold sgs txs
            rw [List.map_map]
            rfl
          refine ⟨_, rfl, _, rfl, _, rfl, _, rfl, p, tb, tb, n + 90 + 611 * i + 102 * j + 2, boxes, out, boxes.map fun b => [b], rfl, hs13, by omega, SqL.of G13.b, by rw [← esg]; exact SqL.of G13.b, ntb, ntb, by omega, by rw [List.length_map]; omega, hbn, ?_, o0, by omega, hdis, fun fd' H14 hf hb14 hs14 nfd efd hkf FF lF => ?_⟩
          · exact List.Pairwise.map _ (fun a b hab z => hab (by injection z)) hbn
          have G14 := G13.but hs13 ntb ntpl hb14
          refine ⟨by show 2 ≤ sizeLine; decide, fun T H15 s15 n15 e15 => ?_⟩
          have G15 := G14.same s15
          refine ⟨_, rfl, _, rfl, _, rfl, by show 2 ≤ sizeLine; decide, fun kT H16 s16 n16 e16 => ?_⟩
          have G16 := G15.same s16
          obtain ⟨kvs, h1, h2⟩ := G16.m
          let m : Mv := ⟨pl, c, to, hf⟩
          have hkeys := keysX h2
          have hkn : m.key ∉ kvs.map (·.1) := fun z => by
            rw [hkeys] at z
            obtain ⟨m', hm', e'⟩ := List.mem_map.mp z
            obtain ⟨k1, k2⟩ := key_inj (m := m') e'
            rcases M11.wh m' hm' with w1 | w1
            · rw [k1] at w1
              exact hnew w1
            · rw [k2] at w1
              exact hcnew w1.2
          have lms : kvs.length < sizeLine := by
            have h3 := congrArg List.length hkeys
            rw [List.length_map, List.length_map] at h3
            rw [h3]
            -- at most eight places, five letters
            have sub : (ms.map fun m => (m.pl, m.lt)) ⊆ places.flatMap fun a => letters.map fun b => (a, b) := by
              intro x hx
              obtain ⟨m', hm', rfl⟩ := List.mem_map.mp hx
              obtain ⟨a1, a2, _⟩ := M11.ok m' hm'
              exact List.mem_flatMap.mpr ⟨m'.pl, a1, List.mem_map.mpr ⟨m'.lt, a2, rfl⟩⟩
            have hle := List.Nodup.length_le_of_subset M11.nd sub
            rw [List.length_map] at hle
            have hfl : ∀ l : List (List Nat), (l.flatMap fun a => letters.map fun b => (a, b)).length = l.length * letters.length := by
              intro l
              induction l with
              | nil => simp
              | cons a r ih =>
                rw [List.flatMap_cons, List.length_append, List.length_map, ih, List.length_cons, Nat.succ_mul]
                omega
            rw [hfl] at hle
            have : places.length * letters.length ≤ 8 * 5 := Nat.mul_le_mul (by omega) l5
            exact small1000 (by omega)
          have nfte : fd' ≠ te := fun z => by
            rw [z, G13.e] at nfd
            cases nfd
          refine ⟨tm, _, rfl, DPut.t (k := m.key) h1 e16 lms, ?_⟩
          have hs16 : Src H16 p (n + 90 + 611 * i + 102 * j + 102) := (hs14.same s15).same s16
          refine ⟨_, ms ++ [m], rfl, ?_, ?_, G16.put h1 h2 m hkn (s16 _ _ e15) (s16 _ _ (s15 _ _ efd)) nfte, ?_⟩
          · exact (hs16.at (upd_ne (Ne.symm ntm))).le (by omega)
          · intro b o eb ne
            rw [upd_ne (ne_of_none eb nHtm)]
            exact s16 _ _ (s15 _ _ (hb14 _ _ (hb13' _ _ (hb12 _ _ (hb11 _ _ eb ne) ne) ne) ne))
          · refine ⟨?_, fun m' hm' => ?_, fun m' hm' => ?_⟩
            · rw [List.map_append, List.nodup_append]
              refine ⟨M11.nd, List.nodup_cons.mpr ⟨fun h => (nomatch h), List.nodup_nil⟩, fun a ha b hb z => ?_⟩
              obtain ⟨m', hm', rfl⟩ := List.mem_map.mp ha
              rw [List.mem_singleton.mp hb] at z
              injection z with z1 z2
              rcases M11.wh m' hm' with w1 | w1
              · rw [z1] at w1
                exact hnew w1
              · rw [z2] at w1
                exact hcnew w1.2
            · rcases List.mem_append.mp hm' with h | h
              · exact M11.ok m' h
              · rw [List.mem_singleton.mp h]
                exact ⟨hplm, hcl, hto, hkf, fil_of FF ho hbn lF⟩
            · rcases List.mem_append.mp hm' with h | h
              · exact M11'.wh m' h
              · rw [List.mem_singleton.mp h]
                exact .inr ⟨rfl, by rw [etj]; exact List.mem_append_right _ (List.mem_singleton.mpr rfl)⟩
        · exact ⟨_, ms, rfl, hs12.le (by omega), hb11.trans hb12, G12, M11'⟩
      · rintro σ H11 ⟨w10, ms, rfl, hs11, hb11, G11, M11⟩
        have lsz : (S letters).cps.size = letters.length := rfl
        rw [lsz, List.take_length] at M11
        rw [lsz] at hs11
        have M12 : MsOk boxes letters places (places.take (i + 1)) [] [] ms := ⟨M11.nd, M11.ok, fun m hm => by
          rcases M11.wh m hm with h | h
          · exact .inl (by rw [et]; exact List.mem_append_left _ h)
          · exact .inl (by rw [et, h.1]; exact List.mem_append_right _ (List.mem_singleton.mpr rfl))⟩
        have E12 : EsOk boxes places (places.take (i + 1)) es := ⟨E10.nd, E10.ok, fun q hq => by rw [et]; exact List.mem_append_left _ (E10.wh q hq)⟩
        have hs11' : Src H11 p (n + 90 + 611 * i + 510) := hs11.le (by omega)
        refine ⟨_, rfl, p, 4, n + 90 + 611 * i + 510, rfl, hs11', by omega, by decide, by decide, fun d H12 hd hb12 hs12 => ?_⟩
        have G12 := G11.but hs11' ntb ntpl hb12
        refine ⟨_, _, rfl, rfl, _, rfl, ite2 (fun _ => ?_) (fun _ => ?_)⟩
        · refine ⟨_, rfl, _, rfl, by show 1 ≤ sizeLine; decide, fun Le H13 s13 n13 e13 => ?_⟩
          have e13' : H13 Le = some (.lst (txs [[101, 110, 100]])) := by
            rw [e13, end_str]
            rfl
          have G13 := G12.same s13
          have hs13 := hs12.same s13
          refine ⟨_, rfl, p, tb, Le, n + 90 + 611 * i + 511, boxes, out, [[101, 110, 100]], rfl, hs13, by omega, SqL.of G13.b, SqL.of e13', ntb, ne_src hs12 n13, by omega, by decide, hbn, by decide, o0, by omega, hdis, fun fd' H14 hf hb14 hs14 nfd efd hkf FF lF => ?_⟩
          have G14 := G13.but hs13 ntb ntpl hb14
          obtain ⟨f1, rfl⟩ : ∃ f1, hf = [([101, 110, 100], f1)] := by
            match hf, hkf with
            | [(a, b)], h =>
              have h' : [a] = [[101, 110, 100]] := h
              injection h' with h1 _
              exact ⟨b, by rw [h1]⟩
          have hv : valV (fkv [([101, 110, 100], f1)]) (Sum.inr (Str.ofString "end")) = some (.str (S f1)) := by
            rw [end_str, val_fkv, getF_cons, if_pos rfl]
            rfl
          refine ⟨fd', _, rfl, hv ▸ DGet.k (k := Sum.inr (Str.ofString "end")) efd, ?_⟩
          have hkn : pl ∉ es.map (·.1) := fun z => by
            obtain ⟨q', hq', e'⟩ := List.mem_map.mp z
            have := E10.wh q' hq'
            rw [e'] at this
            exact hnew this
          have les : (fkv es).length < sizeLine := by
            unfold fkv
            rw [List.length_map]
            have sub : (es.map (·.1)) ⊆ places := fun x hx => by
              obtain ⟨q', hq', rfl⟩ := List.mem_map.mp hx
              exact (E10.ok q' hq').1
            have hle := List.Nodup.length_le_of_subset E10.nd sub
            rw [List.length_map] at hle
            exact small1000 (by omega)
          refine ⟨_, rfl, _, rfl, te, _, rfl, DPut.k (k := Sum.inr (S pl)) G14.e les, ?_⟩
          rw [fkv_put f1 hkn]
          refine ⟨_, _, ms, es ++ [(pl, f1)], rfl, ?_, ?_, G14.pute, M12, ?_⟩
          · exact (hs14.at (upd_ne (Ne.symm nte))).le (by omega)
          · intro b o eb ne
            rw [upd_ne (ne_of_none eb nHte)]
            exact hb14 _ _ (s13 _ _ (hb12 _ _ (hb11 _ _ eb ne) ne)) ne
          · refine ⟨?_, fun q' hq' => ?_, fun q' hq' => ?_⟩
            · rw [List.map_append, List.nodup_append]
              refine ⟨E10.nd, List.nodup_cons.mpr ⟨fun h => (nomatch h), List.nodup_nil⟩, fun a ha b hb z => ?_⟩
              rw [List.mem_singleton.mp hb] at z
              rw [z] at ha
              exact hkn ha
            · rcases List.mem_append.mp hq' with h | h
              · exact E10.ok q' h
              · rw [List.mem_singleton.mp h]
                exact ⟨hplm, fil_of FF ho hbn lF⟩
            · rcases List.mem_append.mp hq' with h | h
              · exact E12.wh q' h
              · rw [List.mem_singleton.mp h, et]
                exact List.mem_append_right _ (List.mem_singleton.mpr rfl)
        · exact ⟨_, _, ms, es, rfl, hs12.le (by omega), hb11.trans hb12, G12, M12, E12⟩
    · rintro σ H10 ⟨v9, v10, ms, es, rfl, hs10, hb10, G10, M10, E10⟩
      have lt' : (txs places).length = places.length := List.length_map _
      rw [lt'] at hs10
      obtain ⟨kvs, h1, h2⟩ := G10.m
      have esg : sgs boxes = (boxes.map fun c => S [c]).map V.str := by
        unfold sgs
        rw [List.map_map]
        rfl
      refine ⟨_, rfl, ⟨_, rfl⟩, _, rfl, _, tb, boxes.map fun c => S [c], rfl, rfl, .inl (by rw [← esg]; exact SqL.of G10.b), ?_, ?_⟩
      · rw [sum_ones, str_empty, len_S]
        show _ + _ * 0 ≤ _
        omega
      rw [str_empty, join_signs]
      refine ⟨_, rfl, _, rfl, _, rfl, by show 5 ≤ sizeLine; decide, fun L H11 s11 nL eL => ?_⟩
      have up : ∀ b ∈ xyz, 65 ≤ b ∧ b ≤ 90 := by decide
      have nLp := ne_src hs10 nL
      refine q L H11 ⟨letters, boxes, places, ms, es⟩ (hb10.trans (Same.but s11 p)) ((hs10.same s11).le (by omega)) (back nLp hb10 nL) ⟨tpl, tm, te, kvs, eL, s11 _ _ G10.pl, s11 _ _ h1, Paired.mono (fun _ _ z => z.at.same s11) h2, s11 _ _ G10.e⟩ ?_ rfl hbl (by show places.length ≤ mp; omega)
      exact { l1 := l1, l5 := l5, ll := ll, ln := ln, b6 := by show boxes.length ≤ 6; omega, bb := fun c hc => up c (hbx c hc), bn := hbn, p1 := by show 1 ≤ places.length; omega, p8 := by show places.length ≤ 8; omega, pn := hpn, pp := hpp, ky := M10.nd, mv := M10.ok, ek := E10.nd, en := E10.ok }
end
end Tb

set_option Elab.async false
set_option linter.all false
set_option maxRecDepth 100000
set_option maxHeartbeats 4000000
namespace Tb
open PySem PySem.Spec PyProof.Rows L2 TL
/-! ### sorted(text) -/
def rSortStr : List V → Hp → VK → Prop := fun xs H Q => ∃ cs : List Nat, xs = [.str (S cs)] ∧ cs.length < 64 ∧ ∀ (ys : List Str), ys.Perm (cs.map fun c => S [c]) → sortedS ys = true → New H (.lst (ys.map V.str)) Q
theorem call_sortStr {X : Cx} (hcalm : X.calm = true) : CallR X (.builtin "sorted") rSortStr := by
  intro pins s σ H xs us Q I r q
  obtain ⟨cs, rfl, h64, q⟩ := q
  obtain ⟨u, rfl, t, rfl⟩ := vals1 r
  have sz : (S cs).cps.size = cs.length := rfl
  refine Calls.call_function_entry PyProof.Rows.kind_sorted PyProof.Rows.plain_sorted PyProof.Rows.entry_sorted (PyProof.Rows.args_sorted1 _) ?_
  unfold Builtin.«sorted»
  refine wpAny_bind (m := checkCount "sorted" 1 1 _) (wpAny_pure ?_)
  refine wpAny_bind (PySem.wpAny_collect_str (A := X.A.in1) (I.ok.hd hcalm) (S cs) t (hn := by rw [sz]; exact Nat.le_of_lt (small1000 (by omega))) fun s' acc hk hg hd ho hacc => ?_)
  obtain ⟨h', g', d', tk, os'⟩ := s'
  have hg' : g' = s.gens := hg
  have hd' : d' = s.drawn := hd
  have ho' : os' = s.os := ho
  subst hg' hd' ho'
  have hal : acc.toList.length = (cs.map fun c => S [c]).length := by rw [Array.length_toList, hacc.1, sz, List.length_map]
  have hS : StrsAre acc.toList (cs.map fun c => S [c]) := strs_at hal fun j v e => by
    obtain ⟨c, u, e1, e2⟩ := hacc.2 j v (by rw [← Array.getElem?_toList]; exact e)
    rw [show (S cs).cps = cs.toArray from rfl, List.getElem?_toArray] at e1
    exact ⟨S [c], u, by rw [List.getElem?_map, e1]; rfl, e2⟩
  have h64' : acc.toList.length < 64 := by rw [hal, List.length_map]; exact h64
  have I1 : Inv X pins σ H { s with heap := h', toks := tk } := I.kept hk
  refine wpAny_bind (wpAny_newList ?_ (by rw [sizeLine_eq]; omega))
  have hoL : (h'.push (seqObj "list" acc.toList.toArray 0)).get? h'.objs.size = some (seqObj "list" acc.toList.toArray 0) := Heap.get?_push_size _ rfl
  show wpAny _ _ _ _ _ { s with heap := h'.push (seqObj "list" acc.toList.toArray 0), toks := tk }
  refine wpAny_bind (wpAny_holding (wpAny_call_entry PyProof.Rows.slot_list_sort ⟨_, hoL, rfl⟩ PyProof.Rows.entry_list_sort
    (list_sort_treeK strKind_oneLt (s := { s with heap := h'.push (seqObj "list" acc.toList.toArray 0), toks := tk }) hoL hS.keysOf (fun v₁ v₂ rest e => keyKind_strs (by rw [← e]; exact hS)) h64' fun st' hp hs => ⟨_, rfl, ?_⟩)
    (PyProof.Rows.args_list_sort _)))
  obtain ⟨ys, g1, g2, g3⟩ := sorted_out_str hS hp hs
  obtain ⟨e', he'⟩ := PyProof.Rows.sortedHeap_at (vs := acc.toList) (out := (arrOf st').map (·.2)) hoL
  have hlen : (ys.map V.str).length ≤ sizeLine := by
    rw [List.length_map, g2.length_eq, List.length_map]
    exact Nat.le_trans (Nat.le_of_lt h64) (by decide)
  refine wpAny_pure ⟨_, rfl, .ref h'.objs.size, upd H h'.objs.size (.lst (ys.map V.str)), I1.laid (t' := tk) (fun b u e => ?_) (Nat.le_refl _)
    (show ObjOk X.prog X.w _ _ _ (.lst (ys.map V.str)) from ⟨hlen, ((arrOf st').map (·.2)).toList, e', vals_of_strs g1, by rw [Array.toArray_toList]; exact he'⟩), rfl, (q ys g2 g3).at _ (I1.hok.fresh (Nat.le_refl _))⟩
  have hb : b < h'.objs.size := Heap.lt_size e
  rw [PyProof.Rows.sortedHeap_old (Nat.ne_of_lt hb) (by rw [size_push']; exact Nat.lt_succ_of_lt hb)]
  exact Heap.get?_push_of_some _ e
end Tb

set_option Elab.async false
set_option linter.all false
set_option maxRecDepth 100000
namespace Tb
open PySem PySem.Spec PyProof.Rows L2
/-- the places of the program's own defs -/
abbrev sIsText : Stmt := topS 7
abbrev sIsName : Stmt := topS 9
abbrev sIsFilling : Stmt := topS 11
abbrev sAreDiff : Stmt := topS 14
abbrev sAreNames : Stmt := topS 10
abbrev sInOrder : Stmt := topS 15
abbrev sClass : Stmt := topS 20
abbrev sAreLetters : Stmt := topS 8
abbrev sAreBoxes : Stmt := topS 23
abbrev sArePlaces : Stmt := topS 24
abbrev sIsPair : Stmt := topS 12
abbrev sIsOneOf : Stmt := topS 13
abbrev sAreMoves : Stmt := topS 25
abbrev sAreFillings : Stmt := topS 26
abbrev sAreEnds : Stmt := topS 27
abbrev sKept : Stmt := topS 28
def subS (st : Stmt) (i : Nat) : Stmt := (match st with | .ClassDef (body := b) .. => b | _ => []).getD i (.Pass ⟨0, 0, 0, 0⟩)
abbrev sInit : Stmt := subS sClass 0
abbrev sLettersP : Stmt := subS sClass 1
abbrev sBoxesP : Stmt := subS sClass 2
abbrev sPlacesP : Stmt := subS sClass 3
abbrev sMove : Stmt := subS sClass 4
abbrev sEnd : Stmt := subS sClass 5
abbrev sEq : Stmt := subS sClass 6
abbrev sText : Stmt := subS sClass 7
abbrev sParse : Stmt := subS sClass 8
/-- the runs, and what the laws write themselves -/
abbrev sPartsOf : Stmt := topS 9999
abbrev sLenOf : Stmt := topS 9999
abbrev sPut : Stmt := topS 9999
abbrev sWith : Stmt := topS 9999
abbrev sRopeOf : Stmt := topS 9999
abbrev sWritten : Stmt := topS 9999
abbrev sCheck : Stmt := topS 9999
abbrev sFilled : Stmt := topS 9999
abbrev sSteps : Stmt := topS 9999
abbrev sTold : Stmt := topS 9999
abbrev sBehind : Stmt := topS 9999
abbrev sLFilled : Stmt := topS 45
abbrev sLText : Stmt := topS 9999
abbrev sLState : Stmt := topS 46
abbrev sLTold : Stmt := topS 47
abbrev sLaw : Stmt := topS 51
abbrev sMovesOf : Stmt := topS 21
abbrev sEndsOf : Stmt := topS 22
abbrev sSame : Stmt := topS 9999
abbrev sStInit : Stmt := subS sSteps 99
abbrev sStMove : Stmt := subS sSteps 99
abbrev sStMip : Stmt := subS sSteps 99
abbrev sStAlong : Stmt := subS sSteps 99
abbrev sStFirst : Stmt := subS sSteps 99
abbrev sStBehind : Stmt := subS sSteps 99
abbrev sStShown : Stmt := subS sSteps 99
abbrev sStEnded : Stmt := subS sSteps 99
abbrev sStTold : Stmt := subS sSteps 99
end Tb

set_option Elab.async false
set_option linter.all false
set_option maxRecDepth 100000
set_option maxHeartbeats 2000000
namespace Tb
open PySem PySem.Spec PyProof.Rows L2 TL
/-- what isinstance(x, c) tells -/
def Isi (K : PySem.W.Frag) (H : Hp) (x : V) (c : String) (b : Bool) : Prop := ∃ t, TyX K H x t ∧ PySem.W.kitOne K t (.type c) = some b
theorem isi_str {K : PySem.W.Frag} {H : Hp} (y : Str) : Isi K H (.str y) "str" true := ⟨_, .base (.str y), kit_ty (by decide +kernel)⟩
def tIsi (K : PySem.W.Frag) (c : String) (ta : TE) : TE := fun σ H Q => ta σ H fun x H1 => ∃ b, Isi K H1 x c b ∧ Q (.bl b) H1
theorem pe_isi {X : Cx} {c : String} {a : Expr} {ta : TE} {p p2 pos : Pos} (ha : PE X a ta) (mi : X.mg "isinstance" = none) (hg : Gl X "isinstance") (mc : X.mg (Str.ofString c) = none) (hgc : Gl X (Str.ofString c)) (hv : bootBuiltins (Str.ofString c) = some (.type c))
    (hn : (Str.ofString c) ≠ "__name__" := by decide) (hd : ((Str.ofString c) == ("__debug__" : Str)) = false := by decide) (na : starEach [a, .Name (Str.ofString c) p2] X.env = (false, eval a X.env) :: starEach [.Name (Str.ofString c) p2] X.env := by rfl)
    (na2 : starEach [.Name (Str.ofString c) p2] X.env = (false, eval (.Name (Str.ofString c) p2) X.env) :: starEach [] X.env := by rfl) (hpl : (backTo pos (starEach [.Name (Str.ofString c) p2] X.env)).any (·.1) = false := by rfl) :
    PE X (.Call (.Name "isinstance" p) [a, .Name (Str.ofString c) p2] [] pos) (tIsi X.K c ta) :=
  PE.weak (pe_callB call_isi hg mi (by decide +kernel) (pa_cons (PE.mono ha) (pa_cons (pe_bltn hgc mc hv (v := .ty c) rfl hn hd) pa_nil na2) na) (he := na) (hpl := hpl)) fun σ H Q z => ⟨_, z, fun x H1 ⟨b, ⟨t, ty, k⟩, q⟩ => ⟨x, .ty c, t, _, b, rfl, .ty c, ty, k, q⟩⟩
/-- .. with str, the two names as they stand -/
theorem pe_isStr {X : Cx} {a : Expr} {ta : TE} {p p2 pos : Pos} (ha : PE X a ta) (mi : X.mg "isinstance" = none) (hg : Gl X "isinstance") (mc : X.mg "str" = none) (hgc : Gl X "str")
    (na : starEach [a, .Name "str" p2] X.env = (false, eval a X.env) :: starEach [.Name "str" p2] X.env := by rfl) (hpl : (backTo pos (starEach [.Name "str" p2] X.env)).any (·.1) = false := by rfl) :
    PE X (.Call (.Name "isinstance" p) [a, .Name "str" p2] [] pos) (tIsi X.K "str" ta) := pe_isi ha mi hg mc hgc (by decide +kernel) (na := na) (hpl := hpl)
theorem pe_isDict {X : Cx} {a : Expr} {ta : TE} {p p2 pos : Pos} (ha : PE X a ta) (mi : X.mg "isinstance" = none) (hg : Gl X "isinstance") (mc : X.mg "dict" = none) (hgc : Gl X "dict")
    (na : starEach [a, .Name "dict" p2] X.env = (false, eval a X.env) :: starEach [.Name "dict" p2] X.env := by rfl) (hpl : (backTo pos (starEach [.Name "dict" p2] X.env)).any (·.1) = false := by rfl) :
    PE X (.Call (.Name "isinstance" p) [a, .Name "dict" p2] [] pos) (tIsi X.K "dict" ta) := pe_isi ha mi hg mc hgc (by decide +kernel) (na := na) (hpl := hpl)
/-! ### is_text -/
def isLow (c : Nat) : Bool := decide (97 ≤ c ∧ c ≤ 122)
theorem low_az (c : Nat) : decide (c ∈ az) = isLow c := by
  unfold isLow
  rw [decide_eq_decide]
  exact az_mem
section
variable {P : Program} {w : World} {K : PySem.W.Frag} {mg : Str → Option Value} {base : Heap}
abbrev nIsText : List Str := ["thing"]
theorem scIsText : FnScope nIsText ["thing"] (defScope sIsText) := ⟨rfl, rfl, rfl, by decide +kernel, rfl, by decide +kernel, by decide +kernel⟩
def spIsText (K : PySem.W.Frag) : Sp := fun vs H Q _ => (∃ cs : List Nat, vs = [.str (S cs)] ∧ cs.length ≤ 1000 ∧ ∀ H', Same H H' → Q (.bl (cs.all isLow)) H') ∨ (∃ x, vs = [x] ∧ Isi K H x "str" false ∧ Q (.bl false) H)
theorem asc_facts : ∀ c ∈ List.range 128, (Unicode.isAlpha c = true → (65 ≤ c ∧ c ≤ 90) ∨ (97 ≤ c ∧ c ≤ 122)) ∧ (97 ≤ c ∧ c ≤ 122 → Unicode.isAlpha c = true ∧ Unicode.isLower c = true ∧ Unicode.isUpper c = false ∧ Unicode.isTitle c = false) ∧ (65 ≤ c ∧ c ≤ 90 → Unicode.isUpper c = true) := by decide +kernel
theorem lower_is (cs : List Nat) (hne : cs ≠ []) : (Txt.isascii (S cs) && (Txt.isalpha (S cs) && Txt.islower (S cs))) = cs.all isLow := by
  have e1 : Txt.isascii (S cs) = cs.all fun c => decide (c < 128) := by
    show cs.toArray.all (fun c => decide (c < 128)) = _
    rw [List.all_toArray]
  have e2 : Txt.isalpha (S cs) = cs.all Unicode.isAlpha := by
    show (decide ((S cs).length > 0) && cs.toArray.all Unicode.isAlpha) = _
    rw [List.all_toArray, len_S, decide_eq_true (List.length_pos_iff.mpr hne), Bool.true_and]
  have e3 : Txt.islower (S cs) = (cs.any Unicode.isLower && !cs.any fun c => Unicode.isUpper c || Unicode.isTitle c) := by
    show (cs.toArray.any Unicode.isLower && !cs.toArray.any fun c => Unicode.isUpper c || Unicode.isTitle c) = _
    rw [List.any_toArray, List.any_toArray]
  rw [e1, e2, e3]
  by_cases h : cs.all isLow = true
  · rw [h]
    have hl : ∀ c ∈ cs, 97 ≤ c ∧ c ≤ 122 := fun c hc => of_decide_eq_true (List.all_eq_true.mp h c hc)
    have f : ∀ c ∈ cs, c < 128 ∧ Unicode.isAlpha c = true ∧ Unicode.isLower c = true ∧ Unicode.isUpper c = false ∧ Unicode.isTitle c = false := fun c hc => by
      have h1 := hl c hc
      have h2 := (asc_facts c (List.mem_range.mpr (by omega))).2.1 h1
      exact ⟨by omega, h2⟩
    obtain ⟨c0, r, rfl⟩ : ∃ c0 r, cs = c0 :: r := by
      cases cs with
      | nil => exact absurd rfl hne
      | cons a b => exact ⟨a, b, rfl⟩
    have h1 : ((c0 :: r).all fun c => decide (c < 128)) = true := List.all_eq_true.mpr fun c hc => decide_eq_true (f c hc).1
    have h2 : (c0 :: r).all Unicode.isAlpha = true := List.all_eq_true.mpr fun c hc => (f c hc).2.1
    have h3 : (c0 :: r).any Unicode.isLower = true := List.any_eq_true.mpr ⟨c0, List.mem_cons_self, (f c0 List.mem_cons_self).2.2.1⟩
    have h4 : ((c0 :: r).any fun c => Unicode.isUpper c || Unicode.isTitle c) = false := by
      rw [Bool.eq_false_iff]
      intro z
      obtain ⟨c, hc, e⟩ := List.any_eq_true.mp z
      obtain ⟨_, _, _, a, b⟩ := f c hc
      rw [a, b] at e
      cases e
    rw [h1, h2, h3, h4]
    rfl
  · rw [Bool.eq_false_iff.mpr h, Bool.eq_false_iff]
    intro z
    rw [Bool.and_eq_true, Bool.and_eq_true, Bool.and_eq_true, Bool.not_eq_true'] at z
    obtain ⟨z1, z2, _, z4⟩ := z
    refine h (List.all_eq_true.mpr fun c hc => ?_)
    have a1 : c < 128 := of_decide_eq_true (List.all_eq_true.mp z1 c hc)
    have a2 := List.all_eq_true.mp z2 c hc
    have fa := asc_facts c (List.mem_range.mpr a1)
    rcases fa.1 a2 with u | u
    · have hu := fa.2.2 u
      have : (cs.any fun c => Unicode.isUpper c || Unicode.isTitle c) = true := List.any_eq_true.mpr ⟨c, hc, by rw [hu]; rfl⟩
      rw [this] at z4
      cases z4
    · exact decide_eq_true u
theorem ok_isText {f : Addr} {fd : FuncData} {k : Nat} (F : Fun K "is_text" "is_text" sIsText f fd) (mi : mg "isinstance" = none) (ms : mg "str" = none) : FnOk P w K mg base CX0 (k + 1) f fd ["thing"] (spIsText K) := by
  refine F.ok scIsText (fun vs H Q E h => ?_) (fun cdv A outer s H vs Q E hr h => ?_)
  · rcases h with ⟨cs, rfl, _⟩ | ⟨x, rfl, _⟩ <;> rfl
  · refine ⟨_, pss_cons (ps_if (pt_not (pt_val (pe_isStr (pv 0) mi (by rfl) ms (by rfl)))) (pss_one (ps_ret pe_bl)) pss_nil)
      (pss_one (ps_ret (pe_or (pe_cmpR op_eq (pv 0) pe_str (nomark _)) (pe_one (pe_and (pe_m0 PySem.F.slot_str_isascii PySem.F.type_str_isascii mt_isascii (pv 0)) (pe_and (pe_m0 PySem.F.slot_str_isalpha PySem.F.type_str_isalpha mt_isalpha (pv 0)) (pe_one (pe_m0 PySem.F.slot_str_islower PySem.F.type_str_islower mt_islower (pv 0))))))))), ?_⟩
    rcases h with ⟨cs, rfl, hl, q⟩ | ⟨x, rfl, hx, q⟩
    · have q0 := q H (fun _ _ e => e)
      refine ⟨_, rfl, true, isi_str _, true, rfl, iteF ?_⟩
      by_cases hne : cs = []
      · refine ⟨_, rfl, rfl, true, ?_, iteT ?_⟩
        · rw [hne]
          decide +kernel
        · rw [hne] at q0
          exact q0
      · have hd : decide (V.str (S cs) = V.str (Str.ofString "")) = false := decide_eq_false fun z => hne (by
          have e : Str.ofString "" = S [] := by decide +kernel
          rw [e] at z
          injection z with z
          exact S_inj z)
        refine ⟨_, rfl, rfl, false, by rw [hd], iteF ?_⟩
        have e := lower_is cs hne
        refine ⟨_, rfl, ⟨_, rfl⟩, S cs, rfl, rfl, trivial, _, rfl, ?_⟩
        cases h1 : Txt.isascii (S cs) with
        | false =>
          rw [h1, Bool.false_and] at e
          rw [← e] at q0
          exact iteF q0
        | true =>
          rw [h1, Bool.true_and] at e
          refine iteT ⟨_, rfl, ⟨_, rfl⟩, S cs, rfl, rfl, trivial, _, rfl, ?_⟩
          cases h2 : Txt.isalpha (S cs) with
          | false =>
            rw [h2, Bool.false_and] at e
            rw [← e] at q0
            exact iteF q0
          | true =>
            rw [h2, Bool.true_and] at e
            rw [← e] at q0
            exact iteT ⟨_, rfl, ⟨_, rfl⟩, S cs, rfl, rfl, trivial, q0⟩
    · exact ⟨_, rfl, false, hx, false, rfl, iteT q⟩
end
end Tb

set_option Elab.async false
set_option linter.all false
set_option maxRecDepth 100000
set_option maxHeartbeats 2000000
namespace Tb
open PySem PySem.Spec PyProof.Rows L2 TL
/-! ### a text's signs, ascending -/
def sortN (cs : List Nat) : List Nat := cs.mergeSort (fun a b => decide (a ≤ b))
theorem sortN_perm (cs : List Nat) : (sortN cs).Perm cs := List.mergeSort_perm _ _
theorem sortN_le (cs : List Nat) : (sortN cs).Pairwise (· ≤ ·) := by
  have h := List.pairwise_mergeSort (le := fun a b : Nat => decide (a ≤ b)) (fun a b c h1 h2 => by simp at *; omega) (fun a b => by simp; omega) cs
  exact h.imp fun h => of_decide_eq_true h
theorem sortN_of {zs cs : List Nat} (hp : zs.Perm cs) (hs : zs.Pairwise (· ≤ ·)) : zs = sortN cs :=
  List.Perm.eq_of_pairwise (fun a b _ _ h1 h2 => Nat.le_antisymm h1 h2) hs (sortN_le cs) (hp.trans (sortN_perm cs).symm)
theorem ltC_one (a b : Nat) : ltCps (S [a]).cps.toList (S [b]).cps.toList = decide (a < b) := by
  show ltCps [a] [b] = _
  by_cases h : a < b
  · simp [ltCps, h]
  · simp [ltCps, h]
theorem rising_one : ∀ (zs : List Nat) (a : Nat), risingS (S [a]) (zs.map fun c => S [c]) = true → (a :: zs).Pairwise (· ≤ ·)
  | [], a, _ => List.pairwise_singleton _ _
  | z :: r, a, h => by
    have h' : (!ltCps (S [z]).cps.toList (S [a]).cps.toList && risingS (S [z]) (r.map fun c => S [c])) = true := h
    rw [ltC_one, Bool.and_eq_true] at h'
    have h1 : a ≤ z := by
      have := h'.1
      simp at this
      exact this
    have h2 := rising_one r z h'.2
    refine List.pairwise_cons.mpr ⟨fun x hx => ?_, h2⟩
    rcases List.mem_cons.mp hx with e | e
    · rw [e]; exact h1
    · exact Nat.le_trans h1 ((List.pairwise_cons.mp h2).1 x e)
theorem sorted_signs {ys : List Str} {cs : List Nat} (hp : ys.Perm (cs.map fun c => S [c])) (hs : sortedS ys = true) : ys = (sortN cs).map fun c => S [c] := by
  have e1 : ys = (ys.map fun s => (tl s).headD 0).map fun c => S [c] := by
    rw [List.map_map]
    conv => lhs; rw [← List.map_id ys]
    refine List.map_congr_left fun y hy => ?_
    obtain ⟨c, _, rfl⟩ := List.mem_map.mp (hp.mem_iff.mp hy)
    rfl
  have hp2 : (ys.map fun s => (tl s).headD 0).Perm cs := by
    have h := hp.map fun s => (tl s).headD 0
    rw [List.map_map] at h
    have e : cs.map ((fun s => (tl s).headD 0) ∘ fun c => S [c]) = cs := by
      conv => rhs; rw [← List.map_id cs]
      exact List.map_congr_left fun c _ => rfl
    rw [e] at h
    exact h
  generalize (ys.map fun s => (tl s).headD 0) = zs at e1 hp2
  have hz : zs.Pairwise (· ≤ ·) := by
    rw [e1] at hs
    cases zs with
    | nil => exact List.Pairwise.nil
    | cons z r => exact rising_one r z hs
  rw [e1, sortN_of hp2 hz]
/-! ### are_different, in_order, is_name -/
def isName (cs : List Nat) : Bool := cs.all isLow && (decide (1 ≤ cs.length) && decide (cs.length ≤ 8))
theorem isName_iff {cs : List Nat} : isName cs = true ↔ NameL cs := by
  unfold isName NameL
  rw [Bool.and_eq_true, Bool.and_eq_true, List.all_eq_true]
  constructor
  · rintro ⟨h1, h2, h3⟩
    exact ⟨of_decide_eq_true h2, of_decide_eq_true h3, fun c hc => of_decide_eq_true (h1 c hc)⟩
  · rintro ⟨h1, h2, h3⟩
    exact ⟨fun c hc => decide_eq_true (h3 c hc), decide_eq_true h1, decide_eq_true h2⟩
theorem nodup_S {l : List (List Nat)} : (l.map S).Nodup ↔ l.Nodup := by
  constructor
  · intro h
    rw [List.nodup_iff_pairwise_ne] at h ⊢
    exact (List.pairwise_map.mp h).imp fun h e => h (by rw [e])
  · intro h
    rw [List.nodup_iff_pairwise_ne] at h ⊢
    exact List.pairwise_map.mpr (h.imp fun h e => h (S_inj e))
theorem nodup_S1 {l : List Nat} : (l.map fun c => S [c]).Nodup ↔ l.Nodup := by
  constructor
  · intro h
    rw [List.nodup_iff_pairwise_ne] at h ⊢
    exact (List.pairwise_map.mp h).imp fun h e => h (by rw [e])
  · intro h
    rw [List.nodup_iff_pairwise_ne] at h ⊢
    exact List.pairwise_map.mpr (h.imp fun h e => h (by have := S_inj e; injection this))
theorem num_eq (a b : Nat) : decide (num a = num b) = decide (a = b) := by
  rw [decide_eq_decide]
  unfold num
  constructor
  · intro h
    injection h with h
    omega
  · intro h
    rw [h]
section
variable {P : Program} {w : World} {K : PySem.W.Frag} {mg : Str → Option Value} {base : Heap}
abbrev nIsName : List Str := ["thing"]
theorem scIsName : FnScope nIsName ["thing"] (defScope sIsName) := ⟨rfl, rfl, rfl, by decide +kernel, rfl, by decide +kernel, by decide +kernel⟩
def spIsName (K : PySem.W.Frag) : Sp := fun vs H Q _ => (∃ cs : List Nat, vs = [.str (S cs)] ∧ cs.length ≤ 1000 ∧ ∀ H', Same H H' → Q (.bl (isName cs)) H') ∨ (∃ x, vs = [x] ∧ Isi K H x "str" false ∧ Q (.bl false) H)
theorem ok_isName {f : Addr} {fd : FuncData} {k : Nat} (F : Fun K "is_name" "is_name" sIsName f fd) (DT : Df P w K mg base (k + 1) "is_text" ["thing"] (spIsText K)) (ml : mg "len" = none) (mN : ∃ t, mg "LONGEST_NAME" = some (.int 8 t)) : FnOk P w K mg base CX0 (k + 2) f fd ["thing"] (spIsName K) := by
  obtain ⟨tN, mN⟩ := mN
  refine F.ok scIsName (fun vs H Q E h => ?_) (fun cdv A outer s H vs Q E hr h => ?_)
  · rcases h with ⟨cs, rfl, _⟩ | ⟨x, rfl, _⟩ <;> rfl
  · refine ⟨_, pss_one (ps_ret (pe_and (pe_df DT hr (pa_cons (pv 0) pa_nil)) (pe_one (pe_chain op_le op_le pe_int (pe_callB call_len_str (by rfl) ml PySem.boot_len (pa_cons (pv 0) pa_nil)) (pe_glob (v := .int 8) (by rfl) mN ⟨_, rfl⟩))))), ?_⟩
    rcases h with ⟨cs, rfl, hl, q⟩ | ⟨x, rfl, hx, q⟩
    · refine ⟨_, rfl, .inl ⟨cs, rfl, hl, fun H' s' => ?_⟩⟩
      have hq := q H' s'
      refine ⟨_, rfl, ?_⟩
      unfold isName at hq
      by_cases h1 : cs.all isLow = true
      · rw [h1] at hq ⊢
        refine iteT ⟨_, rfl, S cs, rfl, by rw [len_S]; exact Nat.le_trans hl (by decide), _, _, rfl, rfl, _, rfl, ?_⟩
        rw [len_S]
        by_cases h2 : 1 ≤ cs.length
        · rw [decide_eq_true h2] at hq
          rw [decide_eq_true (show (1 : Int) ≤ (cs.length : Int) by omega)]
          refine iteT ⟨_, _, rfl, rfl, ?_⟩
          have e : decide ((cs.length : Int) ≤ 8) = decide (cs.length ≤ 8) := by
            rw [decide_eq_decide]
            omega
          show Q (.bl (decide ((cs.length : Int) ≤ 8))) H'
          rw [e]
          exact hq
        · rw [decide_eq_false h2] at hq
          rw [decide_eq_false (show ¬ (1 : Int) ≤ (cs.length : Int) by omega)]
          exact iteF hq
      · rw [Bool.eq_false_iff.mpr h1] at hq ⊢
        exact iteF hq
    · exact ⟨_, rfl, .inr ⟨x, rfl, hx, false, rfl, iteF q⟩⟩
abbrev nAreDiff : List Str := ["strings"]
theorem scAreDiff : FnScope nAreDiff ["strings"] (defScope sAreDiff) := ⟨rfl, rfl, rfl, by decide +kernel, rfl, by decide +kernel, by decide +kernel⟩
def spAreDiff (K : PySem.W.Frag) : Sp := fun vs H Q _ => (∃ cs : List Nat, vs = [.str (S cs)] ∧ cs.length ≤ 1000 ∧ Q (.bl (decide cs.Nodup)) H) ∨ (∃ l, ∃ xs : List (List Nat), vs = [.ref l] ∧ (SqL K H l (txs xs) ∨ SqT K H l (txs xs)) ∧ xs.length ≤ 1000 ∧ Q (.bl (decide xs.Nodup)) H)
theorem ok_areDiff {f : Addr} {fd : FuncData} {k : Nat} (F : Fun K "are_different" "are_different" sAreDiff f fd) (ml : mg "len" = none) (mt : mg "set" = none) : FnOk P w K mg base CX0 (k + 1) f fd ["strings"] (spAreDiff K) := by
  refine F.ok scAreDiff (fun vs H Q E h => ?_) (fun cdv A outer s H vs Q E hr h => ?_)
  · rcases h with ⟨cs, rfl, _⟩ | ⟨l, xs, rfl, _⟩ <;> rfl
  · rcases h with ⟨cs, rfl, hl, q⟩ | ⟨l, xs, rfl, hx, hl, q⟩
    · refine ⟨_, pss_one (ps_ret (pe_cmpR op_eq (pe_lenSetS rfl (by rfl) ml (by rfl) mt (pv 0)) (pe_callB call_len_str (by rfl) ml PySem.boot_len (pa_cons (pv 0) pa_nil)) (nomark _))), ?_⟩
      refine ⟨_, rfl, .inr ⟨cs, rfl, hl, _, rfl, S cs, rfl, by rw [len_S]; exact Nat.le_trans hl (by decide), rfl, ?_⟩⟩
      rw [len_S]
      have e : decide (num (dedS (cs.map fun c => S [c])).length = V.int (cs.length : Int)) = decide cs.Nodup := by
        rw [show V.int (cs.length : Int) = num cs.length from rfl, num_eq, decide_eq_decide]
        have h := dedS_iff (cs.map fun c => S [c])
        rw [List.length_map] at h
        exact h.trans nodup_S1
      rw [e]
      exact q
    · refine ⟨_, pss_one (ps_ret (pe_cmpR op_eq (pe_lenSetS rfl (by rfl) ml (by rfl) mt (pv 0)) (pe_callB call_lenS (by rfl) ml PySem.boot_len (pa_cons (pv 0) pa_nil)) (nomark _))), ?_⟩
      have ex : txs xs = (xs.map S).map V.str := by
        unfold txs
        rw [List.map_map]
        rfl
      refine ⟨_, rfl, .inl ⟨l, xs.map S, rfl, by rw [← ex]; exact hx, by rw [List.length_map]; exact hl, _, rfl, l, txs xs, rfl, hx, rfl, ?_⟩⟩
      have e : decide (num (dedS (xs.map S)).length = V.int ((txs xs).length : Int)) = decide xs.Nodup := by
        rw [show V.int ((txs xs).length : Int) = num (txs xs).length from rfl, num_eq, decide_eq_decide]
        have h := dedS_iff (xs.map S)
        rw [List.length_map] at h
        unfold txs
        rw [List.length_map]
        exact h.trans nodup_S
      rw [e]
      exact q
abbrev nInOrder : List Str := ["signs"]
theorem scInOrder : FnScope nInOrder ["signs"] (defScope sInOrder) := ⟨rfl, rfl, rfl, by decide +kernel, rfl, by decide +kernel, by decide +kernel⟩
def spInOrder : Sp := fun vs H Q _ => ∃ cs : List Nat, vs = [.str (S cs)] ∧ cs.length < 64 ∧ ∀ H', Same H H' → Q (.str (S (sortN cs))) H'
theorem ok_inOrder {f : Addr} {fd : FuncData} {k : Nat} (F : Fun K "in_order" "in_order" sInOrder f fd) (ms : mg "sorted" = none) : FnOk P w K mg base CX0 (k + 1) f fd ["signs"] spInOrder := by
  refine F.ok scInOrder (fun vs H Q E h => ?_) (fun cdv A outer s H vs Q E hr h => ?_)
  · obtain ⟨cs, rfl, _⟩ := h
    rfl
  · obtain ⟨cs, rfl, hl, q⟩ := h
    refine ⟨_, pss_one (ps_ret (pe_join pe_str (pe_callB (call_sortStr rfl) (by rfl) ms (by decide +kernel) (pa_cons (pv 0) pa_nil)))), ?_⟩
    refine ⟨⟨_, rfl⟩, _, rfl, cs, rfl, hl, fun ys hp hs p H' s' n' e' => ?_⟩
    have ey := sorted_signs hp hs
    subst ey
    have e1 : (sortN cs).map (fun c => S [c]) = (sortN cs).map fun c => S [c] := rfl
    refine ⟨_, p, (sortN cs).map fun c => S [c], rfl, rfl, .inl (SqL.of e'), ?_, ?_⟩
    · have h1 : (sortN cs).length < 64 := by rw [(sortN_perm cs).length_eq]; exact hl
      rw [sum_ones, str_empty, len_S]
      show _ + _ * 0 ≤ _
      omega
    rw [str_empty, join_signs]
    exact q H' s'
end
end Tb

set_option Elab.async false
set_option linter.all false
set_option maxRecDepth 100000
set_option maxHeartbeats 2000000
/-! judgements for a state in which a token is out: 1 <= toks -/
namespace Tb
open PySem PySem.Spec PyProof.Rows L2
section
variable {X : Cx}
/-- behind anything a token is still out -/
theorem thnT {α : Type} {t : Sem α} {Q Q' : α → Shared → Prop} {M : Model} {A : Around} {E : Value → Shared → Prop} {s : Shared} (h0 : 1 ≤ s.toks) (h : wpAny M A t Q E s) (hQ : ∀ a s', 1 ≤ s'.toks → Q a s' → Q' a s') : wpAny M A t Q' E s :=
  wpAny_mono (PySem.wpAny_toks h) (fun a s' q => hQ a s' (Nat.le_trans h0 q.1) q.2) fun _ _ z => z.2
def PTT (X : Cx) (e : Expr) (t : TT) : Prop :=
  ∀ (pins : List (Addr × Obj)) (s : Shared) (σ : L2.St) (H : Hp) (Q : Bool → Hp → Prop), 1 ≤ s.toks → Inv X pins σ H s → t σ H Q → wpAny (model X.prog X.w) X.A (isTrue e X.env (eval e X.env)) (TP X pins σ Q) X.xe s
def PWT (X : Cx) (e : Expr) (t : TT) : Prop :=
  ∀ (whole : Sem Value) (pins : List (Addr × Obj)) (s : Shared) (σ : L2.St) (H : Hp) (Q : Bool → Hp → Prop), 1 ≤ s.toks → Inv X pins σ H s → t σ H Q → wpAny (model X.prog X.w) X.A (isTrue e X.env whole) (TP X pins σ Q) X.xe s
variable {e a b c : Expr} {te ta tb : TE} {t tA tB' : TT} {rest : List Expr} {pos : Pos}
theorem PET.of (h : PE X e te) : PET X e te := fun pins s σ H Q _ I q => h.run pins s σ H Q I q
theorem PTT.of (h : PT X e t) : PTT X e t := fun pins s σ H Q _ I q => h.run pins s σ H Q I q
theorem PWT.of (h : PW X e t) : PWT X e t := fun wh pins s σ H Q _ I q => h.run wh pins s σ H Q I q
theorem PWT.pt (h : PWT X e t) : PTT X e t := h _
theorem PAT.of {es : List Expr} {ta : TA} (h : PA X es ta) : PAT X es ta := fun pos pins s σ H Q _ I q => h.run pos pins s σ H Q I q
theorem ptt_val (h : PET X e te) (he : ∀ whole, isTrue e X.env whole = (do let v ← whole; standAt e.pos; holding [v] (truthy v)) := by intro _; rfl) : PTT X e (tB te) := by
  intro pins s σ H Q h0 I hw
  refine isTrue_plain (thn (h pins s σ H _ h0 I hw) fun v s1 ⟨x, H1, I1, r1, q1⟩ => ?_) (he _)
  obtain ⟨d, rfl, q⟩ := q1
  cases r1
  exact wpAny_truthy_bool ⟨H1, I1, q⟩
theorem ptt_not (ha : PTT X a tA) : PTT X (.UnaryOp .Not a pos) (tNot tA) := by
  intro pins s σ H Q h0 I h
  exact isTrue_not (ha pins s σ H (fun c H1 => Q (!c) H1) h0 I h)
theorem pwt_and1 (ha : PTT X a tA) : PWT X (.BoolOp .And [a] pos) tA := by
  intro wh pins s σ H Q h0 I h
  refine isTrue_and (thn (ha pins s σ H Q h0 I h) fun c s1 e => ?_)
  cases c with
  | true => exact isTrue_and_nil e
  | false => exact e
theorem pwt_or1 (ha : PTT X a tA) : PWT X (.BoolOp .Or [a] pos) tA := by
  intro wh pins s σ H Q h0 I h
  refine isTrue_or (thn (ha pins s σ H Q h0 I h) fun c s1 e => ?_)
  cases c with
  | false => exact isTrue_or_nil e
  | true => exact e
theorem pwt_and (ha : PTT X a tA) (hb : PWT X (.BoolOp .And (b :: rest) pos) tB') : PWT X (.BoolOp .And (a :: b :: rest) pos) (tAnd tA tB') := by
  intro wh pins s σ H Q h0 I h
  refine isTrue_and (thnT h0 (ha pins s σ H _ h0 I h) fun c s1 h1 ⟨H1, I1, q1⟩ => ?_)
  cases c with
  | true => exact hb wh pins s1 σ H1 Q h1 I1 q1
  | false => exact ⟨H1, I1, q1⟩
theorem pwt_or (ha : PTT X a tA) (hb : PWT X (.BoolOp .Or (b :: rest) pos) tB') : PWT X (.BoolOp .Or (a :: b :: rest) pos) (tOr tA tB') := by
  intro wh pins s σ H Q h0 I h
  refine isTrue_or (thnT h0 (ha pins s σ H _ h0 I h) fun c s1 h1 ⟨H1, I1, q1⟩ => ?_)
  cases c with
  | true => exact ⟨H1, I1, q1⟩
  | false => exact hb wh pins s1 σ H1 Q h1 I1 q1
theorem pet_one {op} (h : PET X a ta) : PET X (.BoolOp op [a] pos) ta := fun pins s σ H Q h0 I hw => BoolOp_one (h pins s σ H Q h0 I hw)
theorem pet_and (ha : PET X a ta) (hb : PET X (.BoolOp .And (b :: rest) pos) tb) : PET X (.BoolOp .And (a :: b :: rest) pos) (tAndV ta tb) := by
  intro pins s σ H Q h0 I h
  refine BoolOp_and (thnT h0 (ha pins s σ H _ h0 I h) fun v s1 h1 ⟨x, H1, I1, r1, q1⟩ => ?_)
  obtain ⟨c, rfl, q1⟩ := q1
  cases r1
  refine wpAny_truthy_bool ?_
  cases c with
  | true => exact hb pins s1 σ H1 Q h1 I1 q1
  | false => exact ⟨.bl false, H1, I1, rfl, q1⟩
theorem pet_or (ha : PET X a ta) (hb : PET X (.BoolOp .Or (b :: rest) pos) tb) : PET X (.BoolOp .Or (a :: b :: rest) pos) (tOrV ta tb) := by
  intro pins s σ H Q h0 I h
  refine BoolOp_or (thnT h0 (ha pins s σ H _ h0 I h) fun v s1 h1 ⟨x, H1, I1, r1, q1⟩ => ?_)
  obtain ⟨c, rfl, q1⟩ := q1
  cases r1
  refine wpAny_truthy_bool ?_
  cases c with
  | false => exact hb pins s1 σ H1 Q h1 I1 q1
  | true => exact ⟨.bl true, H1, I1, rfl, q1⟩
theorem pet_ifExp (hc : PTT X c tA) (ha : PET X a ta) (hb : PET X b tb) : PET X (.IfExp c a b pos) (tIf tA ta tb) := by
  intro pins s σ H Q h0 I h
  refine wpAny_IfExp (thnT h0 (hc pins s σ H _ h0 I h) fun d s1 h1 ⟨H1, I1, q1⟩ => ?_)
  cases d with
  | true => exact ha pins s1 σ H1 Q h1 I1 q1
  | false => exact hb pins s1 σ H1 Q h1 I1 q1
theorem pet_lock (h : PET X e te) : PET X e (tLockE te) := by
  intro pins s σ H Q h0 I hw
  obtain ⟨d, u, hd, mu, hw⟩ := hw
  obtain ⟨od, I1⟩ := I.lock hd mu
  refine thn (h pins s σ _ _ h0 I1 (hw od)) fun v s1 ⟨x, H1, I2, r, e2, q⟩ => ?_
  exact ⟨x, _, I2.unlock e2 (I.nofrz hd mu), r, q⟩
/-! ### statements -/
variable {st : Stmt} {sts : List Stmt} {u w' : TS}
theorem psst_one' (h1 : PST X st u) : PSsT X [st] u := by
  intro pins s σ H D h0 I h
  refine wpAny_execs_cons (thn (h1 pins s σ H D h0 I h) fun f s1 q => ?_)
  cases f with
  | next => exact wpAny_execs_nil q
  | ret v => exact q
  | brk => exact q
  | cont => exact q
theorem pst_if' {c : Expr} {x y : List Stmt} {tc : TT} (hc : PTT X c tc) (ha : PSsT X x u) (hb : PSsT X y w') : PST X (.If c x y pos) (tIfS tc u w') := by
  intro pins s σ H D h0 I h
  refine wpAny_If (thnT h0 (hc pins s σ H _ h0 I h) fun d s1 h1 ⟨H1, I1, q1⟩ => ?_)
  cases d with
  | true => exact ha pins s1 σ H1 D h1 I1 q1
  | false => exact hb pins s1 σ H1 D h1 I1 q1
theorem pst_ret' (he : PET X e te) : PST X (.Return (some e) pos) (tRet te) := by
  intro pins s σ H D h0 I h
  exact wpAny_Return_some (thn (he pins s σ H _ h0 I h) fun v s1 ⟨x, H1, I1, r1, q1⟩ => ⟨x, σ, H1, I1, r1, q1⟩)
theorem pst_expr (he : PET X e te) (hs : swapsWith e none pos.line X.env = pure false := by rfl) : PST X (.Expr e pos) (tDrop te) := by
  intro pins s σ H D h0 I h
  exact wpAny_Expr_any (thn (he pins s σ H _ h0 I h) fun v s1 ⟨x, H1, I1, r1, q1⟩ => ⟨σ, H1, I1, q1⟩) I.quiet hs
theorem pst_asg {tg : Expr} {g : TG} (he : PET X e te) (hg : PG X tg g) (hs : swapsWithSole [tg] e pos.line X.env = pure false := by rfl) (hw : swappedStores [tg] e X.env = pure none := by rfl)
    (h1 : (assignEach [tg] X.env).map (·.2) = [assign tg X.env] := by rfl) : PST X (.Assign [tg] e pos) (tAsg te g) := by
  intro pins s σ H D h0 I h
  refine wpAny_Assign_stores (thn (he pins s σ H _ h0 I h) fun v s1 ⟨x, H1, I1, r1, q1⟩ => ?_) hs hw
  rw [h1]
  exact thn (hg.run pins s1 σ H1 x v _ I1 r1 q1) fun _ s2 q => q
theorem pst_set {i : Nat} {x : Str} {pos' : Pos} (hN : X.N.Nodup) (hi : X.N[i]? = some x) (hx : Loc X.env.scope x) (he : PET X e te) (hs : swapsWith e (some (.Name x pos')) pos.line X.env = pure false := by rfl) (hf : X.fn x = true ∨ X.env.scope.names.lookup x = some .local := by first | exact .inl rfl | exact .inr rfl | assumption) :
    PST X (.Assign [.Name x pos'] e pos) (tAsg te (gName i)) := by
  intro pins s σ H D h0 I h
  refine wpAny_Assign_Name (thn (he pins s σ H _ h0 I h) fun v s1 ⟨y, H1, I1, r1, q1⟩ => ?_) hs
  exact store_ok I1 hN hi hx r1 (fun s2 I2 => ⟨_, H1, I2, q1⟩) hf
theorem pst_lock (h : PST X st u) : PST X st (tLock u) := by
  intro pins s σ H D h0 I hw
  obtain ⟨d, o, hd, mu, hw⟩ := hw
  obtain ⟨od, I1⟩ := I.lock hd mu
  refine thn (h pins s σ _ _ h0 I1 (hw od)) fun f s1 q => ?_
  cases f with
  | next => obtain ⟨σ', H', I2, e, q⟩ := q; exact ⟨σ', _, I2.unlock e (I.nofrz hd mu), q⟩
  | brk => obtain ⟨σ', H', I2, e, q⟩ := q; exact ⟨σ', _, I2.unlock e (I.nofrz hd mu), q⟩
  | cont => obtain ⟨σ', H', I2, e, q⟩ := q; exact ⟨σ', _, I2.unlock e (I.nofrz hd mu), q⟩
  | ret v => obtain ⟨x, σ', H', I2, r, e, q⟩ := q; exact ⟨x, σ', _, I2.unlock e (I.nofrz hd mu), r, q⟩
end
end Tb

set_option Elab.async false
set_option linter.all false
set_option maxRecDepth 100000
set_option maxHeartbeats 2000000
/-! defs, classes, loops, where a token is out -/
namespace Tb
open PySem PySem.Spec PyProof.Rows L2
/-- a def that keeps its promise where a token is out -/
structure FnT (P : Program) (w : World) (K : PySem.W.Frag) (mg : Str → Option Value) (base : Heap) (k : Nat) (f : Addr) (fd : FuncData) (ps : List Str) (sp : Sp) : Prop where
  len : ∀ vs H Q E, sp vs H Q E → vs.length = ps.length
  run : ∀ (A : Around) (outer : List Env) (s : Shared) (H : Hp) (args : Args) (us : List Value) (vs : List V) (Q : VK) (E : XK), 1 ≤ s.toks → Room k A → Env0 P w K mg base A outer s H → BindsTo s fd args (ps.zip us) → Vals vs us → sp vs H Q E →
    codeAny (model P w) A (.call (.ref f) args) (CR CX0 outer P w H s Q E) s
section
variable {P : Program} {w : World} {K : PySem.W.Frag} {mg : Str → Option Value} {base : Heap}
theorem FnT.of {k : Nat} {f : Addr} {fd : FuncData} {ps : List Str} {sp : Sp} (F : FnOk P w K mg base CX0 k f fd ps sp) : FnT P w K mg base k f fd ps sp :=
  ⟨F.len, fun A outer s H args us vs Q E _ hr e0 b r h => F.run A outer s H args us vs Q E hr e0 b r h⟩
theorem FnT.imp {k : Nat} {f : Addr} {fd : FuncData} {ps : List Str} {sp sp' : Sp} (F : FnT P w K mg base k f fd ps sp) (h : ∀ vs H Q E, sp' vs H Q E → sp vs H Q E) : FnT P w K mg base k f fd ps sp' :=
  ⟨fun vs H Q E q => F.len vs H Q E (h _ _ _ _ q), fun A outer s H args us vs Q E h0 hr he hb hv hs => F.run A outer s H args us vs Q E h0 hr he hb hv (h _ _ _ _ hs)⟩
/-- THE RULE for a def -/
theorem fun_okT {x qual : Str} {st : Stmt} {f : Addr} {fd : FuncData} {N ps : List Str} {k : Nat} {sp : Sp} (F : Fun K x qual st f fd) (S : FnScope N ps (defScope st)) (len : ∀ vs H Q E, sp vs H Q E → vs.length = ps.length)
    (hbody : ∀ (cdv : Value) (A : Around) (outer : List Env) (s : Shared) (H : Hp) (vs : List V) (Q : VK) (E : XK), Room k (A.deeper (envOfC qual (defScope st) s.heap.objs.size f cdv)) → sp vs H Q E →
      ∃ t, PSsT (cxOf CX0 P w K mg base N qual (defScope st) f cdv A outer s H E) (defBody st) t ∧ t { nx := fun _ H' => Q .non H', rt := Q } (L2.start N vs) H) : FnT P w K mg base (k + 1) f fd ps sp := by
  obtain ⟨oc, od, kV, doc, pm, an, cdv, ct, osl, rfl, lk, hcd⟩ := F.ex
  refine ⟨len, fun A outer s H args us vs Q E h0 hr e0 hb r hsp => ?_⟩
  have hl := len _ _ _ _ hsp
  have KX : K.In s.heap := e0.mod.kin.keeps fun b o e => (e0.bs b o e).1
  have lim : s.heap.NoLimit := e0.mod.nolimit.keeps fun b o e => (e0.bs b o e).1
  have hkind : ∀ y ∈ ps.zip us, (defScope st).names.lookup y.1 = some .local ∨ ((defScope st).names.lookup y.1 = some .cell ∧ ((cellsFrom (s.heap.objs.size + 1) (defScope st).names []).lookup y.1).isSome = true) := fun ⟨n, v⟩ hy => by
    rcases S.par n (List.of_mem_zip hy).1 with q | q
    · exact .inl q
    · exact .inr ⟨q, PySem.W.cellsFrom_some _ _ _ (.inl q)⟩
  refine codeAny_call_function hr.depth (KX _ _ lk) rfl S.co S.gen rfl (PySem.W.codeRec_of KX hcd) (hb _ _ _ _ ?_)
  refine PySem.wpAny_with_toks h0 (wpAny_newFunctionEnv_cells S.kind hkind fun env he s1 x h1 => ?_)
  subst he
  refine ⟨lim.keeps x.toInCall.keep, codeAny_func ?_⟩
  obtain ⟨t, ht, hq⟩ := hbody cdv A outer s H vs Q E (hr.deeper _) hsp
  have I : Inv (cxOf CX0 P w K mg base N qual (defScope st) f cdv A outer s H E) [] (L2.start N vs) H s1 := inv_start S hr.hd e0 hl r x
  refine wpAny_mono (ht [] s1 (L2.start N vs) H _ h1 I hq) (fun fl s' hs => ?_) fun e s' hs => hs
  have fin : ∀ {σ' : L2.St} {H' : Hp} {v : V} {u : Value}, Inv (cxOf CX0 P w K mg base N qual (defScope st) f cdv A outer s H E) [] σ' H' s' → RelV v u → Q v H' → CE outer P w H s Q u s' :=
    fun {σ' H' v u} J rv q => ⟨v, H', J.os, J.bare, J.base, J.hok, rv, q⟩
  cases fl with
  | ret u =>
    obtain ⟨v, σ', H', J, rv, q⟩ := hs
    exact fin J rv q
  | next =>
    obtain ⟨σ', H', J, q⟩ := hs
    exact fin (v := V.non) (u := Value.none) J rfl q
  | brk =>
    obtain ⟨_, _, _, q⟩ := hs
    exact False.elim q
  | cont =>
    obtain ⟨_, _, _, q⟩ := hs
    exact False.elim q
end
section
variable {X : Cx} {k j : Nat} {f : Addr} {fd : FuncData} {ps : List Str} {sp : Sp} {ds : List Value} {dvs : List V} {E : XK}
theorem run_fnT {pins : List (Addr × Obj)} {σ : L2.St} {H : Hp} {s : Shared} {Q : VK} {us : List Value} {vs : List V} (F : FnT X.prog X.w X.K X.mg X.base k f fd ps sp) (h0 : 1 ≤ s.toks) (hr : Room k X.A) (hb : Binds X.K fd ps ds) (hd : Vals dvs ds)
    (I : Inv X pins σ H s) (r : Vals vs us) (h : sp (vs ++ dvs) H Q E0) : wpAny (model X.prog X.w) X.A (call (.ref f) us) (EP X pins σ Q) X.xe s := by
  have r2 : Vals (vs ++ dvs) (us ++ ds) := r.append hd
  have hl : (us ++ ds).length = ps.length := by rw [← r2.length]; exact F.len _ _ _ _ h
  refine wpAny_call (codeAny_mono (F.run X.A X.stack s H ⟨us, []⟩ (us ++ ds) (vs ++ dvs) Q E0 h0 hr I.env0 (hb s us I.kIn hl) r2 h) fun r s' hq => ?_)
  cases r with
  | error e => exact (pass0 (X := X)) pins σ H s e s' I hq
  | ok fl =>
    cases fl with
    | ret u => exact I.after hq
    | next => exact False.elim hq
    | brk => exact False.elim hq
    | cont => exact False.elim hq
theorem FnT.mono {P : Program} {w : World} {K : PySem.W.Frag} {mg : Str → Option Value} {base : Heap} (F : FnT P w K mg base j f fd ps sp) (h : j ≤ k) : FnT P w K mg base k f fd ps sp :=
  ⟨F.len, fun A outer s H args us vs Q E h0 hr => F.run A outer s H args us vs Q E h0 (hr.mono h)⟩
end
structure DfT (P : Program) (w : World) (K : PySem.W.Frag) (mg : Str → Option Value) (base : Heap) (k : Nat) (nm : Str) (ps : List Str) (sp : Sp) : Prop where
  ex : ∃ f fd, FnT P w K mg base k f fd ps sp ∧ Binds K fd ps [] ∧ PySem.W.keepIn K (.ref f) = true ∧ mg nm = some (.ref f)
theorem Df.t {P : Program} {w : World} {K : PySem.W.Frag} {mg : Str → Option Value} {base : Heap} {k : Nat} {nm : Str} {ps : List Str} {sp : Sp} (D : Df P w K mg base k nm ps sp) : DfT P w K mg base k nm ps sp := by
  obtain ⟨f, fd, G, b, kp, m⟩ := D.ex
  exact ⟨f, fd, .of G, b, kp, m⟩
theorem pet_df {X : Cx} {k j : Nat} {nm : Str} {ps : List Str} {sp : Sp} {e : Expr} {es : List Expr} {t : TA} {p pos : Pos} (D : DfT X.prog X.w X.K X.mg X.base k nm ps sp) (hr : Room j X.A) (ha : PAT X (e :: es) t) (hg : Gl X nm := by rfl) (hk : k ≤ j := by omega)
    (hdb : (nm == ("__debug__" : Str)) = false := by decide) (he : starEach (e :: es) X.env = (false, eval e X.env) :: starEach es X.env := by rfl) (hpl : (backTo pos (starEach es X.env)).any (·.1) = false := by rfl) :
    PET X (.Call (.Name nm p) (e :: es) [] pos) (tCall sp [] E0 t) := by
  obtain ⟨f, fd, G, b, kp, m⟩ := D.ex
  intro pins s σ H Q h0 I h
  refine wpAny_Call_Name_kw (PySem.wpAny_with_toks h0 (ld_glob I hg m ?_ hdb))
  intro h1
  refine PySem.W.callWith_K (h₀ := X.base) I.ok.mod.kin kp (thnT h1 (ha pos pins s σ H _ h1 I h) fun us s1 h2 ⟨vs, H1, I1, r, q⟩ => ⟨I1.kIn, ?_⟩) he hpl
  exact run_fnT G h2 (hr.mono hk) b .nil I1 r q
/-- a loop whose body wants the token -/
theorem pst_for' {X : Cx} {tg iter : Expr} {body : List Stmt} {wi : TI} {g : TG} {tb : TS} {pos : Pos} (hp : PassesOwn (model X.prog X.w) X.A X.env X.xe) (hc : X.calm = true) (hi : PI X tg iter wi) (hg : PG X tg g) (hb : PSsT X body tb)
    (hs : ∀ x, foldedSetIterable iter X.env x = pure x := by intro _; rfl) : PST X (.For tg iter body [] pos) (tFor wi g tb) := by
  intro pins s σ H D h0 I h
  refine wpAny_For (thnT h0 (hi.run pins s σ H _ I h) fun v s1 h1 hv => thnT h1 hv fun itv s2 h2 hh => ?_) hs
  obtain ⟨it, fp, tn, J, H2, e, I2, T, st2, f2, W, ⟨m0, w0⟩, turn⟩ := hh
  subst e
  have stat : ∀ {H' : Hp}, (∀ b ∈ fp, H' b = none) → ∀ b ∈ fp, FpOk X pins H' b := fun hn b hb => ⟨hn b hb, (f2 b hb).2⟩
  refine codeAny_forLoop_any (fun n s' => 1 ≤ s'.toks ∧ ∃ i σ' H', Inv X pins σ' H' s' ∧ tn i s'.heap ∧ (∀ b ∈ fp, H' b = none) ∧ W i n σ' H') ?_ m0 ⟨h2, 0, σ, H2, I2, st2, fun b hb => (f2 b hb).1, w0⟩
  rintro n s3 ⟨h3, i, σ3, H3, I3, st3, fr3, w3⟩
  rcases turn i n σ3 H3 w3 with ⟨stop, qn⟩ | ⟨go, N, hN, step⟩
  · refine wpAny_passesOwn hp (thn (T.done X rfl rfl rfl hc i pins s3 σ3 H3 X.xe I3 (stat fr3) st3 stop) fun r s4 ⟨hr, I4⟩ => ?_)
    subst hr
    exact wpAny_execs_nil ⟨σ3, H3, I4, qn⟩
  · refine wpAny_passesOwn hp (thnT h3 (T.item X rfl rfl rfl hc i pins s3 σ3 H3 X.xe I3 (stat fr3) st3 go) fun r s4 h4 ⟨u, hr, hh4⟩ => ?_)
    subst hr
    refine wpAny_passesOwn hp (thnT h4 hh4 fun _ s5 h5 ⟨x, H5, I5, r5, y5, st5, fr5⟩ => ?_)
    have I5' := I5.pinned (stat fr5) (T.obj _ _ st5)
    refine wpAny_passesOwn hp (thnT h5 (hg.run _ s5 σ3 H5 x u _ I5' r5 (step x H5 y5)) fun _ s6 h6 ⟨σ6, H6, I6, q6⟩ => ?_)
    refine wpAny_passesOwn hp (thnT h6 (hb _ s6 σ6 H6 _ h6 I6 q6) fun f s7 h7 q7 => ?_)
    have again : ∀ {σ7 : L2.St} {H7 : Hp}, Inv X (pins ++ pinsAt fp s5.heap) σ7 H7 s7 → N σ7 H7 → ∃ m, m < n ∧ 1 ≤ s7.toks ∧ ∃ i σ' H', Inv X pins σ' H' s7 ∧ tn i s7.heap ∧ (∀ b ∈ fp, H' b = none) ∧ W i m σ' H' := fun {σ7 H7} I7 n7 => by
      obtain ⟨m', hm, w7⟩ := hN σ7 H7 n7
      refine ⟨m', hm, h7, i + 1, σ7, H7, I7.unpinned, T.keep _ _ _ st5 fun b hb o e => (I7.pin (b, o) (List.mem_append_right _ (List.mem_append_right _ (mem_pinsAt hb e)))).1, fun b hb => ?_, w7⟩
      obtain ⟨o, e, d⟩ := T.obj _ _ st5 b hb
      exact (I7.pin (b, o) (List.mem_append_right _ (List.mem_append_right _ (mem_pinsAt hb e)))).2.1
    cases f with
    | next => obtain ⟨σ7, H7, I7, n7⟩ := q7; exact again I7 n7
    | cont => obtain ⟨σ7, H7, I7, n7⟩ := q7; exact again I7 n7
    | brk => obtain ⟨σ7, H7, I7, q7⟩ := q7; exact ⟨σ7, H7, I7.unpinned, q7⟩
    | ret v => obtain ⟨x7, σ7, H7, I7, r7, q7⟩ := q7; exact ⟨x7, σ7, H7, I7.unpinned, r7, q7⟩
end Tb

set_option Elab.async false
set_option linter.all false
set_option maxRecDepth 100000
set_option maxHeartbeats 4000000
/-! for x in text: if rest.count(x) > 1: return False; rest = rest.replace(x, "") -/
namespace Tb
open PySem PySem.Spec PyProof.Rows L2
section
variable {X : Cx} {pins : List (Addr × Obj)} {σ : L2.St} {H : Hp} {s : Shared}
/-- a name's store: the value is the very same, and a token is given out -/
theorem store_okN {M : Model} {A : Around} {E : Value → Shared → Prop} {i : Nat} {x : Str} {v : V} {u : Value} {Q : Unit → Shared → Prop} (I : Inv X pins σ H s) (hN : X.N.Nodup) (hi : X.N[i]? = some x) (hk : X.env.scope.names.lookup x = some .local) (r : RelV v u)
    (h : ∀ s' m, Inv X pins (σ.set i (some v)) H s' → s'.heap.Ns X.env.locals m → m x = some u → s'.toks = s.toks + 1 → Heap.SameBut X.env.locals s.heap s'.heap → Q () s') : wpAny M A (storeName X.env x u) Q E s := by
  obtain ⟨m, hn, hl⟩ := id I.loc
  have hcls : (X.env.scope.kind == .class || (X.env.scope.kind == .module && X.env.locals != X.env.globals)) = false := by rw [I.ok.kind]; rfl
  have hiσ : i < σ.length := by rw [I.len]; exact (List.getElem?_eq_some_iff.mp hi).1
  have cne := I.cne
  refine wpAny_storeName_local hk hn (fun h' hn' hs => ?_) hcls
  obtain ⟨oL, _, _, hoL, _⟩ := id hn
  have tracked : HOk X.prog X.w H h' := fun b ob e => by
    refine (I.hok b ob e).stay (fun c w' hc q => (hs.2 c ?_).trans q) (fun _ q => q) fun _ _ q => q
    rintro rfl
    rcases hc with rfl | hc
    · rw [I.free] at e; cases e
    · rw [I.free] at hc; cases hc
  refine h _ _ ⟨I.ok, I.os, I.bare, ⟨fun b o e n hb hx => ?_, fun b o e n hb hx => ?_, I.base.free, fun b o e hx => ?_, I.base.tups, I.base.frzs, I.base.tbls⟩, ⟨_, hn', fun j y v' e1 e2 e3 => ?_⟩, fun y c e => ?_, I.free, I.freeC, fun p hp => ?_, tracked, by simpa using I.len⟩ hn' (by simp) rfl hs
  · exact (hs.2 b (Nat.ne_of_lt (Nat.lt_of_lt_of_le (Heap.lt_size e) I.ok.above))).trans (I.base.keep b o e n hb hx)
  · obtain ⟨sl, e1⟩ := I.base.slot b o e n hb hx
    exact ⟨sl, (hs.2 b (Nat.ne_of_lt (Nat.lt_of_lt_of_le (Heap.lt_size e) I.ok.above))).trans e1⟩
  · obtain ⟨o', e1⟩ := I.base.there b o e hx
    exact ⟨o', (hs.2 b (Nat.ne_of_lt (Nat.lt_of_lt_of_le (Heap.lt_size e) I.ok.above))).trans e1⟩
  · by_cases hj : j = i
    · subst hj
      rw [hi] at e1; cases e1
      rw [List.getElem?_set_self hiσ] at e2
      cases e2
      exact ⟨u, r, .inl ⟨hk, by simp⟩⟩
    · rw [List.getElem?_set_ne (Ne.symm hj)] at e2
      obtain ⟨u', r', q⟩ := hl j y v' e1 e2 e3
      refine ⟨u', r', ?_⟩
      rcases q with ⟨k, e⟩ | ⟨k, c, e, z⟩
      · refine .inl ⟨k, ?_⟩
        have : y ≠ x := fun e => hj (nodup_ix hN e1 (e ▸ hi))
        simp [this, e]
      · exact .inr ⟨k, c, e, z.sameBut hs (cne y c e)⟩
  · obtain ⟨w', z⟩ := I.cell y c e
    exact ⟨w', z.sameBut hs (cne y c e)⟩
  · obtain ⟨e, n, ne, nf, d⟩ := I.pin p hp
    exact ⟨(hs.2 p.1 ne).trans e, n, ne, nf, d⟩
end
section
variable {X : Cx}
/-- behind a store a token is out -/
theorem pss_tok {i : Nat} {x : Str} {e : Expr} {te : TE} {rest : List Stmt} {u : TS} {pos' pos : Pos} (hN : X.N.Nodup) (hi : X.N[i]? = some x) (hk : X.env.scope.names.lookup x = some .local) (he : PE X e te) (h2 : PSsT X rest u)
    (hs : swapsWith e (some (.Name x pos')) pos.line X.env = pure false := by rfl) : PSs X (.Assign [.Name x pos'] e pos :: rest) (tSeq (tAsg te (gName i)) u) := by
  refine ⟨fun pins s σ H D I h => ?_⟩
  refine wpAny_execs_cons (wpAny_Assign_Name (thn (he.run pins s σ H _ I h) fun v s1 ⟨y, H1, I1, r1, q1⟩ => ?_) hs)
  exact store_okN I1 hN hi hk r1 fun s2 m I2 _ _ ht _ => h2 pins s2 _ H1 D (by omega) I2 q1
/-- a body that may use the token of the text in the name x -/
def PSb (X : Cx) (x : Str) (body : List Stmt) (i : Nat) (tb : TS) : Prop :=
  ∀ (pins : List (Addr × Obj)) (s : Shared) (σ : L2.St) (H : Hp) (D : Ends) (c : Nat) (u : Tok) (m : Str → Option Value), 1 ≤ u → u < s.toks → Inv X pins σ H s → s.heap.Ns X.env.locals m → m x = some (.str ⟨#[c]⟩ u) → σ[i]? = some (some (.str ⟨#[c]⟩)) → tb D σ H →
    wpAny (model X.prog X.w) X.A (execs body X.env) (SP X pins D) X.xe s
/-- for x in text, x's token known in the body -/
theorem pst_forS {x : Str} {i : Nat} {e : Expr} {te : TE} {body : List Stmt} {tb : TS} {px pos : Pos} (hp : PassesOwn (model X.prog X.w) X.A X.env X.xe) (hc : X.calm = true) (hN : X.N.Nodup) (hi : X.N[i]? = some x) (hk : X.env.scope.names.lookup x = some .local)
    (he : PE X e te) (hb : PSb X x body i tb) (hs : ∀ x, foldedSetIterable e X.env x = pure x := by intro _; rfl) : PST X (.For (.Name x px) e body [] pos) (tFor (iStr te) (gName i) tb) := by
  intro pins s σ H D h0 I h
  refine wpAny_For (thnT h0 (he.run pins s σ H _ I h) fun v s1 h1 ⟨y, H2, I1, r1, z, ez, W, ⟨m0, w0⟩, turn⟩ => ?_) hs
  subst ez
  obtain ⟨t, rfl⟩ := r1
  obtain ⟨ty, hty, key⟩ : ∃ ty, (ty = "str_ascii_iterator" ∨ ty = "str_iterator") ∧ ∀ Q : Value → Shared → Prop, Q (.ref s1.heap.objs.size) { s1 with heap := s1.heap.push { cls := .type ty, data := .fields #[.str z t, .int 0 0] } } → wpAny (model X.prog X.w) X.A (pyIter (.str z t)) Q X.xe s1 := by
    cases ha : z.cps.all (· < 128)
    · exact ⟨_, .inr rfl, fun Q h => wpAny_pyIter_wide ha h⟩
    · exact ⟨_, .inl rfl, fun Q h => wpAny_pyIter_ascii ha h⟩
  have T := turn_str (P := X.prog) (w := X.w) (K := X.K) (tg := .Name x px) s1.heap.objs.size z t ty hty
  have item : ∀ {s3 : Shared} {j c : Nat} {Q : Option Value → Shared → Prop}, s3.heap.IsStrIter s1.heap.objs.size ty z t j → z.cps[j]? = some c →
      (∀ h', h'.IsStrIter s1.heap.objs.size ty z t (j + 1) → Heap.SameBut s1.heap.objs.size s3.heap h' → Q (some (.str ⟨#[c]⟩ s3.toks)) { s3 with heap := h', toks := s3.toks + 1 }) → wpAny (model X.prog X.w) X.A (pyNext (.ref s1.heap.objs.size)) Q X.xe s3 := fun {s3 j c Q} st hx hQ => by
    rcases hty with e | e
    · subst e
      exact wpAny_pyNext_ascii_item st hx hQ
    · subst e
      exact wpAny_pyNext_wide_item st hx hQ
  have hno : ["enumerate", "zip", "dict_itemiterator", "dict_reverseitemiterator", "odict_iterator", "itertools.zip_longest", "itertools.pairwise"].contains ty = false := by
    rcases hty with e | e
    · rw [e]; decide
    · rw [e]; decide
  refine key _ ?_
  have I2 : Inv X pins σ H2 { s1 with heap := s1.heap.push { cls := .type ty, data := .fields #[.str z t, .int 0 0] } } := I1.kept (t' := s1.toks) fun b ob q => Heap.get?_push_of_some _ q
  have f2 : ∀ b ∈ [s1.heap.objs.size], FpOk X pins H2 b := fun b hb => by
    rw [List.mem_singleton.mp hb]
    exact I1.fpOk (Nat.le_refl _) (I1.hok.fresh (Nat.le_refl _))
  have st2 : (s1.heap.push { cls := .type ty, data := .fields #[.str z t, .int 0 0] }).IsStrIter s1.heap.objs.size ty z t 0 := ⟨_, Heap.get?_push_size _ rfl, rfl, rfl⟩
  have stat : ∀ {H' : Hp}, (∀ b ∈ [s1.heap.objs.size], H' b = none) → ∀ b ∈ [s1.heap.objs.size], FpOk X pins H' b := fun hn b hb => ⟨hn b hb, (f2 b hb).2⟩
  obtain ⟨it, hit⟩ : ∃ it, it = s1.heap.objs.size := ⟨_, rfl⟩
  rw [← hit] at T item f2 st2 stat ⊢
  refine codeAny_forLoop_any (fun n s' => 1 ≤ s'.toks ∧ ∃ i' σ' H', Inv X pins σ' H' s' ∧ s'.heap.IsStrIter it ty z t i' ∧ (∀ b ∈ [it], H' b = none) ∧ W i' n σ' H') ?_ m0 ⟨h1, 0, σ, H2, I2, st2, fun b hb => (f2 b hb).1, w0⟩
  rintro n s3 ⟨h3, i', σ3, H3, I3, st3, fr3, w3⟩
  rcases turn i' n σ3 H3 w3 with ⟨stop, qn⟩ | ⟨go, N, hNN, step⟩
  · refine wpAny_passesOwn hp (thn (T.done X rfl rfl rfl hc i' pins s3 σ3 H3 X.xe I3 (stat fr3) st3 stop) fun r s4 ⟨hr, I4⟩ => ?_)
    subst hr
    exact wpAny_execs_nil ⟨σ3, H3, I4, qn⟩
  · have go : i' < z.cps.size := go
    have hx : z.cps[i']? = some z.cps[i'] := Array.getElem?_eq_getElem go
    obtain ⟨c, hcx⟩ : ∃ c, z.cps[i']? = some c := ⟨_, hx⟩
    obtain ⟨f0, f1, f3, f4, f5, f6⟩ := stat fr3 it (List.mem_singleton.mpr rfl)
    refine wpAny_passesOwn hp (thn (item (Q := fun r s4 => r = some (.str ⟨#[c]⟩ s3.toks) ∧ ∃ h', s4 = { s3 with heap := h', toks := s3.toks + 1 } ∧ h'.IsStrIter it ty z t (i' + 1) ∧ Heap.SameBut it s3.heap h') st3 hcx fun h' a b => ⟨rfl, h', rfl, a, b⟩) fun r s4 ⟨hr, h', e4, st4, sb⟩ => ?_)
    subst hr e4
    have I4 : Inv X pins σ3 H3 { s3 with heap := h', toks := s3.toks + 1 } := I3.turned (fun b o hb e => (sb.2 b hb).trans e) f0 f1 f4 f5 f6
    obtain ⟨oi, eo, co, dd⟩ := id st4
    refine wpAny_passesOwn hp (go_of (s := { s3 with heap := h', toks := s3.toks + 1 }) eo co dd hno ?_)
    have I5' := I4.pinned (fp := [it]) (fun b hb => stat fr3 b hb) (T.obj (i' + 1) h' st4)
    refine wpAny_passesOwn hp (wpAny_assign_Name (store_okN I5' hN hi hk (v := V.str ⟨#[c]⟩) ⟨_, rfl⟩ fun s6 m I6 n6 e6 t6 _ => ?_))
    have q6 := step (.str ⟨#[c]⟩) H3 ⟨rfl, c, hcx, rfl⟩
    have hiσ : i < σ3.length := by rw [I3.len]; exact (List.getElem?_eq_some_iff.mp hi).1
    have t6' : s6.toks = s3.toks + 1 + 1 := t6
    refine wpAny_passesOwn hp (thnT (by rw [t6']; exact Nat.succ_le_succ (Nat.zero_le _)) (hb _ s6 _ _ _ c s3.toks m h3 (show s3.toks < s6.toks by rw [t6']; exact Nat.lt_succ_of_lt (Nat.lt_succ_self _)) I6 n6 e6 (by rw [List.getElem?_set_self hiσ]) q6) fun f s7 h7 q7 => ?_)
    have again : ∀ {σ7 : L2.St} {H7 : Hp}, Inv X (pins ++ pinsAt [it] h') σ7 H7 s7 → N σ7 H7 → ∃ m, m < n ∧ 1 ≤ s7.toks ∧ ∃ i' σ' H', Inv X pins σ' H' s7 ∧ s7.heap.IsStrIter it ty z t i' ∧ (∀ b ∈ [it], H' b = none) ∧ W i' m σ' H' := fun {σ7 H7} I7 n7 => by
      obtain ⟨m', hm, w7⟩ := hNN σ7 H7 n7
      refine ⟨m', hm, h7, i' + 1, σ7, H7, I7.unpinned, T.keep _ _ _ st4 fun b hb o e => (I7.pin (b, o) (List.mem_append_right _ (List.mem_append_right _ (mem_pinsAt hb e)))).1, fun b hb => ?_, w7⟩
      obtain ⟨o, e, d⟩ := T.obj _ _ st4 b hb
      exact (I7.pin (b, o) (List.mem_append_right _ (List.mem_append_right _ (mem_pinsAt hb e)))).2.1
    cases f with
    | next => obtain ⟨σ7, H7, I7, n7⟩ := q7; exact again I7 n7
    | cont => obtain ⟨σ7, H7, I7, n7⟩ := q7; exact again I7 n7
    | brk => obtain ⟨σ7, H7, I7, q7⟩ := q7; exact ⟨σ7, H7, I7.unpinned, q7⟩
    | ret v => obtain ⟨x7, σ7, H7, I7, r7, q7⟩ := q7; exact ⟨x7, σ7, H7, I7.unpinned, r7, q7⟩
end
end Tb

set_option Elab.async false
set_option linter.all false
set_option maxRecDepth 100000
set_option maxHeartbeats 4000000
namespace Tb
open PySem PySem.Spec PyProof.Rows L2
section
variable {X : Cx} {pins : List (Addr × Obj)} {σ : L2.St} {H : Hp} {s : Shared}
/-- what the body does: the text at ir, the sign at ib -/
def tRm (ir ib : Nat) : TS := fun D σ H => ∃ (z : Str) (c : Nat), σ[ir]? = some (some (.str z)) ∧ σ[ib]? = some (some (.str ⟨#[c]⟩)) ∧
  if Txt.count z ⟨#[c]⟩ > 1 then D.rt (.bl false) H else z.length ≤ 16777216 ∧ D.nx (σ.set ir (some (.str (Txt.replace z ⟨#[c]⟩ Str.empty)))) H
theorem ld_known {x : Str} {pos : Pos} {m : Str → Option Value} {v : Value} {Q E : Value → Shared → Prop} (I : Inv X pins σ H s) (hk : X.env.scope.names.lookup x = some .local) (hn : s.heap.Ns X.env.locals m) (hm : m x = some v) (fin : Q v s) (hd : (x == ("__debug__" : Str)) = false := by decide) :
    wpAny (model X.prog X.w) X.A (eval (.Name x pos) X.env) Q E s := wpAny_Name (wpAny_loadName_local I.ok.kind hk hn hm fin) hd
theorem psb_rm {ir ib : Nat} {xr xb : Str} {p1 p2 p3 p4 p5 p6 p7 p8 p9 p10 p11 p12 p13 p14 : Pos} {j1 j2 : Nat} (hN : X.N.Nodup) (hir : X.N[ir]? = some xr) (hkr : X.env.scope.names.lookup xr = some .local) (hib : X.N[ib]? = some xb) (hkb : X.env.scope.names.lookup xb = some .local)
    (hs1 : starEach [.Name xb p3] X.env = [(false, eval (.Name xb p3) X.env)] := by rfl)
    (hbase1 : attributeBase (.Name xr p1) "count" X.env (eval (.Name xr p1) X.env) = eval (.Name xr p1) X.env := by rfl) (hline1 : (p2.endLine == p4.line) = true := by rfl)
    (hs2 : starEach [.Name xb p11, .Constant (.str Str.empty) j2 p12] X.env = [(false, eval (.Name xb p11) X.env), (false, eval (.Constant (.str Str.empty) j2 p12) X.env)] := by rfl)
    (hbase2 : attributeBase (.Name xr p9) "replace" X.env (eval (.Name xr p9) X.env) = eval (.Name xr p9) X.env := by rfl) (hline2 : (p10.endLine == p13.line) = true := by rfl)
    (hsw : swapsWith (.Call (.Attribute (.Name xr p9) "replace" p10) [.Name xb p11, .Constant (.str Str.empty) j2 p12] [] p13) (some (.Name xr p8)) p14.line X.env = pure false := by rfl)
    (d1 : (xr == ("__debug__" : Str)) = false := by decide) (d2 : (xb == ("__debug__" : Str)) = false := by decide) (d3 : (xr == ("__classdict__" : Str)) = false := by decide) {st : List Stmt} (hret : PSs X st (tRet (tC (.bl false)))) :
    PSb X xb [.If (.Compare (.Call (.Attribute (.Name xr p1) "count" p2) [.Name xb p3] [] p4) [.Gt] [.Constant (.int 1) j1 p5] p6) st [] p7,
      .Assign [.Name xr p8] (.Call (.Attribute (.Name xr p9) "replace" p10) [.Name xb p11, .Constant (.str Str.empty) j2 p12] [] p13) p14] ib (tRm ir ib) := by
  intro pins s σ H D c u m hu0 hu I hn hm hσ h
  obtain ⟨z, c', hz, hc', h⟩ := h
  rw [hσ] at hc'
  have ec : c = c' := by
    have h1 := Option.some.inj (Option.some.inj hc')
    injection h1 with h1
    have h2 := congrArg (fun y : Str => y.cps) h1
    have h2 : #[c] = #[c'] := h2
    injection h2 with h3
    injection h3
  subst ec
  refine wpAny_execs_cons (wpAny_If (wpAny_isTrue_Compare1 (PySem.Call_method1 hbase1 hs1 hline1 (raw_name hir (.inl hkr) I hz (fun v r => ?_) d1 d3))))
  obtain ⟨tz, rfl⟩ := r
  refine ⟨"str", _, F.plainAttrs_str, F.slot_str_count, F.type_str_count, typeIs_str _ _ _, (fun _ e => nomatch e), Calls.callWith_builtin rfl (Calls.evalArgs_plain (Calls.spliced_cons (ld_known I hkb hn hm (Calls.spliced_nil ?_) d2)))⟩
  refine PySem.SC.count ?_
  refine wpAny_Constant_int ?_
  refine gt_int ?_
  refine wpAny_truthy_bool ?_
  have I2 : Inv X pins σ H { s with toks := s.toks + 1 + 1 } := I.tok _
  by_cases hc : Txt.count z ⟨#[c]⟩ > 1
  · rw [if_pos hc] at h
    rw [decide_eq_true (show (1 : Int) < Txt.count z ⟨#[c]⟩ from hc)]
    refine wpAny_mono (hret.run pins _ σ H { D with nx := fun _ _ => False } I2 h) (fun f s1 q => ?_) fun _ _ x => x
    cases f with
    | next =>
      obtain ⟨_, _, _, q⟩ := q
      exact q.elim
    | ret v => exact q
    | brk => exact q
    | cont => exact q
  · rw [if_neg hc] at h
    obtain ⟨hl, h⟩ := h
    rw [decide_eq_false (show ¬ (1 : Int) < Txt.count z ⟨#[c]⟩ from hc)]
    refine wpAny_execs_nil ?_
    refine wpAny_execs_cons (wpAny_Assign_Name (PySem.Call_method2 hbase2 hs2 hline2 (raw_name hir (.inl hkr) I2 hz (fun v r => ?_) d1 d3)) hsw)
    obtain ⟨tz2, rfl⟩ := r
    refine ⟨"str", _, F.plainAttrs_str, F.slot_str_replace, F.type_str_replace, typeIs_str _ _ _, (fun _ e => nomatch e), Calls.callWith_builtin rfl (Calls.evalArgs_plain (Calls.spliced_cons (ld_known I2 hkb hn hm (Calls.spliced_cons (Calls.Constant_str (Calls.spliced_nil ?_))) d2)))⟩
    have hu2 : u < s.toks + 1 + 1 := Nat.lt_succ_of_lt (Nat.lt_succ_of_lt hu)
    refine PySem.SC.replace (Nat.ne_of_gt hu0) (Nat.ne_of_gt (Nat.succ_pos _)) (Nat.ne_of_lt hu2) rfl (by rw [show Str.empty.length = 0 from rfl]; omega) fun t' k => ?_
    exact store_okN (I2.tok k) hN hir hkr (v := V.str (Txt.replace z ⟨#[c]⟩ Str.empty)) ⟨_, rfl⟩ fun s' m' I3 _ _ _ _ => wpAny_execs_nil ⟨_, H, I3, h⟩
end
end Tb

set_option Elab.async false
set_option linter.all false
set_option maxRecDepth 100000
set_option maxHeartbeats 2000000
namespace Tb
open PySem PySem.Spec PyProof.Rows L2 TL
theorem op_notIn_sign {X : Cx} : OpR X (compareOp .NotIn) (fun x y H Q => ∃ (c : Nat) (z : Str), x = .str ⟨#[c]⟩ ∧ y = .str z ∧ Q (.bl (!decide (c ∈ z.cps.toList))) H) := OpR.weak op_notIn_str fun x y H Q ⟨c, z, e1, e2, q⟩ => ⟨_, z, e1, e2, by rw [PySem.StrLaws.found_one]; exact q⟩
/-! ### is_filling -/
def caps (cs : List Nat) : List Nat := cs.filter fun c => !isLow c
def isFill (cs bs : List Nat) : Bool := decide (caps cs).Nodup && (caps cs).all fun c => decide (c ∈ bs)
theorem isFill_iff {cs bs : List Nat} : isFill cs bs = true ↔ (caps cs).Nodup ∧ ∀ c ∈ caps cs, c ∈ bs := by
  unfold isFill
  rw [Bool.and_eq_true, List.all_eq_true]
  exact ⟨fun ⟨a, b⟩ => ⟨of_decide_eq_true a, fun c hc => of_decide_eq_true (b c hc)⟩, fun ⟨a, b⟩ => ⟨decide_eq_true a, fun c hc => decide_eq_true (b c hc)⟩⟩
theorem caps_split {cs : List Nat} {j c : Nat} (h : cs[j]? = some c) (hl : isLow c = false) : caps cs = caps (cs.take j) ++ c :: caps (cs.drop (j + 1)) := by
  have e : cs = cs.take j ++ c :: cs.drop (j + 1) := by
    obtain ⟨h1, h2⟩ := List.getElem?_eq_some_iff.mp h
    rw [← h2, ← List.drop_eq_getElem_cons h1, List.take_append_drop]
  unfold caps
  conv => lhs; rw [e]
  rw [List.filter_append, List.filter_cons, if_pos (by rw [hl]; rfl)]
theorem caps_take {cs : List Nat} {j c : Nat} (h : cs[j]? = some c) : caps (cs.take (j + 1)) = caps (cs.take j) ++ (if isLow c = true then [] else [c]) := by
  have et : cs.take (j + 1) = cs.take j ++ [c] := by
    rw [List.take_add_one, h]
    rfl
  unfold caps
  rw [et, List.filter_append]
  congr 1
  by_cases hl : isLow c = true
  · simp [List.filter_cons, hl]
  · simp [List.filter_cons, hl]
theorem count_S (cs : List Nat) (c : Nat) : Txt.count (S cs) ⟨#[c]⟩ = (cs.count c : Int) := by
  rw [count_is]
  show PyProof.Rows.cnt c cs = _
  induction cs with
  | nil => rfl
  | cons a r ih =>
    rw [cnt_cons, ih, List.count_cons]
    by_cases h : a = c
    · rw [if_pos h, h, beq_self_eq_true, if_pos rfl]
      omega
    · rw [if_neg h, beq_false_of_ne h, if_neg Bool.false_ne_true]
      omega
theorem replL_filter (c : Nat) : ∀ l : List Nat, StrLaws.replL [c] [] l = l.filter fun x => decide (x ≠ c)
  | [] => StrLaws.replL_nil
  | a :: r => by
    by_cases h : a = c
    · rw [StrLaws.replL_hit (by simp) (by rw [h]; rfl), List.filter_cons_of_neg (by simp [h])]
      show [] ++ StrLaws.replL [c] [] r = _
      rw [List.nil_append, replL_filter c r]
    · rw [StrLaws.replL_miss (by intro z; have z : [a] = [c] := z; injection z with z; exact h z), List.filter_cons_of_pos (by simp [h]), replL_filter c r]
theorem replace_S (cs : List Nat) (c : Nat) : Txt.replace (S cs) ⟨#[c]⟩ Str.empty = S (cs.filter fun x => decide (x ≠ c)) := by
  refine ext_tl ?_
  have h := StrLaws.replace_list (x := S cs) (y := ⟨#[c]⟩) (z := Str.empty) (Nat.le_refl 1)
  show (Txt.replace (S cs) ⟨#[c]⟩ Str.empty).cps.toList = _
  rw [h]
  exact replL_filter c cs
/-- the signs that are none of these -/
def outOf (bs cs : List Nat) : List Nat := cs.filter fun x => decide (x ∉ bs)
theorem outOf_nil (cs : List Nat) : outOf [] cs = cs := by
  unfold outOf
  rw [List.filter_eq_self]
  exact fun _ _ => by simp
theorem outOf_snoc (bs cs : List Nat) (c : Nat) : outOf (bs ++ [c]) cs = (outOf bs cs).filter fun x => decide (x ≠ c) := by
  unfold outOf
  rw [List.filter_filter]
  refine List.filter_congr fun x _ => ?_
  simp
  exact Bool.and_comm _ _
theorem outOf_count (bs cs : List Nat) (c : Nat) (h : c ∉ bs) : (outOf bs cs).count c = cs.count c := by
  unfold outOf
  rw [List.count_filter (by simpa using h)]
theorem caps_count {cs : List Nat} {b : Nat} (h : isLow b = false) : (caps cs).count b = cs.count b := by
  unfold caps
  rw [List.count_filter (by rw [h]; rfl)]
theorem isFill_end {cs bs : List Nat} (hb : ∀ b ∈ bs, isLow b = false) (h : ∀ b ∈ bs, cs.count b ≤ 1) : isFill cs bs = (outOf bs cs).all isLow := by
  rw [Bool.eq_iff_iff, isFill_iff, List.all_eq_true]
  constructor
  · rintro ⟨_, h2⟩ c hc
    unfold outOf at hc
    obtain ⟨h3, h4⟩ := List.mem_filter.mp hc
    cases hl : isLow c with
    | true => rfl
    | false =>
      refine absurd (h2 c ?_) (of_decide_eq_true h4)
      unfold caps
      exact List.mem_filter.mpr ⟨h3, by rw [hl]; rfl⟩
  · intro h2
    have sub : ∀ c ∈ caps cs, c ∈ bs := fun c hc => by
      unfold caps at hc
      obtain ⟨h3, h4⟩ := List.mem_filter.mp hc
      by_cases z : c ∈ bs
      · exact z
      · have := h2 c (by unfold outOf; exact List.mem_filter.mpr ⟨h3, decide_eq_true z⟩)
        rw [this] at h4
        cases h4
    refine ⟨List.nodup_iff_count.mpr fun c => ?_, sub⟩
    by_cases z : c ∈ caps cs
    · rw [caps_count (hb c (sub c z))]
      exact h c (sub c z)
    · rw [List.count_eq_zero.mpr z]
      exact Nat.zero_le _
theorem isFill_two {cs bs : List Nat} {b : Nat} (hl : isLow b = false) (h : cs.count b > 1) : isFill cs bs = false := by
  rw [Bool.eq_false_iff]
  intro z
  have := List.nodup_iff_count.mp (isFill_iff.mp z).1 b
  rw [caps_count hl] at this
  omega
section
variable {P : Program} {w : World} {K : PySem.W.Frag} {mg : Str → Option Value} {base : Heap}
abbrev nIsFilling : List Str := ["thing", "boxes", "rest", "box"]
theorem scIsFilling : FnScope nIsFilling ["thing", "boxes"] (defScope sIsFilling) := ⟨rfl, rfl, rfl, by decide +kernel, rfl, by decide +kernel, by decide +kernel⟩
def spIsFilling (K : PySem.W.Frag) : Sp := fun vs H Q _ => (∃ cs bs : List Nat, vs = [.str (S cs), .str (S bs)] ∧ cs.length ≤ 1000 ∧ (∀ b ∈ bs, isLow b = false) ∧ ∀ H', Same H H' → Q (.bl (isFill cs bs)) H') ∨ (∃ x b, vs = [x, b] ∧ Isi K H x "str" false ∧ Q (.bl false) H)
theorem ok_isFilling {f : Addr} {fd : FuncData} {k : Nat} (F : Fun K "is_filling" "is_filling" sIsFilling f fd) (DT : Df P w K mg base (k + 1) "is_text" ["thing"] (spIsText K)) (mi : mg "isinstance" = none) (ms : mg "str" = none) : FnOk P w K mg base CX0 (k + 2) f fd ["thing", "boxes"] (spIsFilling K) := by
  refine F.ok scIsFilling (fun vs H Q E h => ?_) (fun cdv A outer s H vs Q E hr h => ?_)
  · rcases h with ⟨cs, bs, rfl, _⟩ | ⟨x, b, rfl, _⟩ <;> rfl
  · refine ⟨_, pss_cons (ps_if (pt_not (pt_val (pe_isStr (pv 0) mi (by rfl) ms (by rfl)))) (pss_one (ps_ret pe_bl)) pss_nil)
      (pss_tok (i := 2) scIsFilling.nd rfl rfl (pv 0)
      (psst_cons (pst_forS PassesOwn.never rfl scIsFilling.nd (i := 3) rfl rfl (pv 1) (psb_rm (ir := 2) (ib := 3) scIsFilling.nd rfl rfl rfl rfl (hret := pss_one (ps_ret pe_bl))))
      (PSsT.of (pss_one (ps_ret (pe_df DT hr (pa_cons (pv 2) pa_nil))))))), ?_⟩
    rcases h with ⟨cs, bs, rfl, hl, hb, q⟩ | ⟨x, b, rfl, hx, q⟩
    · refine ⟨_, rfl, true, isi_str _, true, rfl, iteF ?_⟩
      refine ⟨_, rfl, ?_⟩
      refine ⟨_, rfl, S bs, rfl, for_it (walk_str (z := S bs)) (fun j σ H' => ∃ v3, σ = [some (.str (S cs)), some (.str (S bs)), some (.str (S (outOf (bs.take j) cs))), v3] ∧ Same H H' ∧ ∀ b ∈ bs.take j, cs.count b ≤ 1)
        ⟨none, by rw [List.take_zero, outOf_nil]; rfl, fun _ _ e => e, fun b hb => (nomatch hb)⟩ (fun _ _ _ _ _ => trivial) ?_ ?_⟩
      · rintro j x σ H2 H2' hj ⟨v3, rfl, s2, hc⟩ ⟨rfl, c, hx, rfl⟩
        have hx' : bs[j]? = some c := by
          rw [show (S bs).cps = bs.toArray from rfl, List.getElem?_toArray] at hx
          exact hx
        have hm := List.mem_of_getElem? hx'
        have et : bs.take (j + 1) = bs.take j ++ [c] := by
          rw [List.take_add_one, hx']
          rfl
        refine ⟨S (outOf (bs.take j) cs), c, rfl, rfl, ?_⟩
        rw [count_S, replace_S, ← outOf_snoc, ← et]
        by_cases h1 : ((outOf (bs.take j) cs).count c : Int) > 1
        · rw [if_pos h1]
          have h2 : cs.count c > 1 := by
            have : (outOf (bs.take j) cs).count c ≤ cs.count c := List.Sublist.count_le _ List.filter_sublist
            omega
          have h3 := q _ s2
          rw [isFill_two (hb c hm) h2] at h3
          exact h3
        · rw [if_neg h1]
          refine ⟨?_, _, rfl, s2, fun b hb' => ?_⟩
          · rw [len_S]
            have : (outOf (bs.take j) cs).length ≤ cs.length := List.length_filter_le _ _
            omega
          · rw [et] at hb'
            rcases List.mem_append.mp hb' with z | z
            · exact hc b z
            · rw [List.mem_singleton.mp z]
              by_cases hin : c ∈ bs.take j
              · exact hc c hin
              · rw [outOf_count _ _ _ hin] at h1
                omega
      · rintro σ H2 ⟨v3, rfl, s2, hc⟩
        have lsz : (S bs).cps.size = bs.length := rfl
        rw [lsz, List.take_length] at hc
        rw [lsz, List.take_length]
        have ho : (outOf bs cs).length ≤ cs.length := List.length_filter_le _ _
        refine ⟨_, rfl, .inl ⟨outOf bs cs, rfl, by omega, fun H3 s3 => ?_⟩⟩
        rw [← isFill_end hb hc]
        exact q _ (s2.trans s3)
    · exact ⟨_, rfl, false, hx, false, rfl, iteT q⟩
end
end Tb

set_option Elab.async false
set_option linter.all false
set_option maxRecDepth 100000
set_option maxHeartbeats 2000000
namespace Tb
open PySem PySem.Spec PyProof.Rows L2 TL
/-! ### d.items() walked, d a dict whose keys are tuples -/
def Itit (d : Addr) (o : Obj) (kvs : List (List Key × V)) : It :=
  ⟨fun i H => H d = some (.frz o (.dT kvs)) ∧ i < kvs.length, fun i H x H' => ∃ T k v q, kvs[i]? = some (k, v) ∧ H q = some (.tup (k.map kV)) ∧ x = .ref T ∧ H T = none ∧ H' = upd H T (.tup [.ref q, v]), fun i H => H d = some (.frz o (.dT kvs)) ∧ kvs.length ≤ i⟩
theorem walk_itemsT {d : Addr} {o : Obj} {kvs : List (List Key × V)} : Walk (Itit d o kvs) kvs.length (fun H => H d = some (.frz o (.dT kvs))) (fun i H x H' => ∃ T k v q, kvs[i]? = some (k, v) ∧ H q = some (.tup (k.map kV)) ∧ x = .ref T ∧ H T = none ∧ H' = upd H T (.tup [.ref q, v])) :=
  ⟨fun _ _ hi q => ⟨q, hi⟩, fun _ q => ⟨q, Nat.le_refl _⟩, fun _ _ _ _ _ _ y => y⟩
theorem frzT2 {X : Cx} {pins : List (Addr × Obj)} {σ : L2.St} {H : Hp} {s : Shared} {d : Addr} {o : Obj} {kvs : List (List Key × V)} (I : Inv X pins σ H s) (h : H d = some (.frz o (.dT kvs))) :
    (d == sysModules) = false ∧ s.heap.get? d = some o ∧ o.ExactDict ∧ ∃ (es : Array DictEntry) (ep : Nat), o.data = .dict es ep ∧ es.size = kvs.length ∧
      ∀ (i : Nat) (k : List Key) (v : V), kvs[i]? = some (k, v) → ∃ (en : DictEntry) (q : Addr), es[i]? = some en ∧ en.key = .ref q ∧ H q = some (.tup (k.map kV)) ∧ RelV v en.val := by
  obtain ⟨hd, z, hs, xs, pr, o', es, ep, ho, hx, hdt, he, _⟩ := I.hok d _ h
  rw [hd] at ho
  cases ho
  refine ⟨hs, hd, hx, es, ep, hdt, ?_, fun i k v e => ?_⟩
  · have l1 : es.size = xs.length := size_of_entries he
    have l2 : kvs.length = xs.length := Paired.length pr
    omega
  · obtain ⟨b, hb, e1, e2, e3⟩ := paired_get pr e
    have q := entry_at he i
    rw [hb] at q
    exact ⟨_, b.2.1, q, rfl, e2, e3⟩
theorem turn_itemsT {P : Program} {w : World} {K : PySem.W.Frag} {d : Addr} {o : Obj} {es : Array DictEntry} {ep : Nat} {kvs : List (List Key × V)} {elts : List Expr} {kk : Nat} {tpos : Pos} (it : Addr) (hod : o.data = .dict es ep) :
    Turn P w K (.Tuple elts kk tpos) (Itit d o kvs) [it] it (fun i h => ∃ ok ov, IsItemIter h it d i kvs.length ep ok ov) where
  mem := by simp
  obj := fun i h st b hb => by
    have e : b = it := by simpa using hb
    subst e
    obtain ⟨ok, ov, e⟩ := st
    exact ⟨_, e, fun v z => nomatch z⟩
  keep := fun i h h' st k => let ⟨ok, ov, e⟩ := st; ⟨ok, ov, k it (by simp) _ e⟩
  item := by
    intro X hP hw hK hc i pins s σ H E I hf st hg
    subst hP hw hK
    obtain ⟨hd, hi⟩ := hg
    obtain ⟨hs, hgd, hx, es', ep', hdt, hsz, ent⟩ := frzT2 I hd
    obtain ⟨rfl, rfl⟩ := dict_ep hod hdt
    obtain ⟨⟨k, v⟩, hkv⟩ : ∃ p, kvs[i]? = some p := ⟨kvs[i], List.getElem?_eq_getElem hi⟩
    obtain ⟨en, q, hen, hkey, hq, hval⟩ := ent i k v hkv
    obtain ⟨hlt', hen'⟩ := Array.getElem?_eq_some_iff.mp hen
    obtain ⟨ok, ov, he⟩ := st
    rw [← hsz] at he
    have hlt : it < s.heap.objs.size := Heap.lt_size he
    refine DT.nextI he ⟨o, hgd, hx, hdt⟩ hlt' fun h' ho hT hz hk => ?_
    rw [hen'] at ho hT
    refine ⟨_, rfl, wpAny_letOwnedTupleGo_items (s := { s with heap := h' }) ho fun h'' he' sb => ?_⟩
    have hT2 : h''.get? s.heap.objs.size = some { cls := .type "tuple", data := .seq #[en.key, en.val] } := (sb.2 _ (Nat.ne_of_gt hlt)).trans hT
    have new : ObjOk X.prog X.w (upd H s.heap.objs.size (.tup [.ref q, v])) h'' s.heap.objs.size (.tup [.ref q, v]) :=
      ⟨by show 2 ≤ sizeLine; decide, [en.key, en.val], .cons hkey (.cons hval .nil), ⟨_, hT2, rfl, _, rfl⟩⟩
    have I1 : Inv X pins σ (upd H s.heap.objs.size (.tup [.ref q, v])) { s with heap := h'' } :=
      I.turnedNew (t' := s.toks) (ch := [it]) (fun b ob hb e => (sb.2 b (by simpa using hb)).trans (hk b ob (by simpa using hb) e)) hf (Nat.le_refl _) new
    refine ⟨.ref s.heap.objs.size, _, I1, rfl, ⟨_, k, v, q, hkv, hq, rfl, I.hok.fresh (Nat.le_refl _), rfl⟩, ⟨en.key, en.val, ?_⟩, fun b hb => ?_⟩
    · rw [← hsz]; exact he'
    · have e : b = it := by simpa using hb
      rw [e, upd_ne (Nat.ne_of_lt hlt)]
      exact (hf it (by simp)).1
  done := by
    intro X hP hw hK hc i pins s σ H E I hf st hg
    subst hP hw hK
    obtain ⟨hd, hi⟩ := hg
    obtain ⟨f0, f1, f2, f3, f4, f5⟩ := hf it (by simp)
    obtain ⟨hs, hgd, hx, es', ep', hdt, hsz, ent⟩ := frzT2 I hd
    obtain ⟨rfl, rfl⟩ := dict_ep hod hdt
    obtain ⟨ok, ov, he⟩ := st
    rw [← hsz] at he
    exact DT.endI (I.ok.hd hc) he ⟨o, hgd, hx, hdt⟩ (by omega) fun h' eb => ⟨rfl, I.turned (t' := s.toks) (fun b ob hb e => eb b ob hb e) f0 f1 f3 f4 f5⟩
  self := fun A i s Q E st h => let ⟨_, _, e⟩ := st; PySem.W.kcp_self e h
def iItemsT (td : TE) : TI := fun σ H R => td σ H fun x H1 => ∃ d o kvs, x = .ref d ∧ H1 d = some (.frz o (.dT kvs)) ∧ R (Itit d o kvs) H1
section
variable {X : Cx} {tg e : Expr} {td : TE} {apos cpos : Pos}
theorem pi_itemsT {elts : List Expr} {kk : Nat} {tpos : Pos} (he : PE X e td) (hbase : attributeBase e "items" X.env (eval e X.env) = eval e X.env := by rfl) (hline : (apos.endLine == cpos.line) = true := by rfl) :
    PI X (.Tuple elts kk tpos) (.Call (.Attribute e "items" apos) [] [] cpos) (iItemsT td) := by
  refine ⟨fun pins s σ H R I h => ?_⟩
  refine wpAny_Call_method (T := "dict") (id := "dict.items") hbase rfl hline PySem.F.plainAttrs_dict PySem.F.slot_dict_items PySem.F.type_dict_items (thn (he.run pins s σ H _ I h) fun u s1 ⟨x, H1, I1, rx, d, o, kvs, ex, hd, q⟩ => ?_)
  subst ex
  obtain rfl : u = Value.ref d := rx
  obtain ⟨hs, hgd, hx, es, ep, hdt, hsz, ent⟩ := frzT2 I1 hd
  have hraw : DT.Raw s1.heap d es ep := ⟨o, hgd, hx, hdt⟩
  refine ⟨hraw.typeIs, ?_, ?_⟩
  · intro a ea
    cases ea
    exact ⟨o, hgd, hx.2.1⟩
  have I2 : Inv X pins σ H1 { s1 with heap := s1.heap.push { cls := .type "dict_items", data := .fields #[.ref d] } } := I1.kept (t' := s1.toks) fun b ob q => Heap.get?_push_of_some _ q
  have fin : wpAny (model X.prog X.w) X.A (pyIter (.ref s1.heap.objs.size)) (PIE X pins σ (.Tuple elts kk tpos) R) X.xe { s1 with heap := s1.heap.push { cls := .type "dict_items", data := .fields #[.ref d] } } := by
    refine DT.iterI (d := d) ⟨_, Heap.get?_push_size _ rfl, rfl, rfl⟩ (hraw.push _) (pi_one (tk := s1.toks) I2 _ (turn_itemsT _ hdt) ⟨.none, .none, ?_⟩ q)
    rw [← hsz]
    exact Heap.get?_push_size _ rfl
  show wpAny _ _ (callWith cpos (.builtin "dict.items") [.ref d] [] []) _ X.xe s1
  exact method_meetsIn PySem.F.slot_dict_items PySem.F.entry_dict_items rfl (PySem.evalArgs_none ⟨rfl, hraw.typeIs, PySem.F.args_dict_items_1 _, _, DT.meetsItems (es := es) (ep := ep) hs, hraw, fin⟩)
end
end Tb

set_option Elab.async false
set_option linter.all false
set_option maxRecDepth 100000
set_option maxHeartbeats 4000000
/-! sep.join(d.values()), d a dict of texts -/
namespace PySem
open Builtin Builtin.Str Builtin.Int
theorem nolenDV : typeLookup (.type "dict_valueiterator") "__len__" = pure none := by rw [typeLookup_type, builtinLookup_eq_fast]; kernel_rfl
theorem hintDV : typeLookup (.type "dict_valueiterator") "__length_hint__" = pure (some (.builtin "dict_valueiterator.__length_hint__")) := by rw [typeLookup_type, builtinLookup_eq_fast]; kernel_rfl
section
variable {prog : Program} {w : World} {A : Around} {E : Value → Shared → Prop} {s : Shared} {I : Addr} {fp wr : List Addr} {G : Array GenState → Array GenState → Prop} {n : Nat} {P : Nat → Value → Prop} {St : Nat → Shared → Prop}
theorem collectDV {Q : List Value → Shared → Prop}
    (W : WalksS prog w A.in1 I fp wr G n P St) (hT : ∀ i s, St i s → s.TypeIs (.ref I) "dict_valueiterator") (hst : St 0 s) (hfp : ∀ b ∈ fp, b < s.heap.objs.size) (hI : I ∈ fp)
    (hQ : ∀ s' acc, Moved wr G s s' → ItemsOf P acc n → Q acc.toList s') (hn : n ≤ sizeLine) : wpAny (model prog w) A (collect (.ref I)) Q E s := by
  have hSf : s.heap.objs.size ∉ fp := fun hm => Nat.lt_irrefl _ (hfp _ hm)
  have hSI : s.heap.objs.size ≠ I := fun e => hSf (e ▸ hI)
  unfold collect
  refine wpAny_bind (wpAny_runValue (codeAny_builtin F.entry_proto_collect ?_))
  rw [Around.under_plainId F.plain_proto_collect _]
  show wpAny _ A.in1 (newList [] >>= fun l => again (.builtin "list.__iadd__" ⟨[l, .ref I], []⟩)) _ _ s
  refine wpAny_bind (wpAny_newObj_type ?_)
  refine wpAny_pure ⟨plainId_quiet F.plain_list_iadd _, codeAny_builtin F.entry_list_iadd ?_⟩
  rw [Around.under_plainId F.plain_list_iadd _]
  have hst₁ := W.frame 0 s (s.heap.push { cls := .type "list", data := .seq ([] : List Value).toArray }) s.toks hst (Nat.le_refl _) fun b _ o e => Heap.get?_push_of_some _ e
  have hS₁ : (s.heap.push { cls := .type "list", data := .seq ([] : List Value).toArray }).get? s.heap.objs.size = some { cls := .type "list", data := .seq ([] : List Value).toArray } := Heap.get?_push_size _ rfl
  have h1 : Builtin.List.listSameRef (.ref s.heap.objs.size) (.ref I) = false := by simp [Builtin.List.listSameRef, hSI]
  show wpAny _ A.in1 (Builtin.List.listExtendWith (.ref s.heap.objs.size) (.ref I) (.ref s.heap.objs.size)) _ _ _
  unfold Builtin.List.listExtendWith
  refine wpAny_bind (wpAny_typeOf (hT 0 _ hst₁) ?_)
  rw [if_neg (by rw [h1]; decide)]
  refine wpAny_bind (W.self 0 _ _ _ hst₁ ?_)
  refine wpAny_bind (wpAny_holding ?_)
  unfold Builtin.List.listLengthHint
  refine wpAny_bind (wpAny_specialOf (hT 0 _ hst₁) nolenDV ?_)
  show wpAny _ A.in1 (specialOf (Value.ref I) (Str.ofString "__length_hint__") >>= _) _ _ _
  refine wpAny_bind (wpAny_specialOf (hT 0 _ hst₁) hintDV ?_)
  generalize hid : ("dict_valueiterator.__length_hint__" : String) = id0
  wp_delta
  rw [show splitId id0 = some ("dict_valueiterator", "__length_hint__") from by subst hid; decide +kernel]
  subst hid
  refine wpAny_bind (wpAny_isInstance (b := true) (hT 0 _ hst₁) (by rw [isSubtype_type]; kernel_rfl) ?_)
  refine wpAny_pure ?_
  rw [if_neg (by decide)]
  refine wpAny_pure ⟨plainId_quiet F.plain_extend_loop _, codeAny_extend_loopS W hn _ hSf _ n 0 _ _ _ rfl (Nat.zero_le _) hst₁ hS₁ (ItemsOf.nil P) fun s' acc' c' hm hS' hacc => ?_⟩
  show wpAny _ A (load s.heap.objs.size >>= _) _ _ s'
  refine wpAny_bind (wpAny_load hS' ?_)
  exact wpAny_pure (hQ s' acc' (Moved.drop_new (o := { cls := .type "list", data := .seq ([] : List Value).toArray }) (tk := s.toks) hm (Nat.le_refl _)) hacc)
end
end PySem
namespace PySem
open Builtin Builtin.Str Builtin.Int PyProof.Rows
section
variable {prog : Program} {w : World} {A : Around} {E : Value → Shared → Prop} {s : Shared}
theorem joinDV {κ : Type} [DecidableEq κ] {knd : KeyKind prog w κ} {v d : Addr} {kvs : List (κ × Value)} {ep : Nat} {x : Str} {t : Tok} {ys : List Str} {Q : Value → Shared → Prop} (hh : A.handled = none) (hv : s.heap.IsValuesView v d) (hm : s.heap.DictAt knd d kvs ep)
    (hP : StrsAre (kvs.map Prod.snd) ys) (hn : kvs.length ≤ sizeLine) (hok : (ys.map (·.length)).sum + ys.length * x.length ≤ 16777216)
    (hq : ∀ h' t' k, (∀ b o, s.heap.get? b = some o → h'.get? b = some o) → Q (.str (Txt.join x ys) t') { s with heap := h', toks := k }) :
    wpAny (model prog w) A (call (.builtin "str.join") [.str x t, .ref v]) Q E s := by
  refine wpAny_call (codeAny_call_builtin F.slot_str_join.plain F.entry_str_join (F.slot_str_join.check _ _ _ _ _ _ _ _ (typeIs_str _ _ _) (F.args_str_join_2 _ _) ?_))
  rw [join_tree_other]
  refine wpAny_bind (wpAny_typeOf hv.typeIs ?_)
  show wpAny _ A.in1 ((pyIter (.ref v)).tryCatch _ >>= fun it => collect it >>= fun items => joinTail x items) _ _ s
  refine wpAny_bind (wpAny_tryCatch (wpAny_pyIter_values hv hm ?_))
  have hlt : d < s.heap.objs.size := by
    obtain ⟨o, _, ho, _⟩ := hm
    exact Heap.lt_size ho
  have hM := hm.push (o := { cls := .type "dict_valueiterator", data := .fields #[.ref d, .int 0 0, .int kvs.length 0, .int ep 0] })
  refine wpAny_bind (collectDV (Walks.dictValues (knd := knd) (A := A.in1.in1) hh s.heap.objs.size d (Nat.ne_of_lt hlt) kvs ep).toS (fun i s' st => ?_) ⟨⟨_, Heap.get?_push_size _ rfl, rfl, rfl⟩, hM⟩ (fun b hb => ?_) (by simp) (fun s' acc hmv hacc => ?_) hn)
  · obtain ⟨oi, e, c, _⟩ := st.1
    exact ⟨oi, e, c⟩
  · show b < (s.heap.push _).objs.size
    rw [Heap.size_push]
    rcases List.mem_cons.mp hb with e | hb
    · rw [e]
      exact Nat.lt_succ_self _
    · rw [List.mem_singleton.mp hb]
      exact Nat.lt_succ_of_lt hlt
  have hS : StrsAre acc.toList ys := by
    have e : acc.toList = kvs.map Prod.snd := by
      apply List.ext_getElem?
      intro i
      by_cases hi : i < kvs.length
      · have hi' : i < acc.size := by rw [hacc.1]; exact hi
        obtain ⟨k, hk⟩ := hacc.2 i acc[i] (Array.getElem?_eq_getElem hi')
        rw [List.getElem?_map, hk, Array.getElem?_toList, Array.getElem?_eq_getElem hi']
        rfl
      · rw [List.getElem?_eq_none (by rw [Array.length_toList, hacc.1]; omega), List.getElem?_eq_none (by rw [List.length_map]; omega)]
    rw [e]
    exact hP
  obtain ⟨l, hl, ht⟩ := strsAre_values hS
  subst ht
  rw [hl]
  have hok' := joinOk_of hok
  unfold JoinOk at hok'
  rw [Bool.not_eq_true'] at hok'
  have g : Gives (joinTail x (strValues l)) (joinMade x l) := by
    have g0 := gives_joinTail x l hok'
    cases l with
    | nil => exact g0
    | cons p r => cases r with
      | nil => exact g0
      | cons q r' => exact g0
  refine g prog w A (wants Q E) s' (post_join l ⟨joinFit_length hok', fun t' k => ?_⟩)
  rw [Moved.eq_with hmv]
  refine hq s'.heap t' k fun b o e => hmv.heap b o (fun hI => absurd (Heap.lt_size e) (by rw [List.mem_singleton.mp hI]; exact Nat.lt_irrefl _)) (Heap.get?_push_of_some _ e)
end
end PySem

namespace Tb
open PySem PySem.Spec PyProof.Rows L2 TL
def valsO (p d : Addr) : HO := .ext fun h => h.IsValuesView p d
theorem valsO_ok {P : Program} {w : World} {H : Hp} {h : Heap} {p d : Addr} (e : h.get? p = some { cls := .type "dict_values", data := .fields #[.ref d] }) : ObjOk P w H h p (valsO p d) :=
  ⟨⟨_, e, rfl, rfl⟩, ⟨_, e⟩, fun h1 h2 x k => let ⟨o, ho, r⟩ := x; ⟨o, k o ho, r⟩⟩
section
variable {X : Cx}
def rVals : V → List V → Hp → VK → Prop := fun x xs H Q => ∃ (a : Addr) (kvs : List (Key × V)), x = .ref a ∧ xs = [] ∧ H a = some (.dK kvs) ∧ ∀ p, H p = none → Q (.ref p) (upd H p (valsO p a))
theorem mt_vals : MtR X "dict.values" rVals := by
  intro pins s σ H x xs v us Q I rx rxs h
  obtain ⟨a, kvs, rfl, rfl, ha, q⟩ := h
  cases rx
  cases rxs
  obtain ⟨_, hsys, vs, rel, dof⟩ := dk_of I.hok ha
  obtain ⟨ep, dat⟩ := dof.dictAt
  obtain ⟨ob, es, ho, ex, hdat, hko, hpr, hnd⟩ := id dat
  refine call_meetsIn PySem.F.slot_dict_values ⟨ob, ho, ex.1⟩ PySem.F.entry_dict_values (PySem.F.args_dict_values_1 _) (meets_dict_values (mixKind X.prog X.w) a hsys) ⟨⟨vs, dof⟩, ?_⟩
  exact ⟨.ref s.heap.objs.size, upd H s.heap.objs.size (valsO s.heap.objs.size a), I.laid (t' := s.toks) (fun b u e => Heap.get?_push_of_some _ e) (Nat.le_refl _) (valsO_ok (Heap.get?_push_size _ rfl)), rfl, q _ (I.hok.fresh (Nat.le_refl _))⟩
def rJoinV : V → List V → Hp → VK → Prop := fun x xs H Q => ∃ (a : Str) (p d : Addr) (kvs : List (Key × V)) (ys : List Str), x = .str a ∧ xs = [.ref p] ∧ H p = some (valsO p d) ∧ H d = some (.dK kvs) ∧ kvs.map Prod.snd = ys.map V.str ∧ (ys.map (·.length)).sum + ys.length * a.length ≤ 16777216 ∧ Q (.str (Txt.join a ys)) H
theorem mt_joinV (hc : X.calm = true) : MtR X "str.join" rJoinV := by
  intro pins s σ H x xs v us Q I rx rxs h
  obtain ⟨a, p, d, kvs, ys, rfl, rfl, hp, hd, hy, hz, q⟩ := h
  obtain ⟨t, rfl⟩ := rx
  obtain ⟨u, rfl, r⟩ := vals1 rxs
  cases (show u = Value.ref p from r)
  have hv : s.heap.IsValuesView p d := (show ObjOk X.prog X.w H s.heap p (valsO p d) from I.hok p _ hp).1
  obtain ⟨hl, hsys, vs, rel, dof⟩ := dk_of I.hok hd
  obtain ⟨ep, dat⟩ := dof.dictAt
  have hlen : kvs.length = vs.length := KV.length rel
  have hS : StrsAre (vs.map Prod.snd) ys := strs_at (by
      have e1 := congrArg List.length hy
      rw [List.length_map, List.length_map] at e1
      rw [List.length_map, ← hlen, e1]) fun j v e => by
    rw [List.getElem?_map] at e
    obtain ⟨⟨k, v'⟩, hk, e'⟩ := Option.map_eq_some_iff.mp e
    have e'' : v' = v := e'
    subst e''
    obtain ⟨x, h1, h2⟩ := KV.at' rel hk
    have e1 : (kvs.map Prod.snd)[j]? = some x := by rw [List.getElem?_map, h1] <;> rfl
    rw [hy, List.getElem?_map] at e1
    obtain ⟨y, hj, e2⟩ := Option.map_eq_some_iff.mp e1
    subst e2
    obtain ⟨t, e3⟩ := h2
    exact ⟨y, t, hj, e3⟩
  refine joinDV (I.ok.hd hc) hv dat hS (by omega) hz fun h' t' k hk => ?_
  exact ⟨.str _, H, I.kept (t' := k) hk, ⟨t', rfl⟩, q⟩
/-- sep.join(d.values()) -/
def tJoinV (ts td : TE) : TE := fun σ H Q => ts σ H fun x H1 => ∃ a : Str, x = .str a ∧ td σ H1 fun y H2 => ∃ (d : Addr) (kvs : List (Key × V)) (ys : List Str), y = .ref d ∧ H2 d = some (.dK kvs) ∧ kvs.map Prod.snd = ys.map V.str ∧ (ys.map (·.length)).sum + ys.length * a.length ≤ 16777216 ∧ ∀ H', Same H2 H' → Q (.str (Txt.join a ys)) H'
theorem pe_joinV {o e : Expr} {to te : TE} {apos pos ap2 p2 : Pos} (hc : X.calm = true) (ho : PE X o to) (he : PE X e te) (hs : starEach [Expr.Call (.Attribute e "values" ap2) [] [] p2] X.env = [(false, eval (Expr.Call (.Attribute e "values" ap2) [] [] p2) X.env)] := by rfl) (hbase : attributeBase o "join" X.env (eval o X.env) = eval o X.env := by rfl) (hline : (apos.endLine == pos.line) = true := by rfl)
    (hbase2 : attributeBase e "values" X.env (eval e X.env) = eval e X.env := by rfl) (hline2 : (ap2.endLine == p2.line) = true := by rfl) :
    PE X (.Call (.Attribute o "join" apos) [.Call (.Attribute e "values" ap2) [] [] p2] [] pos) (tJoinV to te) :=
  PE.weak (pe_m1 PySem.F.slot_str_join PySem.F.type_str_join (mt_joinV hc) (PE.mono ho) (pe_bm0 PySem.F.plainAttrs_dict PySem.F.slot_dict_values PySem.F.type_dict_values mt_vals (PE.mono he) hbase2 hline2) hs hbase hline) fun σ H Q z => by
    refine ⟨_, z, fun x H1 ⟨a, ex, z1⟩ => ⟨⟨a, ex⟩, _, z1, fun y H2 ⟨d, kvs, ys, ey, hd, hv, hz, q⟩ => ?_⟩⟩
    subst ex ey
    have ht : tyV X.K "dict" (.ref d) H2 := .inr (.inr (.inl ⟨rfl, .inl ⟨kvs, hd⟩⟩))
    refine ⟨ht, d, kvs, rfl, rfl, hd, fun p np => ?_⟩
    have npd : d ≠ p := ne_of_none hd np
    exact ⟨a, p, d, kvs, ys, rfl, rfl, upd_same, by rw [upd_ne npd]; exact hd, hv, hz, q _ (same_upd np)⟩
end
end Tb

set_option Elab.async false
set_option linter.all false
set_option maxRecDepth 100000
set_option maxHeartbeats 2000000
namespace Tb
open PySem PySem.Spec PyProof.Rows L2 TL
/-- a list or a tuple -/
def SeqH (H : Hp) (p : Addr) (xs : List V) : Prop := H p = some (.lst xs) ∨ H p = some (.tup xs)
theorem SeqH.same {H H' : Hp} {p : Addr} {xs : List V} (h : SeqH H p xs) (s : Same H H') : SeqH H' p xs := h.imp (s _ _) (s _ _)
theorem SeqH.sq {K : PySem.W.Frag} {H : Hp} {p : Addr} {xs : List V} (h : SeqH H p xs) : SqL K H p xs ∨ SqT K H p xs := h.imp SqL.of SqT.of
def isLT (K : PySem.W.Frag) (H : Hp) (x : V) (b : Bool) : Prop := ∃ t, TyX K H x t ∧ PySem.W.kitAny K t [.type "list", .type "tuple"] = some b
theorem SeqH.isLT {K : PySem.W.Frag} {H : Hp} {p : Addr} {xs : List V} (h : SeqH H p xs) : isLT K H (.ref p) true := by
  rcases h with h | h
  · exact ⟨_, .base (.lst h), kitAny_cons (b := true) (kit_ty (by decide +kernel)) (fun z => nomatch z) (fun _ => rfl)⟩
  · exact ⟨_, .base (.tup h), kitAny_cons (b := false) (kit_ty (by decide +kernel)) (fun _ => kitAny_cons (b := true) (kit_ty (by decide +kernel)) (fun z => nomatch z) (fun _ => rfl)) (fun z => nomatch z)⟩
def tIsLT (K : PySem.W.Frag) (ta : TE) : TE := fun σ H Q => ta σ H fun x H1 => ∃ b, (∀ H', Same H1 H' → isLT K H' x b) ∧ ∀ H', Same H1 H' → Q (.bl b) H'
theorem pe_isLT {X : Cx} {a : Expr} {ta : TE} {k : Nat} {p p1 p2 p3 pos : Pos} (ha : PE X a ta) (mi : X.mg "isinstance" = none) (hg : Gl X "isinstance") (ml : X.mg "list" = none) (hgl : Gl X "list") (mt : X.mg "tuple" = none) (hgt : Gl X "tuple")
    (na : starEach [a, .Tuple [.Name "list" p1, .Name "tuple" p2] k p3] X.env = (false, eval a X.env) :: starEach [.Tuple [.Name "list" p1, .Name "tuple" p2] k p3] X.env := by rfl)
    (na2 : starEach [.Tuple [.Name "list" p1, .Name "tuple" p2] k p3] X.env = (false, eval (.Tuple [.Name "list" p1, .Name "tuple" p2] k p3) X.env) :: starEach [] X.env := by rfl)
    (na3 : starEach [.Name "list" p1, .Name "tuple" p2] X.env = (false, eval (.Name "list" p1) X.env) :: starEach [.Name "tuple" p2] X.env := by rfl)
    (na4 : starEach [.Name "tuple" p2] X.env = (false, eval (.Name "tuple" p2) X.env) :: starEach [] X.env := by rfl)
    (hpl : (backTo pos (starEach [.Tuple [.Name "list" p1, .Name "tuple" p2] k p3] X.env)).any (·.1) = false := by rfl) :
    PE X (.Call (.Name "isinstance" p) [a, .Tuple [.Name "list" p1, .Name "tuple" p2] k p3] [] pos) (tIsLT X.K ta) :=
  PE.weak (pe_callB call_isiT hg mi (by decide +kernel) (pa_cons (PE.mono ha) (pa_cons (pe_tupS (pa_cons (pe_bltn hgl ml (by decide +kernel) (v := .ty "list") rfl) (pa_cons (pe_bltn hgt mt (by decide +kernel) (v := .ty "tuple") rfl) pa_nil na4) na3)) pa_nil na2) na) (he := na) (hpl := hpl)) fun σ H Q z => ⟨_, z, fun x H1 ⟨b, h, q⟩ =>
    ⟨by show 2 ≤ sizeLine; decide, fun T H2 s2 n2 e2 => by
      obtain ⟨t, ty, k⟩ := h H2 s2
      exact ⟨x, T, _, t, _, b, rfl, e2, .cons (.ty _) (.cons (.ty _) .nil), ty, k, q H2 s2⟩⟩⟩
section
variable {P : Program} {w : World} {K : PySem.W.Frag} {mg : Str → Option Value} {base : Heap}
/-! ### _are_letters -/
abbrev nAreLetters : List Str := ["thing", "most"]
theorem scAreLetters : FnScope nAreLetters ["thing", "most"] (defScope sAreLetters) := ⟨rfl, rfl, rfl, by decide +kernel, rfl, by decide +kernel, by decide +kernel⟩
def okLetters (cs : List Nat) : Bool := cs.all isLow && (decide (1 ≤ cs.length) && (decide (cs.length ≤ 5) && decide cs.Nodup))
def spAreLetters (K : PySem.W.Frag) : Sp := fun vs H Q _ => (∃ cs : List Nat, vs = [.str (S cs), .int 5] ∧ cs.length ≤ 1000 ∧ ∀ H', Same H H' → Q (.bl (okLetters cs)) H') ∨ (∃ x, vs = [x, .int 5] ∧ Isi K H x "str" false ∧ Q (.bl false) H)
theorem ok_areLetters {f : Addr} {fd : FuncData} {k : Nat} (F : Fun K "are_letters" "are_letters" sAreLetters f fd) (DT : Df P w K mg base (k + 1) "is_text" ["thing"] (spIsText K)) (DD : Df P w K mg base (k + 1) "are_different" ["strings"] (spAreDiff K)) (ml : mg "len" = none) : FnOk P w K mg base CX0 (k + 2) f fd ["thing", "most"] (spAreLetters K) := by
  refine F.ok scAreLetters (fun vs H Q E h => ?_) (fun cdv A outer s H vs Q E hr h => ?_)
  · rcases h with ⟨cs, rfl, _⟩ | ⟨x, rfl, _⟩ <;> rfl
  · refine ⟨_, pss_one (ps_ret (pe_and (pe_df DT hr (pa_cons (pv 0) pa_nil)) (pe_and (pe_chain op_le op_le pe_int (pe_callB call_len_str (by rfl) ml PySem.boot_len (pa_cons (pv 0) pa_nil)) (pv 1)) (pe_one (pe_df DD hr (pa_cons (pv 0) pa_nil)))))), ?_⟩
    rcases h with ⟨cs, rfl, hl, q⟩ | ⟨x, rfl, hx, q⟩
    · refine ⟨_, rfl, .inl ⟨cs, rfl, hl, fun H' s' => ?_⟩⟩
      have hq := q H' s'
      refine ⟨_, rfl, ?_⟩
      unfold okLetters at hq
      by_cases h1 : cs.all isLow = true
      · rw [h1] at hq ⊢
        refine iteT ⟨_, rfl, S cs, rfl, by rw [len_S]; exact Nat.le_trans hl (by decide), _, _, rfl, rfl, _, rfl, ?_⟩
        rw [len_S]
        by_cases h2 : 1 ≤ cs.length
        · rw [decide_eq_true h2] at hq
          rw [decide_eq_true (show (1 : Int) ≤ (cs.length : Int) by omega)]
          refine iteT ⟨_, rfl, _, _, rfl, rfl, _, rfl, ?_⟩
          have e : decide ((cs.length : Int) ≤ 5) = decide (cs.length ≤ 5) := by
            rw [decide_eq_decide]
            omega
          rw [e]
          by_cases h3 : cs.length ≤ 5
          · rw [decide_eq_true h3] at hq ⊢
            exact iteT ⟨_, rfl, .inl ⟨cs, rfl, hl, hq⟩⟩
          · rw [decide_eq_false h3] at hq ⊢
            exact iteF hq
        · rw [decide_eq_false h2] at hq
          rw [decide_eq_false (show ¬ (1 : Int) ≤ (cs.length : Int) by omega)]
          refine iteF ⟨_, rfl, iteF hq⟩
      · rw [Bool.eq_false_iff.mpr h1] at hq ⊢
        exact iteF hq
    · exact ⟨_, rfl, .inr ⟨x, rfl, hx, false, rfl, iteF q⟩⟩
/-! ### _are_boxes -/
def isCap (c : Nat) : Bool := decide (65 ≤ c ∧ c ≤ 90)
def AZ : List Nat := (List.range 26).map (65 + ·)
theorem AZ_str : Str.ofString "ABCDEFGHIJKLMNOPQRSTUVWXYZ" = S AZ := by decide +kernel
theorem cap_AZ (c : Nat) : decide (c ∈ AZ) = isCap c := by
  unfold isCap AZ
  rw [decide_eq_decide, List.mem_map]
  constructor
  · rintro ⟨i, hi, rfl⟩
    have := List.mem_range.mp hi
    omega
  · intro h
    exact ⟨c - 65, List.mem_range.mpr (by omega), by omega⟩
def okBoxes (cs : List Nat) : Bool := decide (cs.length ≤ 6) && (cs.all isCap && decide cs.Nodup)
abbrev nAreBoxes : List Str := ["thing", "sign"]
theorem scAreBoxes : FnScope nAreBoxes ["thing"] (defScope sAreBoxes) := ⟨rfl, rfl, rfl, by decide +kernel, rfl, by decide +kernel, by decide +kernel⟩
def spAreBoxes (K : PySem.W.Frag) : Sp := fun vs H Q _ => (∃ cs : List Nat, vs = [.str (S cs)] ∧ cs.length ≤ 1000 ∧ ∀ H', Same H H' → Q (.bl (okBoxes cs)) H') ∨ (∃ x, vs = [x] ∧ Isi K H x "str" false ∧ Q (.bl false) H)
theorem ok_areBoxes {f : Addr} {fd : FuncData} {k : Nat} (F : Fun K "_are_boxes" "_are_boxes" sAreBoxes f fd) (DD : Df P w K mg base (k + 1) "are_different" ["strings"] (spAreDiff K)) (mi : mg "isinstance" = none) (ms : mg "str" = none) (ma : mg "all" = none) (ml : mg "len" = none) (mN : ∃ t, mg "MOST_BOXES" = some (.int 6 t)) (mB : ∃ t, mg "BOXES" = some (.str (Str.ofString "ABCDEFGHIJKLMNOPQRSTUVWXYZ") t)) : FnOk P w K mg base CX0 (k + 2) f fd ["thing"] (spAreBoxes K) := by
  obtain ⟨tN, mN⟩ := mN
  obtain ⟨tB, mB⟩ := mB
  refine F.ok scAreBoxes (fun vs H Q E h => ?_) (fun cdv A outer s H vs Q E hr h => ?_)
  · rcases h with ⟨cs, rfl, _⟩ | ⟨x, rfl, _⟩ <;> rfl
  · refine ⟨_, pss_cons (ps_if (PW.pt (pw_or (pt_not (pt_val (pe_isStr (pv 0) mi (by rfl) ms (by rfl)))) (pw_or1 (pt_cmpR op_gt (pe_callB call_len_str (by rfl) ml PySem.boot_len (pa_cons (pv 0) pa_nil)) (pe_glob (v := .int 6) (by rfl) mN ⟨_, rfl⟩) (nomark _))))) (pss_one (ps_ret pe_bl)) pss_nil)
      (pss_one (ps_ret (pe_and (pe_callB (cr_all rfl) (by rfl) ma (by decide +kernel) (pa_cons (pe_lc (own := [("sign", 1)]) (g := gName 1) (tt := tYes) (te := tOp (fun x y H Q => ∃ (c : Nat) (z : Str), x = .str ⟨#[c]⟩ ∧ y = .str z ∧ Q (.bl (decide (c ∈ z.cps.toList))) H) (tVar 1) (tC (.str (Str.ofString "ABCDEFGHIJKLMNOPQRSTUVWXYZ")))) rfl scAreBoxes.nd
          (pi_str (pv 0)) (blkOk_by (own := [("sign", 1)]) (N := nAreBoxes) (sc := defScope sAreBoxes) (by decide +kernel)) (fun _ _ _ _ _ => pg_name (i := 1) scAreBoxes.nd rfl (.inl rfl)) (fun _ _ _ _ _ => pts_nil) (fun _ _ _ _ _ => pe_cmpR op_in_sign (pv 1) (pe_glob (by rfl) mB ⟨_, rfl⟩) (by rfl))) pa_nil)) (pe_one (pe_df DD hr (pa_cons (pv 0) pa_nil)))))), ?_⟩
    rcases h with ⟨cs, rfl, hl, q⟩ | ⟨x, rfl, hx, q⟩
    · refine ⟨_, rfl, true, isi_str _, true, rfl, iteF ⟨_, rfl, S cs, rfl, by rw [len_S]; exact Nat.le_trans hl (by decide), _, _, rfl, rfl, _, rfl, ?_⟩⟩
      rw [len_S]
      unfold okBoxes at q
      by_cases h1 : cs.length ≤ 6
      · rw [decide_eq_true h1] at q
        rw [decide_eq_false (show ¬ (6 : Int) < (cs.length : Int) by omega)]
        refine iteF ⟨_, rfl, S cs, rfl, fun D nD => lc_mapS (cs := cs) (fun c => .bl (isCap c)) nD (Nat.lt_of_le_of_lt hl (by decide)) ?_ ?_⟩
        · intro c hc H' R s' r
          refine ⟨_, rfl, c, _, rfl, rfl, ?_⟩
          rw [AZ_str]
          show R (.bl (decide (c ∈ AZ))) H'
          rw [cap_AZ]
          exact r
        · intro H' s' e'
          have hq := q H' s'
          refine ⟨D, cs.map isCap, rfl, SqL.of (by rw [e', List.map_map]; rfl), _, rfl, ?_⟩
          rw [List.all_map, show (id ∘ isCap) = isCap from rfl]
          by_cases h2 : cs.all isCap = true
          · rw [h2] at hq ⊢
            exact iteT ⟨_, rfl, .inl ⟨cs, rfl, hl, hq⟩⟩
          · rw [Bool.eq_false_iff.mpr h2] at hq ⊢
            exact iteF hq
      · rw [decide_eq_false h1] at q
        rw [decide_eq_true (show (6 : Int) < (cs.length : Int) by omega)]
        exact iteT (q H (fun _ _ e => e))
    · exact ⟨_, rfl, false, hx, false, rfl, iteT (iteT q)⟩
/-! ### _is_pair, _is_one_of -/
abbrev nIsPair : List Str := ["thing"]
theorem scIsPair : FnScope nIsPair ["thing"] (defScope sIsPair) := ⟨rfl, rfl, rfl, by decide +kernel, rfl, by decide +kernel, by decide +kernel⟩
def spIsPair (K : PySem.W.Frag) : Sp := fun vs H Q _ => (∃ p xs, vs = [.ref p] ∧ SeqH H p xs ∧ ∀ H', Same H H' → Q (.bl (decide (xs.length = 2))) H') ∨ (∃ x, vs = [x] ∧ (∀ H', Same H H' → isLT K H' x false) ∧ ∀ H', Same H H' → Q (.bl false) H')
theorem ok_isPair {f : Addr} {fd : FuncData} {k : Nat} (F : Fun K "is_pair" "is_pair" sIsPair f fd) (mi : mg "isinstance" = none) (mL : mg "list" = none) (mT : mg "tuple" = none) (ml : mg "len" = none) : FnOk P w K mg base CX0 (k + 1) f fd ["thing"] (spIsPair K) := by
  refine F.ok scIsPair (fun vs H Q E h => ?_) (fun cdv A outer s H vs Q E hr h => ?_)
  · rcases h with ⟨p, xs, rfl, _⟩ | ⟨x, rfl, _⟩ <;> rfl
  · refine ⟨_, pss_one (ps_ret (pe_and (pe_isLT (pv 0) mi (by rfl) mL (by rfl) mT (by rfl)) (pe_one (pe_cmpR op_eq (pe_callB call_lenS (by rfl) ml PySem.boot_len (pa_cons (pv 0) pa_nil)) pe_int (nomark _))))), ?_⟩
    rcases h with ⟨p, xs, rfl, hp, q⟩ | ⟨x, rfl, hx, q⟩
    · refine ⟨_, rfl, true, fun H' s' => (hp.same s').isLT, fun H' s' => ⟨true, rfl, iteT ⟨_, rfl, p, xs, rfl, (hp.same s').sq, rfl, ?_⟩⟩⟩
      have e : decide (V.int (xs.length : Int) = V.int 2) = decide (xs.length = 2) := num_eq xs.length 2
      rw [e]
      exact q H' s'
    · exact ⟨_, rfl, false, hx, fun H' s' => ⟨false, rfl, iteF (q H' s')⟩⟩
abbrev nIsOneOf : List Str := ["thing", "strings"]
theorem scIsOneOf : FnScope nIsOneOf ["thing", "strings"] (defScope sIsOneOf) := ⟨rfl, rfl, rfl, by decide +kernel, rfl, by decide +kernel, by decide +kernel⟩
def spIsOneOf (K : PySem.W.Frag) : Sp := fun vs H Q _ => (∃ (c : List Nat) (p : Addr) (l : List (List Nat)), vs = [.str (S c), .ref p] ∧ SeqH H p (txs l) ∧ Q (.bl (decide (c ∈ l))) H) ∨ (∃ x y, vs = [x, y] ∧ Isi K H x "str" false ∧ Q (.bl false) H)
theorem ok_isOneOf {f : Addr} {fd : FuncData} {k : Nat} (F : Fun K "is_one_of" "is_one_of" sIsOneOf f fd) (mi : mg "isinstance" = none) (ms : mg "str" = none) : FnOk P w K mg base CX0 (k + 1) f fd ["thing", "strings"] (spIsOneOf K) := by
  refine F.ok scIsOneOf (fun vs H Q E h => ?_) (fun cdv A outer s H vs Q E hr h => ?_)
  · rcases h with ⟨c, p, l, rfl, _⟩ | ⟨x, y, rfl, _⟩ <;> rfl
  · refine ⟨_, pss_one (ps_ret (pe_and (pe_isStr (pv 0) mi (by rfl) ms (by rfl)) (pe_one (pe_cmpR op_in_seq (pv 0) (pv 1) (by rfl))))), ?_⟩
    rcases h with ⟨c, p, l, rfl, hp, q⟩ | ⟨x, y, rfl, hx, q⟩
    · refine ⟨_, rfl, true, isi_str _, true, rfl, iteT ⟨_, rfl, _, rfl, p, txs l, rfl, hp.sq, rfl, ?_, ?_⟩⟩
      · unfold txs
        rw [List.all_map, List.all_eq_true]
        exact fun _ _ => rfl
      · show Q (.bl (inV (.str (S c)) (txs l))) H
        unfold txs
        rw [inV_S]
        exact q
    · exact ⟨_, rfl, false, hx, false, rfl, iteF q⟩
/-! ### _are_places -/
def okPlaces (l : List (List Nat)) : Bool := (decide (1 ≤ l.length) && decide (l.length ≤ 50)) && (l.all isName && decide l.Nodup)
def okNames (l : List (List Nat)) : Bool := decide (1 ≤ l.length) && (l.all isName && decide l.Nodup)
abbrev nAreNames : List Str := ["thing", "name"]
theorem scAreNames : FnScope nAreNames ["thing"] (defScope sAreNames) := ⟨rfl, rfl, rfl, by decide +kernel, rfl, by decide +kernel, by decide +kernel⟩
theorem scArePlaces : FnScope ["thing"] ["thing"] (defScope sArePlaces) := ⟨rfl, rfl, rfl, by decide +kernel, rfl, by decide +kernel, by decide +kernel⟩
/-- good ones only -/
def spAreNames : Sp := fun vs H Q _ => ∃ (p : Addr) (l : List (List Nat)), vs = [.ref p] ∧ SeqH H p (txs l) ∧ (∀ x ∈ l, x.length ≤ 1000) ∧ l.length ≤ 1000 ∧ okNames l = true ∧ ∀ H', Same H H' → Q (.bl true) H'
def spArePlaces : Sp := fun vs H Q _ => ∃ (p : Addr) (l : List (List Nat)), vs = [.ref p] ∧ SeqH H p (txs l) ∧ (∀ x ∈ l, x.length ≤ 1000) ∧ l.length ≤ 1000 ∧ okPlaces l = true ∧ ∀ H', Same H H' → Q (.bl true) H'
end
end Tb

set_option Elab.async false
set_option linter.all false
set_option maxRecDepth 100000
set_option maxHeartbeats 2000000
namespace Tb
open PySem PySem.Spec PyProof.Rows L2 TL
/-! ### a comprehension over anything that gives the items of xs; its element may lay new objects -/
section
variable {te : TE} {tt : TT} {vs : List Nat} {σ : L2.St} {H1 : Hp} {D : Addr} {Qd : Hp → Prop} {sl : Nat} {J : It} {n : Nat} {G : Hp → Prop} {Y : Nat → Hp → V → Hp → Prop}
theorem lc_mapW {xs : List V} (g : V → V) (w : Walk J n G Y) (hn : n = xs.length) (hY : ∀ i H x H', Y i H x H' → H' = H ∧ xs[i]? = some x) (hG : ∀ H', Same H1 H' → G H') (nD : H1 D = none) (hl : xs.length < sizeLine)
    (he : ∀ x ∈ xs, ∀ H' (R : VK), Same H1 H' → (∀ H'', Same H' H'' → R (g x) H'') → te ((wipe σ vs).set sl (some x)) H' R)
    (hd : ∀ H', Same H1 H' → H' D = some (.lst (xs.map g)) → Qd H') (hw : ∀ x, wipe ((wipe σ vs).set sl (some x)) vs = wipe σ vs := by intro _; rfl) :
    ∃ W : Nat → Nat → Hp → Prop, (∃ m, W 0 m (upd H1 D (.lst []))) ∧ ∀ i m H, W i m H →
      (J.stop i H ∧ Qd H) ∨ (J.go i H ∧ ∃ Nx : Hp → Prop, (∀ H', Nx H' → ∃ m', m' < m ∧ W (i + 1) m' H') ∧ ∀ x H', J.yld i H x H' → gName sl x (wipe σ vs) H' fun σ2 H2 => wipe σ2 vs = wipe σ vs ∧ tYes σ2 H2 fun b H3 =>
        if b = true then te σ2 H3 fun y H4 => ∃ acc, H4 D = some (.lst acc) ∧ acc.length < sizeLine ∧ Nx (upd H4 D (.lst (acc ++ [y]))) else Nx H3) := by
  refine lc_it w (fun i H => Same H1 H ∧ H D = some (.lst ((xs.take i).map g))) ⟨same_upd nD, upd_same⟩ (fun i H _ h => hG H h.1) ?_ ?_
  · rintro i x H H' hi ⟨s, e⟩ y
    obtain ⟨rfl, hx⟩ := hY _ _ _ _ y
    refine ⟨hw _, tYes_if (he x (List.mem_of_getElem? hx) _ _ s fun H2 s2 => ⟨_, s2 _ _ e, ?_, fun b o eb => ?_, ?_⟩)⟩
    · rw [List.length_map, List.length_take]
      exact Nat.lt_of_le_of_lt (Nat.min_le_right _ _) hl
    · rw [upd_ne (ne_of_none eb nD)]
      exact s2 _ _ (s _ _ eb)
    · rw [upd_same, List.take_add_one, hx, List.map_append]
      rfl
  · rintro H ⟨s, e⟩
    subst hn
    rw [List.take_length] at e
    exact hd H s e
end
theorem same_unlock {H H' : Hp} {d : Addr} {od : Obj} {u : HO} (hd : H d = some u) (s : Same (upd H d (.frz od u)) H') : Same H (upd H' d u) := fun b o e => by
  by_cases hb : b = d
  · rw [hb, hd] at e
    cases e
    rw [hb, upd_same]
  · rw [upd_ne hb]
    refine s b o ?_
    rw [upd_ne hb]
    exact e
section
variable {P : Program} {w : World} {K : PySem.W.Frag} {mg : Str → Option Value} {base : Heap}
def nameV : V → V := fun v => match v with | .str x => .bl (isName (tl x)) | _ => .non
theorem nameV_S (c : List Nat) : nameV (.str (S c)) = .bl (isName c) := rfl
theorem okNames_iff {l : List (List Nat)} (h : okNames l = true) : 1 ≤ l.length ∧ l.all isName = true ∧ l.Nodup := by
  unfold okNames at h
  rw [Bool.and_eq_true, Bool.and_eq_true] at h
  exact ⟨of_decide_eq_true h.1, h.2.1, of_decide_eq_true h.2.2⟩
theorem ok_areNames {f : Addr} {fd : FuncData} {k : Nat} (F : Fun K "are_names" "are_names" sAreNames f fd) (DN : Df P w K mg base (k + 2) "is_name" ["thing"] (spIsName K)) (DD : Df P w K mg base (k + 1) "are_different" ["strings"] (spAreDiff K)) (mi : mg "isinstance" = none) (mL : mg "list" = none) (mT : mg "tuple" = none) (ma : mg "all" = none) (ml : mg "len" = none) : FnOk P w K mg base CX0 (k + 3) f fd ["thing"] spAreNames := by
  refine F.ok scAreNames (fun vs H Q E h => ?_) (fun cdv A outer s H vs Q E hr h => ?_)
  · obtain ⟨p, l, rfl, _⟩ := h
    rfl
  · obtain ⟨p, l, rfl, hp, hle, hl, ok, q⟩ := h
    obtain ⟨h1, h2, h3⟩ := okNames_iff ok
    have lt' : (txs l).length = l.length := List.length_map _
    rcases hp with hp | hp
    · refine ⟨_, pss_cons (ps_if (PW.pt (pw_or (pt_not (pt_val (pe_isLT (pv 0) mi (by rfl) mL (by rfl) mT (by rfl)))) (pw_or1 (pt_cmpR op_eq (pe_callB call_lenS (by rfl) ml PySem.boot_len (pa_cons (pv 0) pa_nil)) pe_int (nomark _))))) (pss_one (ps_ret pe_bl)) pss_nil)
        (pss_one (ps_ret (pe_and (pe_callB (cr_all rfl) (by rfl) ma (by decide +kernel) (pa_cons (pe_lc (own := [("name", 1)]) (g := gName 1) (tt := tYes) (te := tCall (spIsName K) [] E0 (tCons (tVar 1) tNil)) rfl scAreNames.nd
          (pi_list (pv 0)) (blkOk_by (own := [("name", 1)]) (N := nAreNames) (sc := defScope sAreNames) (by decide +kernel)) (fun _ _ _ _ _ => pg_name (i := 1) scAreNames.nd rfl (.inl rfl)) (fun _ _ _ _ _ => pts_nil) (fun _ _ _ _ _ => pe_df DN hr (pa_cons (pv 1) pa_nil))) pa_nil)) (pe_one (pe_df DD hr (pa_cons (pv 0) pa_nil)))))), ?_⟩
      refine ⟨_, rfl, true, fun H' s' => SeqH.isLT (.inl (s' _ _ hp)), fun H' s' => ⟨true, rfl, iteF ⟨_, rfl, p, txs l, rfl, .inl (SqL.of (s' _ _ hp)), rfl, false, ?_, iteF ?_⟩⟩⟩
      · rw [lt', decide_eq_false]
        intro z
        injection z with z
        omega
      refine ⟨_, rfl, p, rfl, ⟨_, SqL.of (s' _ _ hp)⟩, fun D nD => lc_mapW (xs := txs l) nameV walk_list rfl (fun i H x H' y => ⟨y.1, y.2⟩) (fun H2 s2 => SqL.of (s2 _ _ (s' _ _ hp))) nD (by rw [lt']; exact Nat.lt_of_le_of_lt hl (by decide)) ?_ ?_⟩
      · intro x hx H2 R s2 r
        obtain ⟨c, hc, rfl⟩ := List.mem_map.mp hx
        exact ⟨_, rfl, .inl ⟨c, rfl, hle c hc, fun H3 s3 => r H3 s3⟩⟩
      · intro H2 s2 e2
        have eb : H2 D = some (.lst ((l.map isName).map V.bl)) := by
          rw [e2]
          unfold txs
          rw [List.map_map, List.map_map]
          rfl
        refine ⟨D, l.map isName, rfl, SqL.of eb, true, ?_, iteT ⟨_, rfl, .inr ⟨p, l, rfl, .inl (SqL.of (s2 _ _ (s' _ _ hp))), hl, ?_⟩⟩⟩
        · rw [List.all_map, show l.all (id ∘ isName) = l.all isName from rfl, h2]
        · rw [decide_eq_true h3]
          exact q _ (s'.trans s2)
    · refine ⟨_, pss_cons (ps_if (PW.pt (pw_or (pt_not (pt_val (pe_isLT (pv 0) mi (by rfl) mL (by rfl) mT (by rfl)))) (pw_or1 (pt_cmpR op_eq (pe_callB call_lenS (by rfl) ml PySem.boot_len (pa_cons (pv 0) pa_nil)) pe_int (nomark _))))) (pss_one (ps_ret pe_bl)) pss_nil)
        (pss_one (ps_ret (pe_and (pe_callB (cr_all rfl) (by rfl) ma (by decide +kernel) (pa_cons (pe_lc (own := [("name", 1)]) (g := gName 1) (tt := tYes) (te := tCall (spIsName K) [] E0 (tCons (tVar 1) tNil)) rfl scAreNames.nd
          (pi_tup (pv 0)) (blkOk_by (own := [("name", 1)]) (N := nAreNames) (sc := defScope sAreNames) (by decide +kernel)) (fun _ _ _ _ _ => pg_name (i := 1) scAreNames.nd rfl (.inl rfl)) (fun _ _ _ _ _ => pts_nil) (fun _ _ _ _ _ => pe_df DN hr (pa_cons (pv 1) pa_nil))) pa_nil)) (pe_one (pe_df DD hr (pa_cons (pv 0) pa_nil)))))), ?_⟩
      refine ⟨_, rfl, true, fun H' s' => SeqH.isLT (.inr (s' _ _ hp)), fun H' s' => ⟨true, rfl, iteF ⟨_, rfl, p, txs l, rfl, .inr (SqT.of (s' _ _ hp)), rfl, false, ?_, iteF ?_⟩⟩⟩
      · rw [lt', decide_eq_false]
        intro z
        injection z with z
        omega
      refine ⟨_, rfl, p, rfl, ⟨_, SqT.of (s' _ _ hp)⟩, fun D nD => lc_mapW (xs := txs l) nameV walk_tup rfl (fun i H x H' y => ⟨y.1, y.2⟩) (fun H2 s2 => SqT.of (s2 _ _ (s' _ _ hp))) nD (by rw [lt']; exact Nat.lt_of_le_of_lt hl (by decide)) ?_ ?_⟩
      · intro x hx H2 R s2 r
        obtain ⟨c, hc, rfl⟩ := List.mem_map.mp hx
        exact ⟨_, rfl, .inl ⟨c, rfl, hle c hc, fun H3 s3 => r H3 s3⟩⟩
      · intro H2 s2 e2
        have eb : H2 D = some (.lst ((l.map isName).map V.bl)) := by
          rw [e2]
          unfold txs
          rw [List.map_map, List.map_map]
          rfl
        refine ⟨D, l.map isName, rfl, SqL.of eb, true, ?_, iteT ⟨_, rfl, .inr ⟨p, l, rfl, .inr (SqT.of (s2 _ _ (s' _ _ hp))), hl, ?_⟩⟩⟩
        · rw [List.all_map, show l.all (id ∘ isName) = l.all isName from rfl, h2]
        · rw [decide_eq_true h3]
          exact q _ (s'.trans s2)
theorem ok_arePlaces {f : Addr} {fd : FuncData} {k : Nat} (F : Fun K "_are_places" "_are_places" sArePlaces f fd) (DN : Df P w K mg base (k + 1) "are_names" ["thing"] spAreNames) (ml : mg "len" = none) (mN : ∃ t, mg "MOST_PLACES" = some (.int 50 t)) : FnOk P w K mg base CX0 (k + 2) f fd ["thing"] spArePlaces := by
  obtain ⟨tN, mN⟩ := mN
  refine F.ok scArePlaces (fun vs H Q E h => ?_) (fun cdv A outer s H vs Q E hr h => ?_)
  · obtain ⟨p, l, rfl, _⟩ := h
    rfl
  · obtain ⟨p, l, rfl, hp, hle, hl, ok, q⟩ := h
    have lt' : (txs l).length = l.length := List.length_map _
    unfold okPlaces at ok
    rw [Bool.and_eq_true, Bool.and_eq_true] at ok
    obtain ⟨⟨h1, h50⟩, h2⟩ := ok
    have h50 := of_decide_eq_true h50
    refine ⟨_, pss_one (ps_ret (pe_and (pe_df DN hr (pa_cons (pv 0) pa_nil)) (pe_one (pe_cmpR op_le (pe_callB call_lenS (by rfl) ml PySem.boot_len (pa_cons (pv 0) pa_nil)) (pe_glob (v := .int 50) (by rfl) mN ⟨_, rfl⟩) (nomark _))))), ?_⟩
    refine ⟨_, rfl, p, l, rfl, hp, hle, hl, by unfold okNames; rw [h1, h2]; rfl, fun H' s' => ⟨true, rfl, iteT ⟨_, rfl, p, txs l, rfl, (hp.same s').sq, _, _, rfl, rfl, ?_⟩⟩⟩
    have e : V.bl (decide (((txs l).length : Int) ≤ 50)) = V.bl true := by rw [lt', decide_eq_true (show (l.length : Int) ≤ 50 by omega)]
    show Q (V.bl (decide (((txs l).length : Int) ≤ 50))) H'
    rw [e]
    exact q _ s'
end
end Tb

set_option Elab.async false
set_option linter.all false
set_option maxRecDepth 100000
set_option maxHeartbeats 2000000
namespace Tb
open PySem PySem.Spec PyProof.Rows L2 TL
/-! ### _are_fillings -/
theorem isi_dK {K : PySem.W.Frag} {H : Hp} {d : Addr} {kvs : List (Key × V)} (h : H d = some (.dK kvs)) : Isi K H (.ref d) "dict" true := ⟨_, .base (.dK h), kit_ty (by decide +kernel)⟩
theorem isi_dT {K : PySem.W.Frag} {H : Hp} {d : Addr} {kvs : List (List Key × V)} (h : H d = some (.dT kvs)) : Isi K H (.ref d) "dict" true := ⟨_, .base (.dT h), kit_ty (by decide +kernel)⟩
theorem sgs_txs (bs : List Nat) : sgs bs = txs (bs.map fun b => [b]) := by
  unfold sgs txs
  rw [List.map_map]
  rfl
theorem kV_S (c : List Nat) : kV (Sum.inr (S c) : Key) = .str (S c) := rfl
theorem keys_fkv (hf : Fil) : (fkv hf).map (fun kv => kV kv.1) = txs (hf.map (·.1)) := by
  unfold fkv txs
  rw [List.map_map, List.map_map]
  rfl
theorem vals_fkv (hf : Fil) : (fkv hf).map Prod.snd = txs (hf.map (·.2)) := by
  unfold fkv txs
  rw [List.map_map, List.map_map]
  rfl
def okKeys (hf : Fil) (bs : List Nat) : Bool := (hf.map (·.1)).all fun c => decide (c ∈ bs.map fun b => [b])
def okFils (hf : Fil) (bs : List Nat) : Bool := okKeys hf bs && isFill (hf.map (·.2)).flatten bs
def oneV (bs : List Nat) : V → V := fun v => match v with | .str x => .bl (decide (tl x ∈ bs.map fun b => [b])) | _ => .non
theorem join_fil (l : List (List Nat)) : Txt.join (S []) (l.map S) = S l.flatten := by
  rw [join_S, joinL_nil]
theorem len_fil (l : List (List Nat)) : ((l.map S).map (·.length)).sum = l.flatten.length := by
  induction l with
  | nil => rfl
  | cons a r ih =>
    rw [List.map_cons, List.map_cons, List.sum_cons, List.flatten_cons, List.length_append, ih]
    rfl
section
variable {P : Program} {w : World} {K : PySem.W.Frag} {mg : Str → Option Value} {base : Heap}
abbrev nAreFillings : List Str := ["thing", "boxes", "boxes_apart", "box", "filling"]
theorem scAreFillings : FnScope nAreFillings ["thing", "boxes"] (defScope sAreFillings) := ⟨rfl, rfl, rfl, by decide +kernel, rfl, by decide +kernel, by decide +kernel⟩
def spAreFillings : Sp := fun vs H Q _ => ∃ (d : Addr) (hf : Fil) (bs : List Nat), vs = [.ref d, .str (S bs)] ∧ H d = some (.dK (fkv hf)) ∧ hf.length ≤ 1000 ∧ (hf.map (·.2)).flatten.length ≤ 1000 ∧ bs.length ≤ 1000 ∧ (∀ b ∈ bs, isLow b = false) ∧ ∀ H', Same H H' → Q (.bl (okFils hf bs)) H'
theorem ok_areFillings {f : Addr} {fd : FuncData} {k : Nat} (F : Fun K "_are_fillings" "_are_fillings" sAreFillings f fd) (DO : Df P w K mg base (k + 1) "is_one_of" ["thing", "strings"] (spIsOneOf K)) (DF : Df P w K mg base (k + 2) "is_filling" ["thing", "boxes"] (spIsFilling K)) (mi : mg "isinstance" = none) (md : mg "dict" = none) (mL : mg "list" = none) (ms : mg "str" = none) (ma : mg "all" = none) :
    FnOk P w K mg base CX0 (k + 3) f fd ["thing", "boxes"] spAreFillings := by
  refine F.ok scAreFillings (fun vs H Q E h => ?_) (fun cdv A outer s H vs Q E hr h => ?_)
  · obtain ⟨d, hf, bs, rfl, _⟩ := h
    rfl
  · obtain ⟨d, hf, bs, rfl, hd, hl, hl2, hb, hlow, q⟩ := h
    refine ⟨_, pss_cons (ps_if (pt_not (pt_val (pe_isDict (pv 0) mi (by rfl) md (by rfl)))) (pss_one (ps_ret pe_bl)) pss_nil)
      (pss_cons (ps_set (i := 2) scAreFillings.nd rfl (.inr rfl) (pe_callTy (call_listStr rfl) (by rfl) mL (by decide +kernel) (pa_cons (pv 1) pa_nil)))
      (pss_cons (ps_if (pt_not (pt_val (pe_callB (cr_all rfl) (by rfl) ma (by decide +kernel) (pa_cons (pe_lock (pe_lc (own := [("box", 3)]) (g := gName 3) (tt := tYes) (te := tCall (spIsOneOf K) [] E0 (tCons (tVar 3) (tCons (tVar 2) tNil))) rfl scAreFillings.nd
            (pi_keys (pv 0)) (blkOk_by (own := [("box", 3)]) (N := nAreFillings) (sc := defScope sAreFillings) (by decide +kernel)) (fun _ _ _ _ _ => pg_name (i := 3) scAreFillings.nd rfl (.inl rfl)) (fun _ _ _ _ _ => pts_nil) (fun _ _ _ _ _ => pe_df DO hr (pa_cons (pv 3) (pa_cons (pv 2) pa_nil))))) pa_nil)))) (pss_one (ps_ret pe_bl)) pss_nil)
      (pss_cons (ps_if (pt_not (pt_val (pe_callB (cr_all rfl) (by rfl) ma (by decide +kernel) (pa_cons (pe_lock (pe_lc (own := [("filling", 4)]) (g := gName 4) (tt := tYes) (te := tIsi K "str" (tVar 4)) rfl scAreFillings.nd
            (pi_values (pv 0)) (blkOk_by (own := [("filling", 4)]) (N := nAreFillings) (sc := defScope sAreFillings) (by decide +kernel)) (fun _ _ _ _ _ => pg_name (i := 4) scAreFillings.nd rfl (.inl rfl)) (fun _ _ _ _ _ => pts_nil) (fun _ _ _ _ _ => pe_isStr (pv 4) mi (by rfl) ms (by rfl)))) pa_nil)))) (pss_one (ps_ret pe_bl)) pss_nil)
      (pss_one (ps_ret (pe_df DF hr (pa_cons (pe_joinV rfl pe_str (pv 0)) (pa_cons (pv 1) pa_nil)))))))), ?_⟩
    have lk : (txs (hf.map (·.1))).length = hf.length := by unfold txs; rw [List.length_map, List.length_map]
    have lv : (txs (hf.map (·.2))).length = hf.length := by unfold txs; rw [List.length_map, List.length_map]
    have lf : (fkv hf).length = hf.length := List.length_map _
    refine ⟨_, rfl, true, isi_dK hd, true, rfl, iteF ⟨_, rfl, bs, rfl, hb, fun L H1 s1 n1 e1 => ?_⟩⟩
    have hd1 := s1 _ _ hd
    have nLd : L ≠ d := fun z => by rw [z, hd1] at e1; cases e1
    -- the keys
    refine ⟨d, _, hd1, trivial, fun od => ⟨_, rfl, d, od, rfl, .inl ⟨fkv hf, upd_same, fun D nD => ?_⟩⟩⟩
    have nDd : D ≠ d := fun z => by rw [z, upd_same] at nD; cases nD
    refine lc_mapW (xs := txs (hf.map (·.1))) (oneV bs) walk_keys (by rw [lf, lk]) (fun i H x H' y => ?_) (fun H2 s2 => s2 _ _ upd_same) nD (by rw [lk]; exact Nat.lt_of_le_of_lt hl (by decide)) ?_ ?_
    · obtain ⟨e, k', v', hk, ex⟩ := y
      refine ⟨e, ?_⟩
      rw [← keys_fkv, List.getElem?_map, hk, ex]
      rfl
    · intro x hx H2 R s2 r
      obtain ⟨c, hc, rfl⟩ := List.mem_map.mp hx
      refine ⟨_, rfl, _, rfl, .inl ⟨c, L, bs.map fun b => [b], rfl, .inl ?_, r H2 fun _ _ e => e⟩⟩
      rw [← sgs_txs]
      exact s2 _ _ (by rw [upd_ne nLd]; exact e1)
    intro H2 s2 e2
    refine ⟨s2 _ _ upd_same, D, (hf.map (·.1)).map fun c => decide (c ∈ bs.map fun b => [b]), rfl, SqL.of ?_, _, rfl, ?_⟩
    · rw [upd_ne nDd, e2]
      unfold txs
      simp only [List.map_map]
      rfl
    rw [List.all_map]
    have s12 : Same H (upd H2 d (.dK (fkv hf))) := s1.trans (same_unlock hd1 s2)
    show (if (!okKeys hf bs) = true then _ else _)
    by_cases h1 : okKeys hf bs = true
    · rw [h1]
      refine iteF ?_
      -- the values
      refine ⟨d, _, upd_same, trivial, fun od2 => ⟨_, rfl, d, od2, fkv hf, rfl, upd_same, fun D2 nD2 => ?_⟩⟩
      have nD2d : D2 ≠ d := fun z => by rw [z, upd_same] at nD2; cases nD2
      refine lc_mapW (xs := txs (hf.map (·.2))) (fun _ => .bl true) walk_values (by rw [lf, lv]) (fun i H x H' y => ?_) (fun H3 s3 => s3 _ _ upd_same) nD2 (by rw [lv]; exact Nat.lt_of_le_of_lt hl (by decide)) ?_ ?_
      · obtain ⟨e, k', hk⟩ := y
        refine ⟨e, ?_⟩
        rw [← vals_fkv, List.getElem?_map, hk]
        rfl
      · intro x hx H3 R s3 r
        obtain ⟨c, hc, rfl⟩ := List.mem_map.mp hx
        exact ⟨_, rfl, true, isi_str _, r H3 fun _ _ e => e⟩
      intro H3 s3 e3
      refine ⟨s3 _ _ upd_same, D2, (hf.map (·.2)).map fun _ => true, rfl, SqL.of ?_, _, rfl, ?_⟩
      · rw [upd_ne nD2d, e3]
        unfold txs
        simp only [List.map_map]
        rfl
      have ht : (((hf.map (·.2)).map fun _ => true).all id) = true := by
        rw [List.all_eq_true]
        intro b hb
        obtain ⟨_, _, rfl⟩ := List.mem_map.mp hb
        rfl
      rw [ht]
      refine iteF ?_
      have s13 : Same H (upd H3 d (.dK (fkv hf))) := s12.trans (same_unlock upd_same s3)
      -- the fillings in one row
      have ev : (fkv hf).map Prod.snd = ((hf.map (·.2)).map S).map V.str := by
        rw [vals_fkv]
        unfold txs
        rw [List.map_map, List.map_map, List.map_map]
        rfl
      refine ⟨_, rfl, _, rfl, d, fkv hf, (hf.map (·.2)).map S, rfl, upd_same, ev, ?_, fun H4 s4 => ⟨_, rfl, ?_⟩⟩
      · rw [len_fil, str_empty, len_S]
        show _ + _ * 0 ≤ _
        omega
      rw [str_empty, join_fil]
      refine .inl ⟨(hf.map (·.2)).flatten, bs, rfl, hl2, hlow, fun H5 s5 => ?_⟩
      have h := q H5 (s13.trans (s4.trans s5))
      unfold okFils at h
      rw [h1] at h
      exact h
    · rw [Bool.eq_false_iff.mpr h1]
      refine iteT ?_
      have h := q _ s12
      unfold okFils at h
      rw [Bool.eq_false_iff.mpr h1] at h
      exact h
end
end Tb

set_option Elab.async false
set_option linter.all false
set_option maxRecDepth 100000
set_option maxHeartbeats 4000000
namespace Tb
open PySem PySem.Spec PyProof.Rows L2 TL
/-- what stands under a key of the moves that are handed in: a list or a tuple -/
def MvIn (H : Hp) (kv : List Key × V) (m : Mv) : Prop := kv.1 = m.key ∧ ∃ t d, kv.2 = .ref t ∧ SeqH H t [.str (S m.to), .ref d] ∧ H d = some (.dK (fkv m.fl))
theorem MvIn.same {H H' : Hp} (s : Same H H') {kv : List Key × V} {m : Mv} (h : MvIn H kv m) : MvIn H' kv m := by
  obtain ⟨e, t, d, a, b, c⟩ := h
  exact ⟨e, t, d, a, b.same s, s _ _ c⟩
theorem MvAt.to_in {H : Hp} {kv : List Key × V} {m : Mv} (h : MvAt H kv m) : MvIn H kv m := by
  obtain ⟨e, t, d, a, b, c⟩ := h
  exact ⟨e, t, d, a, .inr b, c⟩
theorem MvIn.lock {H : Hp} {p : Addr} {od : Obj} {kvs : List (List Key × V)} (hp : H p = some (.dT kvs)) {kv : List Key × V} {m : Mv} (h : MvIn H kv m) : MvIn (upd H p (.frz od (.dT kvs))) kv m := by
  obtain ⟨e, t, d, a, b, c⟩ := h
  refine ⟨e, t, d, a, ?_, by rw [upd_ne (ne_of c hp (by intro z; cases z))]; exact c⟩
  rcases b with b | b
  · exact .inl (by rw [upd_ne (ne_of b hp (by intro z; cases z))]; exact b)
  · exact .inr (by rw [upd_ne (ne_of b hp (by intro z; cases z))]; exact b)
/-- parts that make a program -/
structure FilQ (bs : List Nat) (fl : Fil) : Prop where
  nd : (fl.map (·.1)).Nodup
  ok : okFils fl bs = true
  len : (fl.map (·.2)).flatten.length ≤ 1000
structure PartsQ (pt : Pt) : Prop where
  le : okLetters pt.letters = true
  bo : okBoxes pt.boxes = true
  pl : okPlaces pt.places = true
  ky : (pt.moves.map fun m => (m.pl, m.lt)).Nodup
  mv : ∀ m ∈ pt.moves, m.pl ∈ pt.places ∧ m.lt ∈ pt.letters ∧ m.to ∈ pt.places ∧ FilQ pt.boxes m.fl
  ek : (pt.ends.map (·.1)).Nodup
  en : ∀ q ∈ pt.ends, q.1 ∈ pt.places ∧ isFill q.2 pt.boxes = true ∧ q.2.length ≤ 1000
theorem paired_get2 {α β : Type} {F : α → β → Prop} : ∀ {l : List α} {m : List β} {i : Nat} {x : α}, Paired F l m → l[i]? = some x → ∃ y, m[i]? = some y ∧ F x y
  | _, _, _, _, .nil, h => by simp at h
  | _, _, 0, x, .cons h t, e => by
    simp at e
    subst e
    exact ⟨_, rfl, h⟩
  | _, _, i + 1, x, .cons h t, e => by
    simp at e
    obtain ⟨y, h1, h2⟩ := paired_get2 t e
    exact ⟨y, by simpa using h1, h2⟩
theorem FilQ.few {bs : List Nat} {fl : Fil} (h : FilQ bs fl) (hb : bs.length ≤ 1000) : fl.length ≤ 1000 := by
  have hk : okKeys fl bs = true := by
    have := h.ok
    unfold okFils at this
    exact (Bool.and_eq_true _ _ ▸ this).1
  have sub : (fl.map (·.1)) ⊆ bs.map fun b => [b] := fun x hx => of_decide_eq_true (List.all_eq_true.mp hk x hx)
  have h1 := List.Nodup.length_le_of_subset h.nd sub
  rw [List.length_map, List.length_map] at h1
  omega
section
variable {P : Program} {w : World} {K : PySem.W.Frag} {mg : Str → Option Value} {base : Heap}
abbrev nAreMoves : List Str := ["thing", "letters", "boxes", "places", "letters_apart", "key", "found"]
theorem scAreMoves : FnScope nAreMoves ["thing", "letters", "boxes", "places"] (defScope sAreMoves) := ⟨rfl, rfl, rfl, by decide +kernel, rfl, by decide +kernel, by decide +kernel⟩
def spAreMoves : Sp := fun vs H Q _ => ∃ (d pl : Addr) (kvs : List (List Key × V)) (ms : List Mv) (letters bs : List Nat) (places : List (List Nat)), vs = [.ref d, .str (S letters), .str (S bs), .ref pl] ∧ H d = some (.dT kvs) ∧ Paired (MvIn H) kvs ms ∧ SeqH H pl (txs places) ∧
  letters.length ≤ 1000 ∧ bs.length ≤ 1000 ∧ (∀ b ∈ bs, isLow b = false) ∧ (∀ m ∈ ms, m.pl ∈ places ∧ m.lt ∈ letters ∧ m.to ∈ places ∧ FilQ bs m.fl) ∧ ∀ H', Same H H' → Q (.bl true) H'
theorem ok_areMoves {f : Addr} {fd : FuncData} {k : Nat} (F : Fun K "_are_moves" "_are_moves" sAreMoves f fd) (DP : Df P w K mg base (k + 1) "is_pair" ["thing"] (spIsPair K)) (DO : Df P w K mg base (k + 1) "is_one_of" ["thing", "strings"] (spIsOneOf K)) (DF : Df P w K mg base (k + 3) "_are_fillings" ["thing", "boxes"] spAreFillings) (mi : mg "isinstance" = none) (md : mg "dict" = none) (mL : mg "list" = none) :
    FnOk P w K mg base CX0 (k + 4) f fd ["thing", "letters", "boxes", "places"] spAreMoves := by
  refine F.ok scAreMoves (fun vs H Q E h => ?_) (fun cdv A outer s H vs Q E hr h => ?_)
  · obtain ⟨d, pl, kvs, ms, letters, bs, places, rfl, _⟩ := h
    rfl
  · obtain ⟨d, pl, kvs, ms, letters, bs, places, rfl, hd, hms, hpl, hl, hb, hlow, hok, q⟩ := h
    refine ⟨_, pss_cons (ps_if (pt_not (pt_val (pe_isDict (pv 0) mi (by rfl) md (by rfl)))) (pss_one (ps_ret pe_bl)) pss_nil)
      (pss_cons (ps_set (i := 4) scAreMoves.nd rfl (.inl rfl) (pe_callTy (call_listStr rfl) (by rfl) mL (by decide +kernel) (pa_cons (pv 1) pa_nil)))
      (pss_cons (ps_lock (ps_for PassesOwn.never rfl (pi_itemsT (pv 0)) (pg_tup rfl (pgs_cons (pg_name (i := 5) scAreMoves.nd rfl (.inl rfl)) (pgs_cons (pg_name (i := 6) scAreMoves.nd rfl (.inl rfl)) pgs_nil)))
        (pss_cons (ps_if (PW.pt (pw_or (pt_not (pt_val (pe_df DP hr (pa_cons (pv 5) pa_nil)))) (pw_or1 (pt_not (pt_val (pe_df DP hr (pa_cons (pv 6) pa_nil))))))) (pss_one (ps_ret pe_bl)) pss_nil)
        (pss_cons (ps_if (PW.pt (pw_or (pt_not (pt_val (pe_df DO hr (pa_cons (pe_ix ix_tup (pv 5) pe_int (fun _ _ => rfl)) (pa_cons (pv 3) pa_nil))))) (pw_or1 (pt_not (pt_val (pe_df DO hr (pa_cons (pe_ix ix_tup (pv 5) pe_int (fun _ _ => rfl)) (pa_cons (pv 4) pa_nil)))))))) (pss_one (ps_ret pe_bl)) pss_nil)
        (pss_one (ps_if (PW.pt (pw_or (pt_not (pt_val (pe_df DO hr (pa_cons (pe_ix ix_seq (pv 6) pe_int (fun _ _ => rfl)) (pa_cons (pv 3) pa_nil))))) (pw_or1 (pt_not (pt_val (pe_df DF hr (pa_cons (pe_ix ix_seq (pv 6) pe_int (fun _ _ => rfl)) (pa_cons (pv 2) pa_nil)))))))) (pss_one (ps_ret pe_bl)) pss_nil))))))
      (pss_one (ps_ret pe_bl)))), ?_⟩
    refine ⟨_, rfl, true, isi_dT hd, true, rfl, iteF ⟨_, rfl, letters, rfl, hl, fun L H1 s1 n1 e1 => ?_⟩⟩
    have hd1 := s1 _ _ hd
    have nLd : L ≠ d := fun z => by rw [z, hd1] at e1; cases e1
    refine ⟨d, _, hd1, trivial, fun od => ⟨_, rfl, d, od, kvs, rfl, upd_same, ?_⟩⟩
    have hms1 : Paired (MvIn (upd H1 d (.frz od (.dT kvs)))) kvs ms := Paired.mono (fun kv m h => (h.same s1).lock hd1) hms
    have hpl1 : SeqH (upd H1 d (.frz od (.dT kvs))) pl (txs places) := by
      rcases hpl with h | h
      · exact .inl (by rw [upd_ne (ne_of (s1 _ _ h) hd1 (by intro z; cases z))]; exact s1 _ _ h)
      · exact .inr (by rw [upd_ne (ne_of (s1 _ _ h) hd1 (by intro z; cases z))]; exact s1 _ _ h)
    have hL1 : (upd H1 d (.frz od (.dT kvs))) L = some (.lst (sgs letters)) := by rw [upd_ne nLd]; exact e1
    refine for_it walk_itemsT (fun i σ H' => ∃ v5 v6, σ = [some (.ref d), some (.str (S letters)), some (.str (S bs)), some (.ref pl), some (.ref L), v5, v6] ∧ Same (upd H1 d (.frz od (.dT kvs))) H') ⟨none, none, rfl, fun _ _ e => e⟩ (fun i σ H' _ ⟨_, _, _, s⟩ => s _ _ upd_same) ?_ ?_
    · rintro i x σ H2 H3 hi ⟨v5, v6, rfl, s2⟩ ⟨T, kk, v, kq, hkv, hq, rfl, nT, rfl⟩
      obtain ⟨m, hm, hin⟩ := paired_get2 hms1 hkv
      obtain ⟨ek, t, fd', ev, ht, hfd⟩ := hin
      have ek' : kk = m.key := ek
      have ev' : v = .ref t := ev
      subst ek' ev'
      have hmo := hok m (List.mem_of_getElem? hm)
      have s3 : Same (upd H1 d (.frz od (.dT kvs))) (upd H2 T (.tup [.ref kq, .ref t])) := s2.trans (same_upd nT)
      have hq3 : (upd H2 T (.tup [.ref kq, .ref t])) kq = some (.tup [.str (S m.pl), .str (S [m.lt])]) := same_upd nT _ _ hq
      refine ⟨T, [.ref kq, .ref t], rfl, SqT.of upd_same, rfl, _, _, rfl, _, _, rfl, rfl, ?_⟩
      generalize upd H2 T (.tup [.ref kq, .ref t]) = H3 at s3 hq3
      refine ⟨_, rfl, .inl ⟨kq, _, rfl, .inr hq3, fun H4 s4 => ⟨true, rfl, iteF ⟨_, rfl, .inl ⟨t, _, rfl, (ht.same s3).same s4, fun H5 s5 => ⟨true, rfl, iteF ?_⟩⟩⟩⟩⟩⟩
      have s35 := s4.trans s5
      have hpl5 := (hpl1.same s3).same s35
      have hq5 := s35 _ _ hq3
      have hL5 := s35 _ _ (s3 _ _ hL1)
      have ht5 := (ht.same s3).same s35
      have hfd5 := s35 _ _ (s3 _ _ hfd)
      refine ⟨_, rfl, kq, _, 0, _, rfl, rfl, SqT.of hq5, atI_nat rfl, _, rfl, .inl ⟨m.pl, pl, places, rfl, hpl5, _, rfl, ?_⟩⟩
      rw [decide_eq_true hmo.1]
      refine iteF ⟨_, rfl, kq, _, 1, _, rfl, rfl, SqT.of hq5, atI_nat (j := 1) rfl, _, rfl, .inl ⟨[m.lt], L, letters.map fun b => [b], rfl, .inl (by rw [← sgs_txs]; exact hL5), _, rfl, ?_⟩⟩
      rw [decide_eq_true (show [m.lt] ∈ letters.map fun b => [b] from List.mem_map.mpr ⟨m.lt, hmo.2.1, rfl⟩)]
      refine iteF ?_
      have ix : ∀ (j : Nat) (z : V) (R : VK), ([V.str (S m.to), .ref fd'])[j]? = some z → R z H5 → rIx K (.ref t) (.int (j : Int)) H5 R := by
        intro j z R hz hR
        rcases ht5 with h | h
        · exact .inl ⟨t, _, _, z, rfl, rfl, SqL.of h, atI_nat hz, hR⟩
        · exact .inr (.inl ⟨t, _, _, z, rfl, rfl, SqT.of h, atI_nat hz, hR⟩)
      refine ⟨_, rfl, ix 0 _ _ rfl ⟨_, rfl, .inl ⟨m.to, pl, places, rfl, hpl5, _, rfl, ?_⟩⟩⟩
      rw [decide_eq_true hmo.2.2.1]
      refine iteF ⟨_, rfl, ix 1 _ _ rfl ⟨_, rfl, fd', m.fl, bs, rfl, hfd5, hmo.2.2.2.few hb, hmo.2.2.2.len, hb, hlow, fun H6 s6 => ⟨_, rfl, ?_⟩⟩⟩
      rw [hmo.2.2.2.ok]
      exact iteF ⟨_, _, rfl, s3.trans (s35.trans s6)⟩
    · rintro σ H2 ⟨v5, v6, rfl, s2⟩
      exact ⟨s2 _ _ upd_same, q _ (s1.trans (same_unlock hd1 s2))⟩
/-! ### _are_ends -/
abbrev nAreEnds : List Str := ["thing", "boxes", "places", "place", "filling"]
theorem scAreEnds : FnScope nAreEnds ["thing", "boxes", "places"] (defScope sAreEnds) := ⟨rfl, rfl, rfl, by decide +kernel, rfl, by decide +kernel, by decide +kernel⟩
def spAreEnds : Sp := fun vs H Q _ => ∃ (d pl : Addr) (es : Fil) (bs : List Nat) (places : List (List Nat)), vs = [.ref d, .str (S bs), .ref pl] ∧ H d = some (.dK (fkv es)) ∧ SeqH H pl (txs places) ∧ (∀ b ∈ bs, isLow b = false) ∧ (∀ q ∈ es, q.1 ∈ places ∧ isFill q.2 bs = true ∧ q.2.length ≤ 1000) ∧ ∀ H', Same H H' → Q (.bl true) H'
theorem ok_areEnds {f : Addr} {fd : FuncData} {k : Nat} (F : Fun K "_are_ends" "_are_ends" sAreEnds f fd) (DO : Df P w K mg base (k + 1) "is_one_of" ["thing", "strings"] (spIsOneOf K)) (DF : Df P w K mg base (k + 2) "is_filling" ["thing", "boxes"] (spIsFilling K)) (mi : mg "isinstance" = none) (md : mg "dict" = none) :
    FnOk P w K mg base CX0 (k + 3) f fd ["thing", "boxes", "places"] spAreEnds := by
  refine F.ok scAreEnds (fun vs H Q E h => ?_) (fun cdv A outer s H vs Q E hr h => ?_)
  · obtain ⟨d, pl, es, bs, places, rfl, _⟩ := h
    rfl
  · obtain ⟨d, pl, es, bs, places, rfl, hd, hpl, hlow, hok, q⟩ := h
    refine ⟨_, pss_cons (ps_if (pt_not (pt_val (pe_isDict (pv 0) mi (by rfl) md (by rfl)))) (pss_one (ps_ret pe_bl)) pss_nil)
      (pss_cons (ps_lock (ps_for PassesOwn.never rfl (pi_items (pv 0)) (pg_tup rfl (pgs_cons (pg_name (i := 3) scAreEnds.nd rfl (.inl rfl)) (pgs_cons (pg_name (i := 4) scAreEnds.nd rfl (.inl rfl)) pgs_nil)))
        (pss_one (ps_if (PW.pt (pw_or (pt_not (pt_val (pe_df DO hr (pa_cons (pv 3) (pa_cons (pv 2) pa_nil))))) (pw_or1 (pt_not (pt_val (pe_df DF hr (pa_cons (pv 4) (pa_cons (pv 1) pa_nil)))))))) (pss_one (ps_ret pe_bl)) pss_nil))))
      (pss_one (ps_ret pe_bl))), ?_⟩
    refine ⟨_, rfl, true, isi_dK hd, true, rfl, iteF ?_⟩
    refine ⟨d, _, hd, trivial, fun od => ⟨_, rfl, d, od, fkv es, rfl, upd_same, ?_⟩⟩
    have hpl1 : SeqH (upd H d (.frz od (.dK (fkv es)))) pl (txs places) := by
      rcases hpl with h | h
      · exact .inl (by rw [upd_ne (ne_of h hd (by intro z; cases z))]; exact h)
      · exact .inr (by rw [upd_ne (ne_of h hd (by intro z; cases z))]; exact h)
    refine for_it walk_items (fun i σ H' => ∃ v3 v4, σ = [some (.ref d), some (.str (S bs)), some (.ref pl), v3, v4] ∧ Same (upd H d (.frz od (.dK (fkv es)))) H') ⟨none, none, rfl, fun _ _ e => e⟩ (fun i σ H' _ ⟨_, _, _, s⟩ => s _ _ upd_same) ?_ ?_
    · rintro i x σ H2 H3 hi ⟨v3, v4, rfl, s2⟩ ⟨T, x1, x2, rfl, nT, rfl, hx1, hx2⟩
      have hx1 : ((fkv es)[i]?.map fun kv => kV kv.1) = some x1 := hx1
      have hx2 : (fkv es)[i]?.map Prod.snd = some x2 := hx2
      obtain ⟨c, hc⟩ : ∃ c, es[i]? = some c := by
        cases z : es[i]? with
        | some c => exact ⟨c, rfl⟩
        | none =>
          unfold fkv at hx1
          rw [List.getElem?_map, z] at hx1
          cases hx1
      have e1 : x1 = .str (S c.1) := by
        unfold fkv at hx1
        rw [List.getElem?_map, hc] at hx1
        exact (Option.some.inj hx1).symm
      have e2 : x2 = .str (S c.2) := by
        unfold fkv at hx2
        rw [List.getElem?_map, hc] at hx2
        exact (Option.some.inj hx2).symm
      subst e1 e2
      have hco := hok c (List.mem_of_getElem? hc)
      have s3 : Same (upd H d (.frz od (.dK (fkv es)))) (upd H2 T (.tup [.str (S c.1), .str (S c.2)])) := s2.trans (same_upd nT)
      refine ⟨T, [.str (S c.1), .str (S c.2)], rfl, SqT.of upd_same, rfl, _, _, rfl, _, _, rfl, rfl, ?_⟩
      refine ⟨_, rfl, _, rfl, .inl ⟨c.1, pl, places, rfl, hpl1.same s3, _, rfl, ?_⟩⟩
      rw [decide_eq_true hco.1]
      refine iteF ⟨_, rfl, _, rfl, .inl ⟨c.2, bs, rfl, hco.2.2, hlow, fun H4 s4 => ⟨_, rfl, ?_⟩⟩⟩
      rw [hco.2.1]
      exact iteF ⟨_, _, rfl, s3.trans s4⟩
    · rintro σ H2 ⟨v3, v4, rfl, s2⟩
      exact ⟨s2 _ _ upd_same, q _ (same_unlock hd s2)⟩
end
end Tb

set_option Elab.async false
set_option linter.all false
set_option maxRecDepth 100000
set_option maxHeartbeats 4000000
/-! y = {k: v for ..}, y a local of a def -/
namespace Tb
open PySem PySem.Spec PyProof.Rows L2 TL
theorem sw_trueD {kx vx : Expr} {gs : List Comprehension} {scope : Scope} {pos py : Pos} {y : Str} {l : Nat} {env : Env} (hk : env.scope.kind = .function) (hy : env.scope.names.lookup y = some .local) (hl : (py.line == pos.line) = true)
    (ha : (scope.names.any fun (n, k) => n == y && (k == .local || k == .cell)) = false) : swapsWith (.DictComp kx vx gs scope pos) (some (.Name y py)) l env = pure true := by
  have kdy : env.kindOf y = some .local := hy
  have kdb : env.blockKind = .function := by
    unfold Env.blockKind
    rw [hk]
    rfl
  unfold swapsWith
  simp only [kdb, kdy, ha, Expr.pos, hl]
  rfl
section
variable {X : Cx}
theorem ps_setDc {i : Nat} {y : Str} {py : Pos} {kx vx tg iter : Expr} {ifs : List Expr} {scope : Scope} {own : List (Str × Nat)} {pos spos : Pos} {wi : TI} {g : TG} {tt : TT} {tk tv : TE} (hc : X.calm = true) (hN : X.N.Nodup) (hy : X.N[i]? = some y) (hyl : X.env.scope.names.lookup y = some .local)
    (hsw : swapsWith (.DictComp kx vx [⟨tg, iter, ifs, 0⟩] scope pos) (some (.Name y py)) spos.line X.env = pure true) (hi : PI X tg iter wi) (ok : BlkOk X.N X.env.scope scope own)
    (hg : ∀ (s : Shared) (H : Hp) (C : Addr) (cl : List (Str × Addr)) (fp : List Addr), PG (X.blk s H scope (compEnvC scope cl C X.env) fp) tg g) (ht : ∀ (s : Shared) (H : Hp) (C : Addr) (cl : List (Str × Addr)) (fp : List Addr), PTs (X.blk s H scope (compEnvC scope cl C X.env) fp) ifs tt)
    (hk : ∀ (s : Shared) (H : Hp) (C : Addr) (cl : List (Str × Addr)) (fp : List Addr), PE (X.blk s H scope (compEnvC scope cl C X.env) fp) kx tk)
    (he : ∀ (s : Shared) (H : Hp) (C : Addr) (cl : List (Str × Addr)) (fp : List Addr), PE (X.blk s H scope (compEnvC scope cl C X.env) fp) vx tv) (hs : ∀ x, foldedSetIterable iter X.env x = pure x := by intro _; rfl) :
    PS X (.Assign [.Name y py] (.DictComp kx vx [⟨tg, iter, ifs, 0⟩] scope pos) spos) (tAsg (tDc wi g tt tk tv (own.map (·.2))) (gName i)) := by
  refine ⟨fun pins s σ H D I h => ?_⟩
  rw [exec_Assign_Name_used _ _ _ _ hsw]
  refine wpAny_bind (wpAny_standAt (wpAny_bind ?_))
  have h : tDc wi g tt tk tv (own.map (·.2)) σ H (fun x H1 => gName i x σ H1 D.nx) := h
  show wpAny _ X.A (do let _ ← comprehension (.DictComp kx vx [⟨tg, iter, ifs, 0⟩] scope pos) scope X.env (firstIterPos [⟨tg, iter, ifs, 0⟩] pos) newDict false (eval iter X.env) (some (assign (.Name y py) X.env))) _ _ s
  refine wpAny_bind (thn (dc_core (Qf := fun _ s' => SP X pins D .next s') hc hN I hi ok hg ht hk he hs h fun L C s' m H' J q hn fo => ?_) fun _ s' hq => wpAny_pure (wpAny_pure hq))
  show wpAny _ _ (assign (.Name y py) X.env (.ref L)) _ _ _
  refine wpAny_assign_Name (store_ok2 (v := V.ref L) J hN hy (.inl hyl) rfl (fun s2 J2 ⟨a, sb, ha⟩ => ?_) (.inr hyl))
  obtain ⟨g0, g1, g2, g3, g4, g5⟩ := fo
  have neCa : C ≠ a := by
    rcases ha with z | z
    · rw [z]
      exact g1
    · exact fun e => g4 y a z e.symm
  refine ⟨m, hn.sameBut sb neCa, fun h3 sb3 => ⟨_, H', J2.turned (t' := s2.toks) (fun b o hb e => (sb3.2 b hb).trans e) g0 g1 g3 g4 g5, q⟩⟩
end
end Tb

set_option Elab.async false
set_option linter.all false
set_option maxRecDepth 100000
set_option maxHeartbeats 4000000
namespace Tb
open PySem PySem.Spec PyProof.Rows L2 TL
/-! ### dict comprehensions over anything that is walked -/
section
variable {tk tv : TE} {tt : TT} {g : TG} {vs : List Nat} {σ : L2.St} {H1 : Hp} {D : Addr} {Qd : Hp → Prop} {sl : Nat} {J : It} {n : Nat} {G : Hp → Prop} {Y : Nat → Hp → V → Hp → Prop}
theorem dc_it (w : Walk J n G Y) (Pv : Nat → Hp → Prop) (h0 : Pv 0 (upd H1 D (.dK []))) (hG : ∀ i H, i ≤ n → Pv i H → G H)
    (hs : ∀ i x H H', i < n → Pv i H → Y i H x H' → g x (wipe σ vs) H' fun σ2 H2 => wipe σ2 vs = wipe σ vs ∧ tt σ2 H2 fun b H3 =>
      if b = true then tk σ2 H3 fun y H4 => tv σ2 H4 fun z H5 => ∃ kvs k, y = kV k ∧ H5 D = some (.dK kvs) ∧ kvs.length < sizeLine ∧ Pv (i + 1) (upd H5 D (.dK (putK kvs k z))) else Pv (i + 1) H3) (hd : ∀ H, Pv n H → Qd H) :
    ∃ W : Nat → Nat → Hp → Prop, (∃ m, W 0 m (upd H1 D (.dK []))) ∧ ∀ i m H, W i m H →
      (J.stop i H ∧ Qd H) ∨ (J.go i H ∧ ∃ Nx : Hp → Prop, (∀ H', Nx H' → ∃ m', m' < m ∧ W (i + 1) m' H') ∧ ∀ x H', J.yld i H x H' → g x (wipe σ vs) H' fun σ2 H2 => wipe σ2 vs = wipe σ vs ∧ tt σ2 H2 fun b H3 =>
        if b = true then tk σ2 H3 fun y H4 => tv σ2 H4 fun z H5 => ∃ kvs k, y = kV k ∧ H5 D = some (.dK kvs) ∧ kvs.length < sizeLine ∧ Nx (upd H5 D (.dK (putK kvs k z))) else Nx H3) := by
  refine ⟨fun i m H => m = n - i ∧ i ≤ n ∧ Pv i H, ⟨n, rfl, Nat.zero_le _, h0⟩, fun i m H ⟨em, hi, p⟩ => ?_⟩
  subst em
  rcases Nat.lt_or_ge i n with hlt | hge
  · refine .inr ⟨w.goes i H hlt (hG i H hi p), Pv (i + 1), fun H' p' => ⟨n - (i + 1), by omega, rfl, hlt, p'⟩, fun x H' y => ?_⟩
    exact hs i x H H' hlt p (w.yields i H x H' hlt (hG i H hi p) y)
  · obtain rfl : i = n := Nat.le_antisymm hi hge
    exact .inl ⟨w.stops H (hG i H hi p), hd H p⟩
theorem dc_mapW {xs : List V} (keep : V → Bool) (kf : V → Key) (vf : V → V) (w : Walk J n G Y) (hn : n = xs.length) (hY : ∀ i H x H', Y i H x H' → H' = H ∧ xs[i]? = some x) (hG : ∀ H', Same H1 H' → G H') (nD : H1 D = none) (hl : xs.length < sizeLine) (nd : ((xs.filter keep).map kf).Nodup)
    (ht : ∀ x ∈ xs, ∀ H' (R : Bool → Hp → Prop), Same H1 H' → R (keep x) H' → tt ((wipe σ vs).set sl (some x)) H' R)
    (hk : ∀ x ∈ xs, keep x = true → ∀ H' (R : VK), Same H1 H' → R (kV (kf x)) H' → tk ((wipe σ vs).set sl (some x)) H' R)
    (he : ∀ x ∈ xs, keep x = true → ∀ H' (R : VK), Same H1 H' → (∀ H'', Same H' H'' → R (vf x) H'') → tv ((wipe σ vs).set sl (some x)) H' R)
    (hd : ∀ H', Same H1 H' → H' D = some (.dK ((xs.filter keep).map fun x => (kf x, vf x))) → Qd H') (hw : ∀ x, wipe ((wipe σ vs).set sl (some x)) vs = wipe σ vs := by intro _; rfl) :
    ∃ W : Nat → Nat → Hp → Prop, (∃ m, W 0 m (upd H1 D (.dK []))) ∧ ∀ i m H, W i m H →
      (J.stop i H ∧ Qd H) ∨ (J.go i H ∧ ∃ Nx : Hp → Prop, (∀ H', Nx H' → ∃ m', m' < m ∧ W (i + 1) m' H') ∧ ∀ x H', J.yld i H x H' → gName sl x (wipe σ vs) H' fun σ2 H2 => wipe σ2 vs = wipe σ vs ∧ tt σ2 H2 fun b H3 =>
        if b = true then tk σ2 H3 fun y H4 => tv σ2 H4 fun z H5 => ∃ kvs k, y = kV k ∧ H5 D = some (.dK kvs) ∧ kvs.length < sizeLine ∧ Nx (upd H5 D (.dK (putK kvs k z))) else Nx H3) := by
  refine dc_it w (fun i H => Same H1 H ∧ H D = some (.dK (((xs.take i).filter keep).map fun x => (kf x, vf x)))) ⟨same_upd nD, upd_same⟩ (fun i H _ h => hG H h.1) ?_ ?_
  · rintro i x H H' hi ⟨s, e⟩ y
    obtain ⟨rfl, hx⟩ := hY _ _ _ _ y
    have hm := List.mem_of_getElem? hx
    have et : xs.take (i + 1) = xs.take i ++ [x] := by
      rw [List.take_add_one, hx]
      rfl
    refine ⟨hw _, tif (k := keep x) (fun R r => ht x hm _ R s r) (fun hkx => hk x hm hkx _ _ s (he x hm hkx _ _ s fun H2 s2 => ?_)) (fun hkx => ⟨s, ?_⟩)⟩
    · have e1 : [x].filter keep = [x] := by simp [List.filter_cons, hkx]
      refine ⟨_, kf x, rfl, s2 _ _ e, ?_, fun b o eb => ?_, ?_⟩
      · rw [List.length_map]
        refine Nat.lt_of_le_of_lt (List.length_filter_le _ _) ?_
        rw [List.length_take]
        exact Nat.lt_of_le_of_lt (Nat.min_le_right _ _) hl
      · rw [upd_ne (ne_of_none eb nD)]
        exact s2 _ _ (s _ _ eb)
      · rw [upd_same, putK_end, et, List.filter_append, e1, List.map_append]
        · rfl
        · intro z
          rw [List.map_map] at z
          have h1 : ((xs.take (i + 1)).filter keep).map kf |>.Nodup := by
            refine List.Sublist.nodup ?_ nd
            exact ((List.take_sublist _ _).filter _).map _
          rw [et, List.filter_append, e1, List.map_append, List.nodup_append] at h1
          exact h1.2.2 _ z _ (List.mem_singleton.mpr rfl) rfl
    · have e1 : [x].filter keep = [] := by simp [List.filter_cons, hkx]
      rw [et, List.filter_append, e1, List.append_nil]
      exact e
  · rintro H ⟨s, e⟩
    subst hn
    rw [List.take_length] at e
    exact hd H s e
end
/-- one target, two kinds of values -/
def gOr (g1 g2 : TG) : TG := fun v σ H Q => g1 v σ H Q ∨ g2 v σ H Q
theorem pg_or {X : Cx} {e : Expr} {g1 g2 : TG} (h1 : PG X e g1) (h2 : PG X e g2) : PG X e (gOr g1 g2) := ⟨fun pins s σ H v u Q I r h => h.elim (fun h => h1.run pins s σ H v u Q I r h) fun h => h2.run pins s σ H v u Q I r h⟩
/-! ### what is kept of the fillings -/
def keptF (fl : Fil) : Fil := ((sortN (fl.map fun q => q.1.headD 0)).map fun b => ([b], (getF fl [b]).getD [])).filter fun q => decide (q.2 ≠ [])
def keptM (m : Mv) : Mv := { m with fl := keptF m.fl }
theorem keptM_key (m : Mv) : (keptM m).key = m.key := rfl
/-- all keys are one sign each -/
def Ones (fl : Fil) : Prop := ∀ q ∈ fl, ∃ b, q.1 = [b]
theorem heads_keys {fl : Fil} (h : Ones fl) : fl.map (·.1) = (fl.map fun q => q.1.headD 0).map fun b => [b] := by
  rw [List.map_map]
  refine List.map_congr_left fun q hq => ?_
  obtain ⟨b, e⟩ := h q hq
  have h1 : q.1 = [q.1.headD 0] := by
    rw [e]
    rfl
  exact h1
theorem FilQ.ones {bs : List Nat} {fl : Fil} (h : FilQ bs fl) : Ones fl := by
  intro q hq
  have hk : okKeys fl bs = true := by
    have := h.ok
    unfold okFils at this
    exact (Bool.and_eq_true _ _ ▸ this).1
  have := of_decide_eq_true (List.all_eq_true.mp hk q.1 (List.mem_map.mpr ⟨q, hq, rfl⟩))
  obtain ⟨b, _, e⟩ := List.mem_map.mp this
  exact ⟨b, e.symm⟩
/-- a move that is kept: a tuple, its dict new -/
def MvNew (H0 H : Hp) (kv : List Key × V) (m : Mv) : Prop := kv.1 = m.key ∧ ∃ t d, kv.2 = .ref t ∧ H t = some (.tup [.str (S m.to), .ref d]) ∧ H d = some (.dK (fkv m.fl)) ∧ H0 d = none
theorem MvNew.at {H0 H : Hp} {kv : List Key × V} {m : Mv} (h : MvNew H0 H kv m) : MvAt H kv m := by
  obtain ⟨e, t, d, a, b, c, _⟩ := h
  exact ⟨e, t, d, a, b, c⟩
theorem MvNew.but {H0 H H' : Hp} {p : Addr} {kvs : List (List Key × V)} (hp : H p = some (.dT kvs)) (s : But p H H') {kv : List Key × V} {m : Mv} (h : MvNew H0 H kv m) : MvNew H0 H' kv m := by
  obtain ⟨e, t, d, a, b, c, n⟩ := h
  exact ⟨e, t, d, a, s _ _ b (ne_of b hp (by intro z; cases z)), s _ _ c (ne_of c hp (by intro z; cases z)), n⟩
theorem get_kept {fl : Fil} (h : Ones fl) {b : Nat} (hb : b ∈ fl.map fun q => q.1.headD 0) : ∃ f, getF fl [b] = some f := by
  have hm : [b] ∈ fl.map (·.1) := by
    rw [heads_keys h]
    exact List.mem_map.mpr ⟨b, hb, rfl⟩
  obtain ⟨f, e, _⟩ := getF_some hm
  exact ⟨f, e⟩
def keepV (fl : Fil) : V → Bool := fun v => match v with | .str x => decide ((getF fl (tl x)).getD [] ≠ []) | _ => false
def keyV : V → Key := fun v => match v with | .str x => Sum.inr x | _ => Sum.inl 0
def fillV (fl : Fil) : V → V := fun v => match v with | .str x => .str (S ((getF fl (tl x)).getD [])) | _ => .non
theorem kept_eq (fl : Fil) : ((sgs (sortN (fl.map fun q => q.1.headD 0))).filter (keepV fl)).map (fun x => (keyV x, fillV fl x)) = fkv (keptF fl) := by
  unfold sgs fkv keptF
  generalize sortN (fl.map fun q => q.1.headD 0) = l
  induction l with
  | nil => rfl
  | cons b l ih =>
    have e1 : keepV fl (.str (S [b])) = decide ((getF fl [b]).getD [] ≠ []) := rfl
    rw [List.map_cons, List.map_cons, List.filter_cons, List.filter_cons, e1]
    by_cases z : (getF fl [b]).getD [] ≠ []
    · rw [decide_eq_true z, if_pos rfl, if_pos rfl, List.map_cons, List.map_cons, ih]
      rfl
    · rw [decide_eq_false z, if_neg Bool.false_ne_true, if_neg Bool.false_ne_true, ih]
theorem kept_nd {fl : Fil} (nd : (fl.map (·.1)).Nodup) (h : Ones fl) : (((sgs (sortN (fl.map fun q => q.1.headD 0))).filter (keepV fl)).map keyV).Nodup := by
  have h1 : (fl.map fun q => q.1.headD 0).Nodup := by
    rw [heads_keys h, List.nodup_iff_pairwise_ne] at nd
    rw [List.nodup_iff_pairwise_ne]
    exact (List.pairwise_map.mp nd).imp fun h e => h (by rw [e])
  have h2 : (sortN (fl.map fun q => q.1.headD 0)).Nodup := (sortN_perm _).nodup_iff.mpr h1
  have h3 : ((sgs (sortN (fl.map fun q => q.1.headD 0))).map keyV).Nodup := by
    unfold sgs
    rw [List.map_map]
    refine List.Pairwise.map _ (fun a b hab z => hab ?_) h2
    have := key_S.mp z
    injection this
  exact List.Sublist.nodup (List.filter_sublist.map _) h3
theorem dec_strne (a b : List Nat) : (!decide (V.str (S a) = V.str (S b))) = decide (a ≠ b) := by
  by_cases h : a = b
  · simp [h]
  · have h2 : V.str (S a) ≠ V.str (S b) := fun z => h (by injection z with z; exact S_inj z)
    simp [h, h2]
section
variable {P : Program} {w : World} {K : PySem.W.Frag} {mg : Str → Option Value} {base : Heap}
abbrev nKept : List Str := ["moves", "kept", "place", "letter", "target", "fillings", "ascending", "box"]
theorem scKept : FnScope nKept ["moves"] (defScope sKept) := ⟨rfl, rfl, rfl, by decide +kernel, rfl, by decide +kernel, by decide +kernel⟩
def spKept : Sp := fun vs H Q _ => ∃ (d : Addr) (kvs : List (List Key × V)) (ms : List Mv), vs = [.ref d] ∧ H d = some (.dT kvs) ∧ Paired (MvIn H) kvs ms ∧ ms.length ≤ 1000 ∧ (ms.map fun m => (m.pl, m.lt)).Nodup ∧ (∀ m ∈ ms, (m.fl.map (·.1)).Nodup ∧ Ones m.fl ∧ m.fl.length < 64) ∧
  ∀ p H' kk, Same H H' → H p = none → H' p = some (.dT kk) → Paired (MvNew H H') kk (ms.map keptM) → Q (.ref p) H'
theorem ok_kept {f : Addr} {fd : FuncData} {k : Nat} (F : Fun K "_kept_moves" "_kept_moves" sKept f fd) (ms' : mg "sorted" = none) : FnOk P w K mg base CX0 (k + 1) f fd ["moves"] spKept := by
  refine F.ok scKept (fun vs H Q E h => ?_) (fun cdv A outer s H vs Q E hr h => ?_)
  · obtain ⟨d, kvs, ms, rfl, _⟩ := h
    rfl
  · obtain ⟨d, kvs, ms, rfl, hd, hms, hl, hnd, hok, q⟩ := h
    have hu := hu_of hr
    refine ⟨_, pss_cons (ps_set (i := 1) scKept.nd rfl (.inl rfl) pe_newT)
      (pss_cons (ps_lock (ps_for PassesOwn.never rfl (pi_itemsT (pv 0)) (pg_tup rfl (pgs_cons (pg_tup rfl (pgs_cons (pg_name (i := 2) scKept.nd rfl (.inl rfl)) (pgs_cons (pg_name (i := 3) scKept.nd rfl (.inl rfl)) pgs_nil))) (pgs_cons (pg_or (pg_unl rfl (pgs_cons (pg_name (i := 4) scKept.nd rfl (.inl rfl)) (pgs_cons (pg_name (i := 5) scKept.nd rfl (.inr rfl)) pgs_nil))) (pg_tup rfl (pgs_cons (pg_name (i := 4) scKept.nd rfl (.inl rfl)) (pgs_cons (pg_name (i := 5) scKept.nd rfl (.inr rfl)) pgs_nil)))) pgs_nil)))
        (pss_cons (ps_setDc (i := 6) (own := [("box", 7)]) (g := gName 7) (tt := tTest (tOp rNe (tDGet (tVar 5) (tVar 7)) (tC (.str "")))) (tk := tVar 7) (tv := tDGet (tVar 5) (tVar 7)) rfl scKept.nd rfl rfl (sw_trueD rfl rfl rfl (by decide +kernel))
            (pi_list (pe_callB (call_sortedD rfl) (by rfl) ms' (by decide +kernel) (pa_cons (pv 5) pa_nil))) (blkOk_by (own := [("box", 7)]) (N := nKept) (sc := defScope sKept) (by decide +kernel)) (fun _ _ _ _ _ => pg_name (i := 7) scKept.nd rfl (.inl rfl)) (fun _ _ _ _ _ => pts_one (pt_cmpR op_ne (pe_dget hu (pv 5) (pv 7) (fun _ _ => rfl)) pe_str (nomark _))) (fun _ _ _ _ _ => pv 7) (fun _ _ _ _ _ => pe_dget hu (pv 5) (pv 7) (fun _ _ => rfl)))
        (pss_one (ps_dput hu (pv 1) (pe_tupS (pa_cons (pv 2) (pa_cons (pv 3) pa_nil))) (pe_tupS (pa_cons (pv 4) (pa_cons (pv 6) pa_nil))) rfl)))))
      (pss_one (ps_ret (pv 1)))), ?_⟩
    intro p H1 s1 n1 e1
    have hd1 := s1 _ _ hd
    have npd : p ≠ d := fun z => by rw [z] at n1; rw [n1] at hd; cases hd
    refine ⟨d, _, hd1, trivial, fun od => ⟨_, rfl, d, od, kvs, rfl, upd_same, ?_⟩⟩
    have hms1 : Paired (MvIn (upd H1 d (.frz od (.dT kvs)))) kvs ms := Paired.mono (fun kv m h => (h.same s1).lock hd1) hms
    have hlen : kvs.length = ms.length := Paired.length hms
    have sl : ∀ {x : Addr}, (upd H1 d (.frz od (.dT kvs))) x = none → H x = none := fun {x} h => by
      by_cases e : x = d
      · rw [e, upd_same] at h
        cases h
      · rw [upd_ne e] at h
        exact s1.free h
    refine for_it walk_itemsT (fun i σ H' => ∃ v2 v3 v4 v5 v6 kk, σ = [some (.ref d), some (.ref p), v2, v3, v4, v5, v6, none] ∧ But p (upd H1 d (.frz od (.dT kvs))) H' ∧ H' p = some (.dT kk) ∧ Paired (MvNew H H') kk ((ms.take i).map keptM))
      ⟨none, none, none, none, none, [], rfl, But.refl _ _, by rw [upd_ne npd]; exact e1, .nil⟩ (fun i σ H' _ ⟨_, _, _, _, _, _, _, b, _⟩ => b _ _ upd_same npd.symm) ?_ ?_
    · rintro i x σ H2 H3 hi ⟨v2, v3, v4, v5, v6, kk, rfl, b2, e2, hk2⟩ ⟨T, kx, v, kq, hkv, hq, rfl, nT, rfl⟩
      obtain ⟨m, hm, hin⟩ := paired_get2 hms1 hkv
      obtain ⟨ek, t, fd', ev, ht, hfd⟩ := hin
      have ek' : kx = m.key := ek
      have ev' : v = .ref t := ev
      subst ek' ev'
      obtain ⟨mnd, mon, m64⟩ := hok m (List.mem_of_getElem? hm)
      have nTp : T ≠ p := fun z => by rw [z, e2] at nT; cases nT
      have b3 : But p (upd H1 d (.frz od (.dT kvs))) (upd H2 T (.tup [.ref kq, .ref t])) := b2.trans (Same.but (same_upd nT) p)
      have hq3 : (upd H2 T (.tup [.ref kq, .ref t])) kq = some (.tup [.str (S m.pl), .str (S [m.lt])]) := same_upd nT _ _ hq
      have e3 : (upd H2 T (.tup [.ref kq, .ref t])) p = some (.dT kk) := by rw [upd_ne nTp.symm]; exact e2
      have hk3 : Paired (MvNew H (upd H2 T (.tup [.ref kq, .ref t]))) kk ((ms.take i).map keptM) := Paired.mono (fun _ _ h => h.but e2 (Same.but (same_upd nT) p)) hk2
      have ntp : t ≠ p := fun z => by
        have h1 := (ht : SeqH _ t _)
        rw [z] at h1
        have h2 : (upd H1 d (.frz od (.dT kvs))) p = some (.dT []) := by rw [upd_ne npd]; exact e1
        rcases h1 with h1 | h1 <;> (rw [h2] at h1; cases h1)
      have nfp : fd' ≠ p := fun z => by
        have h2 : (upd H1 d (.frz od (.dT kvs))) p = some (.dT []) := by rw [upd_ne npd]; exact e1
        rw [z, h2] at hfd
        cases hfd
      have ht3 : SeqH (upd H2 T (.tup [.ref kq, .ref t])) t [.str (S m.to), .ref fd'] := ht.imp (fun h => b3 _ _ h ntp) fun h => b3 _ _ h ntp
      refine ⟨T, [.ref kq, .ref t], rfl, SqT.of upd_same, rfl, _, _, rfl, ⟨kq, _, rfl, SqT.of hq3, rfl, _, _, rfl, _, _, rfl, rfl, _, _, rfl, ?_⟩⟩
      generalize upd H2 T (.tup [.ref kq, .ref t]) = H3 at b3 hq3 e3 hk3 ht3
      have hfd3 : H3 fd' = some (.dK (fkv m.fl)) := b3 _ _ hfd nfp
      have hget : ∀ b ∈ m.fl.map fun q => q.1.headD 0, ∃ f, getF m.fl [b] = some f ∧ valV (fkv m.fl) (Sum.inr (S [b])) = some (.str (S f)) := fun b hb => by
        obtain ⟨f, e⟩ := get_kept mon hb
        exact ⟨f, e, by rw [val_fkv, e]; rfl⟩
      have hks : (fkv m.fl).map (·.1) = ((m.fl.map fun q => q.1.headD 0).map fun b => S [b]).map Sum.inr := by
        have h1 : (fkv m.fl).map (·.1) = (m.fl.map (·.1)).map fun c => (Sum.inr (S c) : Key) := by
          unfold fkv
          rw [List.map_map, List.map_map]
          rfl
        rw [h1, heads_keys mon]
        simp only [List.map_map]
        rfl
      rcases ht3 with h | h
      all_goals
        first
          | refine .inl ⟨t, _, rfl, SqL.of h, rfl, _, _, rfl, _, _, rfl, rfl, rfl, ?_⟩
          | refine .inr ⟨t, _, rfl, SqT.of h, rfl, _, _, rfl, _, _, rfl, rfl, rfl, ?_⟩
        refine ⟨_, rfl, fd', fkv m.fl, (m.fl.map fun q => q.1.headD 0).map fun b => S [b], rfl, .inl hfd3, hks, by rw [List.length_map, List.length_map]; exact m64, fun ys a hp hs na => ?_⟩
        have ey := sorted_signs hp hs
        subst ey
        have ea : ((sortN (m.fl.map fun q => q.1.headD 0)).map fun c => S [c]).map V.str = sgs (sortN (m.fl.map fun q => q.1.headD 0)) := by
          unfold sgs
          rw [List.map_map]
          rfl
        rw [ea]
        have s34 := same_upd (o := .lst (sgs (sortN (m.fl.map fun q => q.1.headD 0)))) na
        have lsg : (sgs (sortN (m.fl.map fun q => q.1.headD 0))).length < 64 := by
          unfold sgs
          rw [List.length_map, (sortN_perm _).length_eq, List.length_map]
          exact m64
        have hea : (upd H3 a (.lst (sgs (sortN (m.fl.map fun q => q.1.headD 0))))) a = some (.lst (sgs (sortN (m.fl.map fun q => q.1.headD 0)))) := upd_same
        generalize upd H3 a (.lst (sgs (sortN (m.fl.map fun q => q.1.headD 0)))) = H4 at s34 hea
        refine ⟨a, rfl, ⟨_, SqL.of hea⟩, fun D nD => ?_⟩
        refine dc_mapW (xs := sgs (sortN (m.fl.map fun q => q.1.headD 0))) (keepV m.fl) keyV (fillV m.fl) walk_list rfl (fun i H x H' y => ⟨y.1, y.2⟩) (fun H' s' => SqL.of (s' _ _ hea)) nD (Nat.lt_of_lt_of_le lsg (by decide)) (kept_nd mnd mon) ?_ ?_ ?_ ?_
        · intro x hx H5 R s5 r
          obtain ⟨b, hb, rfl⟩ := List.mem_map.mp hx
          obtain ⟨f, g1, g2⟩ := hget b ((sortN_perm _).mem_iff.mp hb)
          refine ⟨_, rfl, _, rfl, fd', _, rfl, g2 ▸ DGet.k (k := Sum.inr (S [b])) (s5 _ _ (s34 _ _ hfd3)), rfl, _, rfl, ?_⟩
          rw [str_empty, dec_strne]
          have e5 : keepV m.fl (.str (S [b])) = decide (f ≠ []) := by
            show decide ((getF m.fl [b]).getD [] ≠ []) = _
            rw [g1]
            rfl
          rw [e5] at r
          exact r
        · intro x hx _ H5 R s5 r
          obtain ⟨b, hb, rfl⟩ := List.mem_map.mp hx
          exact ⟨_, rfl, r⟩
        · intro x hx _ H5 R s5 r
          obtain ⟨b, hb, rfl⟩ := List.mem_map.mp hx
          obtain ⟨f, g1, g2⟩ := hget b ((sortN_perm _).mem_iff.mp hb)
          refine ⟨_, rfl, _, rfl, fd', _, rfl, g2 ▸ DGet.k (k := Sum.inr (S [b])) (s5 _ _ (s34 _ _ hfd3)), ?_⟩
          have r' := r H5 (fun _ _ e => e)
          have e5 : fillV m.fl (.str (S [b])) = .str (S f) := by
            show V.str (S ((getF m.fl [b]).getD [])) = _
            rw [g1]
            rfl
          rw [e5] at r'
          exact r'
        intro H5 s5 e5
        rw [kept_eq] at e5
        -- kept[(place, letter)] = (target, ascending)
        refine ⟨_, rfl, _, rfl, by show 2 ≤ sizeLine; decide, fun W H6 s6 n6 e6 => ⟨_, rfl, _, rfl, _, rfl, by show 2 ≤ sizeLine; decide, fun kT H7 s7 n7 e7 => ?_⟩⟩
        have s37 : Same H3 H7 := ((s34.trans s5).trans s6).trans s7
        have eD7 : H7 D = some (.dK (fkv (keptF m.fl))) := s7 _ _ (s6 _ _ e5)
        have nHD : H D = none := sl (b3.free e3 (s34.free nD))
        have hkeys : kk.map (·.1) = ((ms.take i).map keptM).map Mv.key := by
          have hK : ∀ {kvs : List (List Key × V)} {l : List Mv}, Paired (MvNew H H3) kvs l → kvs.map (·.1) = l.map Mv.key := by
            intro kvs l hp
            induction hp with
            | nil => rfl
            | cons h _ ih => rw [List.map_cons, List.map_cons, h.1, ih]
          exact hK hk3
        have et : ms.take (i + 1) = ms.take i ++ [m] := by
          rw [List.take_add_one, hm]
          rfl
        have hkn : m.key ∉ kk.map (·.1) := fun z => by
          rw [hkeys, List.map_map] at z
          obtain ⟨m', hm', e'⟩ := List.mem_map.mp z
          obtain ⟨k1, k2⟩ := key_inj (m := m') (show m'.key = _ from e')
          have h1 : ((ms.take (i + 1)).map fun m => (m.pl, m.lt)).Nodup := ((List.take_sublist _ _).map _).nodup hnd
          rw [et, List.map_append, List.nodup_append] at h1
          exact h1.2.2 _ (List.mem_map.mpr ⟨m', hm', rfl⟩) _ (List.mem_singleton.mpr rfl) (by rw [k1, k2])
        have lkk : kk.length < sizeLine := by
          have h3 := Paired.length hk3
          rw [h3, List.length_map, List.length_take]
          exact small1000 (Nat.le_trans (Nat.min_le_right _ _) hl)
        have e37 : H7 p = some (.dT kk) := s37 _ _ e3
        refine ⟨p, _, rfl, DPut.t (k := m.key) e37 e7 lkk, ?_⟩
        refine ⟨_, _, _, _, _, _, rfl, (b3.trans (Same.but s37 p)).trans (But.upd p H7 _), upd_same, ?_⟩
        rw [putK_end _ hkn, et, List.map_append]
        have nWp : W ≠ p := fun z => by rw [z, s5 _ _ (s34 _ _ e3)] at n6; cases n6
        have nDp : D ≠ p := fun z => by rw [z, e37] at eD7; cases eD7
        refine (Paired.mono (fun _ _ h => h.but e3 ((Same.but s37 p).trans (But.upd p H7 _))) hk3).snoc ⟨rfl, W, D, rfl, ?_, ?_, nHD⟩
        · rw [upd_ne nWp]
          exact s7 _ _ e6
        · rw [upd_ne nDp]
          exact eD7
    · rintro σ H2 ⟨v2, v3, v4, v5, v6, kk, rfl, b2, e2, hk2⟩
      rw [hlen, List.take_length] at hk2
      refine ⟨b2 _ _ upd_same npd.symm, _, rfl, ?_⟩
      have s2 : Same H (upd H2 d (.dT kvs)) := by
        intro b o eb
        by_cases hb : b = d
        · rw [hb, hd] at eb
          cases eb
          rw [hb, upd_same]
        · rw [upd_ne hb]
          refine b2 b o ?_ (fun z => by rw [z, n1] at eb; cases eb)
          rw [upd_ne hb]
          exact s1 _ _ eb
      refine q p _ kk s2 n1 (by rw [upd_ne npd]; exact e2) (Paired.mono (fun _ _ h => ?_) hk2)
      obtain ⟨e, t, d2, a, b, c, n⟩ := h
      have f2 : H2 d = some (.frz od (.dT kvs)) := b2 _ _ upd_same npd.symm
      exact ⟨e, t, d2, a, by rw [upd_ne (ne_of b f2 (by intro z; cases z))]; exact b, by rw [upd_ne (ne_of c f2 (by intro z; cases z))]; exact c, n⟩
end
end Tb

set_option Elab.async false
set_option linter.all false
set_option maxRecDepth 100000
set_option maxHeartbeats 4000000
namespace Tb
open PySem PySem.Spec PyProof.Rows L2 TL
/-- a statement that is never reached -/
def tDead : TS := fun _ _ _ => False
theorem isCap_low' {c : Nat} (h : 65 ≤ c ∧ c ≤ 90) : isLow c = false := decide_eq_false (by omega)
theorem ps_dead {X : Cx} {st : Stmt} : PS X st tDead := ⟨fun _ _ _ _ _ _ h => h.elim⟩
theorem putF_end {f : Str} {v : V} : ∀ {fs : List (Str × V)}, f ∉ fs.map (·.1) → putF f v fs = fs ++ [(f, v)]
  | [], _ => rfl
  | (g, x) :: r, h => by
    have hg : g ≠ f := fun z => h (by rw [← z]; exact List.mem_cons_self)
    show (if g = f then (g, v) :: r else (g, x) :: putF f v r) = _
    rw [if_neg hg, putF_end (fun z => h (List.mem_cons_of_mem _ z))]
    rfl
/-- tuple(xs), a list or a tuple -/
def rTupS : List V → Hp → VK → Prop := fun xs H Q => ∃ p ys, xs = [V.ref p] ∧ SeqH H p ys ∧ ∀ l H', Same H H' → H' l = some (.tup ys) → Q (.ref l) H'
theorem call_tupS {X : Cx} : CallR X (.type "tuple") rTupS := CallR.weak call_tuple_of fun xs H Q ⟨p, ys, e, h, q⟩ => ⟨p, ys, e, h.elim (fun h => .inl ⟨SqL.of h, fun l hl => q l _ (same_upd hl) upd_same⟩) fun h => .inr ⟨SqT.of h, q p H (fun _ _ e => e) h⟩⟩
theorem dget_kz {H : Hp} {a : Addr} {o : Obj} {kvs : List (Key × V)} {k : Key} (e : H a = some (.frz o (.dK kvs))) : DGet H a (kV k) (valV kvs k) := .inl ⟨kvs, k, .inr ⟨o, e⟩, rfl, rfl⟩
/-! ### a program's fields -/
def flds (L B : List Nat) (pl mv en : Addr) : List (Str × V) := [("_letters", .str (S L)), ("_boxes", .str (S B)), ("_places", .ref pl), ("_moves", .ref mv), ("_ends", .ref en)]
structure PrAt (C : Addr) (H : Hp) (p : Addr) (L B : List Nat) (places : List (List Nat)) (ms : List Mv) (es : Fil) : Prop where
  ob : ∃ dx pl mv en kk, H p = some (.ins C dx (flds L B pl mv en)) ∧ H pl = some (.tup (txs places)) ∧ H mv = some (.dT kk) ∧ Paired (MvAt H) kk ms ∧ H en = some (.dK (fkv es))
theorem PrAt.same {C : Addr} {H H' : Hp} (s : Same H H') {p : Addr} {L B : List Nat} {places : List (List Nat)} {ms : List Mv} {es : Fil} (h : PrAt C H p L B places ms es) : PrAt C H' p L B places ms es := by
  obtain ⟨dx, pl, mv, en, kk, h1, h2, h3, h4, h5⟩ := h.ob
  exact ⟨dx, pl, mv, en, kk, s _ _ h1, s _ _ h2, s _ _ h3, Paired.mono (fun _ _ z => z.same s) h4, s _ _ h5⟩
/-- .. whose dicts were not there before -/
structure PrNew (C : Addr) (H0 H : Hp) (p : Addr) (L B : List Nat) (places : List (List Nat)) (ms : List Mv) (es : Fil) : Prop where
  ob : ∃ dx pl mv en kk, H p = some (.ins C dx (flds L B pl mv en)) ∧ H pl = some (.tup (txs places)) ∧ H mv = some (.dT kk) ∧ H0 mv = none ∧ Paired (MvNew H0 H) kk ms ∧ H en = some (.dK (fkv es)) ∧ H0 en = none
theorem PrNew.at {C : Addr} {H0 H : Hp} {p : Addr} {L B : List Nat} {places : List (List Nat)} {ms : List Mv} {es : Fil} (h : PrNew C H0 H p L B places ms es) : PrAt C H p L B places ms es := by
  obtain ⟨dx, pl, mv, en, kk, h1, h2, h3, _, h4, h5, _⟩ := h.ob
  exact ⟨dx, pl, mv, en, kk, h1, h2, h3, Paired.mono (fun _ _ z => z.at) h4, h5⟩
/-- the class as the top has made it -/
structure PrTxt (K : PySem.W.Frag) (mg : Str → Option Value) (C : Addr) : Prop where
  cl : Cls K C
  nL : NoAttr K C "_letters"
  nB : NoAttr K C "_boxes"
  nP : NoAttr K C "_places"
  nM : NoAttr K C "_moves"
  nE : NoAttr K C "_ends"
  mgC : mg "Program" = some (.ref C)
/-- what is handed in for a program -/
structure InAt (H : Hp) (tp tm te : Addr) (pt : Pt) : Prop where
  pl : SeqH H tp (txs pt.places)
  mv : ∃ kvs, H tm = some (.dT kvs) ∧ Paired (MvIn H) kvs pt.moves
  en : H te = some (.dK (fkv pt.ends))
theorem InAt.same {H H' : Hp} (s : Same H H') {tp tm te : Addr} {pt : Pt} (h : InAt H tp tm te pt) : InAt H' tp tm te pt := by
  obtain ⟨kvs, a, b⟩ := h.mv
  exact ⟨h.pl.same s, ⟨kvs, s _ _ a, Paired.mono (fun _ _ z => z.same s) b⟩, s _ _ h.en⟩
theorem InAt.but {H H' : Hp} {p C dx : Addr} {fs : List (Str × V)} (hp : H p = some (.ins C dx fs)) (s : But p H H') {tp tm te : Addr} {pt : Pt} (h : InAt H tp tm te pt) : InAt H' tp tm te pt := by
  obtain ⟨kvs, a, b⟩ := h.mv
  refine ⟨h.pl.imp (fun z => s _ _ z (ne_of z hp (by intro z; cases z))) fun z => s _ _ z (ne_of z hp (by intro z; cases z)), ⟨kvs, s _ _ a (ne_of a hp (by intro z; cases z)), Paired.mono (fun kv m z => ?_) b⟩, s _ _ h.en (ne_of h.en hp (by intro z; cases z))⟩
  obtain ⟨e, t, d, h1, h2, h3⟩ := z
  exact ⟨e, t, d, h1, h2.imp (fun z => s _ _ z (ne_of z hp (by intro z; cases z))) fun z => s _ _ z (ne_of z hp (by intro z; cases z)), s _ _ h3 (ne_of h3 hp (by intro z; cases z))⟩
theorem PartsQ.few {pt : Pt} (h : PartsQ pt) : pt.letters.length ≤ 5 ∧ 1 ≤ pt.letters.length ∧ pt.boxes.length ≤ 6 ∧ pt.places.length ≤ 50 ∧ 1 ≤ pt.places.length ∧ (∀ x ∈ pt.places, x.length ≤ 8) ∧ pt.moves.length ≤ 250 ∧ pt.ends.length ≤ 50 := by
  have h1 := h.le
  have h2 := h.bo
  have h3 := h.pl
  unfold okLetters at h1
  unfold okBoxes at h2
  unfold okPlaces at h3
  simp only [Bool.and_eq_true, decide_eq_true_eq, List.all_eq_true] at h1 h2 h3
  obtain ⟨_, l1, l2, _⟩ := h1
  obtain ⟨b1, _⟩ := h2
  obtain ⟨⟨p1, p2⟩, p3, _⟩ := h3
  refine ⟨l2, l1, b1, p2, p1, fun x hx => (isName_iff.mp (p3 x hx)).2.1, ?_, ?_⟩
  · have sub : (pt.moves.map fun m => (m.pl, m.lt)) ⊆ pt.places.flatMap fun a => pt.letters.map fun b => (a, b) := by
      intro x hx
      obtain ⟨m', hm', rfl⟩ := List.mem_map.mp hx
      obtain ⟨a1, a2, _⟩ := h.mv m' hm'
      exact List.mem_flatMap.mpr ⟨m'.pl, a1, List.mem_map.mpr ⟨m'.lt, a2, rfl⟩⟩
    have hle := List.Nodup.length_le_of_subset h.ky sub
    rw [List.length_map] at hle
    have hfl : ∀ l : List (List Nat), (l.flatMap fun a => pt.letters.map fun b => (a, b)).length = l.length * pt.letters.length := by
      intro l
      induction l with
      | nil => simp
      | cons a r ih =>
        rw [List.flatMap_cons, List.length_append, List.length_map, ih, List.length_cons, Nat.succ_mul]
        omega
    rw [hfl] at hle
    have : pt.places.length * pt.letters.length ≤ 50 * 5 := Nat.mul_le_mul p2 l2
    omega
  · have sub : (pt.ends.map (·.1)) ⊆ pt.places := fun x hx => by
      obtain ⟨q', hq', rfl⟩ := List.mem_map.mp hx
      exact (h.en q' hq').1
    have hle := List.Nodup.length_le_of_subset h.ek sub
    rw [List.length_map] at hle
    omega
def endV (es : Fil) : V → V := fun v => match v with | .str x => .str (S ((getF es (tl x)).getD [])) | _ => .non
theorem getF_mem {q : List Nat × List Nat} : ∀ {es : Fil}, (es.map (·.1)).Nodup → q ∈ es → getF es q.1 = some q.2
  | [], _, hq => nomatch hq
  | r :: t, nd, hq => by
    rw [getF_cons]
    rw [List.map_cons] at nd
    have nd' := List.nodup_cons.mp nd
    rcases List.mem_cons.mp hq with e | e
    · rw [e, if_pos rfl]
    · rw [if_neg (fun z => nd'.1 (by rw [z]; exact List.mem_map.mpr ⟨q, e, rfl⟩))]
      exact getF_mem nd'.2 e
theorem ends_eq {es : Fil} (nd : (es.map (·.1)).Nodup) : ((txs (es.map (·.1))).filter fun _ => true).map (fun x => (keyV x, endV es x)) = fkv es := by
  rw [List.filter_eq_self.mpr (fun _ _ => rfl)]
  unfold txs fkv
  simp only [List.map_map]
  refine List.map_congr_left fun q hq => ?_
  show (Sum.inr (S q.1), V.str (S ((getF es q.1).getD []))) = _
  rw [getF_mem nd hq]
  rfl
section
variable {P : Program} {w : World} {K : PySem.W.Frag} {mg : Str → Option Value} {base : Heap}
abbrev nInit : List Str := ["self", "letters", "boxes", "places", "moves", "ends", "place"]
theorem scInit : FnScope nInit ["self", "letters", "boxes", "places", "moves", "ends"] (defScope sInit) := ⟨rfl, rfl, rfl, by decide +kernel, rfl, by decide +kernel, by decide +kernel⟩
def spInit (C : Addr) : Sp := fun vs H Q _ => ∃ (p dx tp tm te : Addr) (pt : Pt), vs = [.ref p, .str (S pt.letters), .str (S pt.boxes), .ref tp, .ref tm, .ref te] ∧ H p = some (.ins C dx []) ∧ InAt H tp tm te pt ∧ PartsQ pt ∧
  ∀ H', But p H H' → PrNew C H H' p (sortN pt.letters) (sortN pt.boxes) pt.places (pt.moves.map keptM) pt.ends → Q .non H'
theorem ok_init {f C : Addr} {fd : FuncData} {k : Nat} (F : Fun K "__init__" "Program.__init__" sInit f fd) (T : PrTxt K mg C) (DL : Df P w K mg base (k + 2) "are_letters" ["thing", "most"] (spAreLetters K)) (mN : ∃ t, mg "MOST_LETTERS" = some (.int 5 t)) (DB : Df P w K mg base (k + 2) "_are_boxes" ["thing"] (spAreBoxes K)) (DPl : Df P w K mg base (k + 4) "_are_places" ["thing"] spArePlaces)
    (DM : Df P w K mg base (k + 4) "_are_moves" ["thing", "letters", "boxes", "places"] spAreMoves) (DE : Df P w K mg base (k + 3) "_are_ends" ["thing", "boxes", "places"] spAreEnds) (DI : Df P w K mg base (k + 1) "in_order" ["signs"] spInOrder) (DK : Df P w K mg base (k + 1) "_kept_moves" ["moves"] spKept) (mt : mg "tuple" = none) :
    FnOk P w K mg base CX0 (k + 5) f fd ["self", "letters", "boxes", "places", "moves", "ends"] (spInit C) := by
  refine F.ok scInit (fun vs H Q E h => ?_) (fun cdv A outer s H vs Q E hr h => ?_)
  · obtain ⟨p, dx, tp, tm, te, pt, rfl, _⟩ := h
    rfl
  · obtain ⟨p, dx, tp, tm, te, pt, rfl, hp, hin, hq, q⟩ := h
    have hu := hu_of hr
    obtain ⟨tN, mN⟩ := mN
    have hlow : ∀ b ∈ pt.boxes, isLow b = false := fun b hb => by
      have h1 := hq.bo
      unfold okBoxes at h1
      rw [Bool.and_eq_true, Bool.and_eq_true] at h1
      exact isCap_low' (of_decide_eq_true (List.all_eq_true.mp h1.2.1 b hb))
    obtain ⟨l5, l1, b6, p50, p1, p8, m250, e50⟩ := hq.few
    refine ⟨_, pss_cons (ps_if (pt_not (pt_val (pe_df DL hr (pa_cons (pv 1) (pa_cons (pe_glob (v := .int 5) (by rfl) mN ⟨_, rfl⟩) pa_nil))))) (pss_one ps_dead) pss_nil)
      (pss_cons (ps_if (pt_not (pt_val (pe_df DB hr (pa_cons (pv 2) pa_nil)))) (pss_one ps_dead) pss_nil)
      (pss_cons (ps_if (pt_not (pt_val (pe_df DPl hr (pa_cons (pv 3) pa_nil)))) (pss_one ps_dead) pss_nil)
      (pss_cons (ps_if (pt_not (pt_val (pe_df DM hr (pa_cons (pv 4) (pa_cons (pv 1) (pa_cons (pv 2) (pa_cons (pv 3) pa_nil))))))) (pss_one ps_dead) pss_nil)
      (pss_cons (ps_if (pt_not (pt_val (pe_df DE hr (pa_cons (pv 5) (pa_cons (pv 2) (pa_cons (pv 3) pa_nil)))))) (pss_one ps_dead) pss_nil)
      (pss_cons (ps_fld (pv 0) (pe_df DI hr (pa_cons (pv 1) pa_nil)) rfl)
      (pss_cons (ps_fld (pv 0) (pe_df DI hr (pa_cons (pv 2) pa_nil)) rfl)
      (pss_cons (ps_fld (pv 0) (pe_callTy call_tupS (by rfl) mt (by decide +kernel) (pa_cons (pv 3) pa_nil)) rfl)
      (pss_cons (ps_fld (pv 0) (pe_df DK hr (pa_cons (pv 4) pa_nil)) rfl)
      (pss_one (ps_fld (pv 0) (pe_lock (pe_dc (own := [("place", 6)]) (g := gName 6) (tt := tYes) (tk := tVar 6) (tv := tDGet (tVar 5) (tVar 6)) rfl scInit.nd (pi_keys (pv 5)) (blkOk_by (own := [("place", 6)]) (N := nInit) (sc := defScope sInit) (by decide +kernel)) (fun _ _ _ _ _ => pg_name (i := 6) scInit.nd rfl (.inl rfl)) (fun _ _ _ _ _ => pts_nil) (fun _ _ _ _ _ => pv 6) (fun _ _ _ _ _ => pe_dget hu (pv 5) (pv 6) (fun _ _ => rfl)))) rfl)))))))))), ?_⟩
    have sm : ∀ {n : Nat}, n ≤ 250 → n ≤ 1000 := fun h => by omega
    refine ⟨_, rfl, .inl ⟨pt.letters, rfl, by omega, fun H1 s1 => ⟨_, rfl, ?_⟩⟩⟩
    rw [hq.le]
    refine iteF ⟨_, rfl, .inl ⟨pt.boxes, rfl, by omega, fun H2 s2 => ⟨_, rfl, ?_⟩⟩⟩
    rw [hq.bo]
    have in2 := (hin.same s1).same s2
    refine iteF ⟨_, rfl, tp, pt.places, rfl, in2.pl, fun x hx => Nat.le_trans (p8 x hx) (by decide), by omega, hq.pl, fun H3 s3 => ⟨_, rfl, ?_⟩⟩
    have in3 := in2.same s3
    obtain ⟨kvs, hm3, hk3⟩ := in3.mv
    refine iteF ⟨_, rfl, _, rfl, _, rfl, _, rfl, tm, tp, kvs, pt.moves, pt.letters, pt.boxes, pt.places, rfl, hm3, hk3, in3.pl, by omega, by omega, hlow, hq.mv, fun H4 s4 => ⟨_, rfl, iteF ?_⟩⟩
    have in4 := in3.same s4
    refine ⟨_, rfl, _, rfl, _, rfl, te, tp, pt.ends, pt.boxes, pt.places, rfl, in4.en, in4.pl, hlow, hq.en, fun H5 s5 => ⟨_, rfl, iteF ?_⟩⟩
    have s05 := (((s1.trans s2).trans s3).trans s4).trans s5
    -- the fields
    refine ⟨_, rfl, pt.letters, rfl, by omega, fun H6 s6 => ⟨_, rfl, p, C, dx, [], rfl, s6 _ _ (s05 _ _ hp), T.cl, T.nL, by show 0 < 1000; decide, ?_⟩⟩
    have hp6 : H6 p = some (.ins C dx []) := s6 _ _ (s05 _ _ hp)
    have b7 : But p H (upd H6 p (.ins C dx (putF "_letters" (.str (S (sortN pt.letters))) []))) := (Same.but (s05.trans s6) p).trans (But.upd p H6 _)
    have hp7 : (upd H6 p (.ins C dx (putF "_letters" (.str (S (sortN pt.letters))) []))) p = some (.ins C dx [("_letters", .str (S (sortN pt.letters)))]) := upd_same
    generalize upd H6 p (.ins C dx (putF "_letters" (.str (S (sortN pt.letters))) [])) = H7 at b7 hp7
    refine ⟨_, rfl, pt.boxes, rfl, by omega, fun H8 s8 => ⟨_, rfl, p, C, dx, _, rfl, s8 _ _ hp7, T.cl, T.nB, by show 1 < 1000; decide, ?_⟩⟩
    have b9 : But p H (upd H8 p (.ins C dx (putF "_boxes" (.str (S (sortN pt.boxes))) [("_letters", .str (S (sortN pt.letters)))]))) := (b7.trans (Same.but s8 p)).trans (But.upd p H8 _)
    have hp9 : (upd H8 p (.ins C dx (putF "_boxes" (.str (S (sortN pt.boxes))) [("_letters", .str (S (sortN pt.letters)))]))) p = some (.ins C dx [("_letters", .str (S (sortN pt.letters))), ("_boxes", .str (S (sortN pt.boxes)))]) := by
      rw [upd_same, putF_end (show ("_boxes" : Str) ∉ (["_letters"] : List Str) by decide +kernel)]
      rfl
    generalize upd H8 p (.ins C dx (putF "_boxes" (.str (S (sortN pt.boxes))) [("_letters", .str (S (sortN pt.letters)))])) = H9 at b9 hp9
    have in9 : InAt H9 tp tm te pt := hin.but hp b9
    -- the places
    refine ⟨_, rfl, tp, txs pt.places, rfl, in9.pl, fun pl H10 s10 e10 => ?_⟩
    refine ⟨_, rfl, p, C, dx, _, rfl, s10 _ _ hp9, T.cl, T.nP, by show 2 < 1000; decide, ?_⟩
    have hp10 := s10 _ _ hp9
    have npp : pl ≠ p := ne_of e10 hp10 (by intro z; cases z)
    have b11 : But p H (upd H10 p (.ins C dx (putF "_places" (.ref pl) [("_letters", .str (S (sortN pt.letters))), ("_boxes", .str (S (sortN pt.boxes)))]))) := (b9.trans (Same.but s10 p)).trans (But.upd p H10 _)
    have hp11 : (upd H10 p (.ins C dx (putF "_places" (.ref pl) [("_letters", .str (S (sortN pt.letters))), ("_boxes", .str (S (sortN pt.boxes)))]))) p = some (.ins C dx [("_letters", .str (S (sortN pt.letters))), ("_boxes", .str (S (sortN pt.boxes))), ("_places", .ref pl)]) := by
      rw [upd_same, putF_end (show ("_places" : Str) ∉ (["_letters", "_boxes"] : List Str) by decide +kernel)]
      rfl
    have e11 : (upd H10 p (.ins C dx (putF "_places" (.ref pl) [("_letters", .str (S (sortN pt.letters))), ("_boxes", .str (S (sortN pt.boxes)))]))) pl = some (.tup (txs pt.places)) := by rw [upd_ne npp]; exact e10
    generalize upd H10 p (.ins C dx (putF "_places" (.ref pl) [("_letters", .str (S (sortN pt.letters))), ("_boxes", .str (S (sortN pt.boxes)))])) = H11 at b11 hp11 e11
    have in11 : InAt H11 tp tm te pt := hin.but hp b11
    obtain ⟨kvs2, hm11, hk11⟩ := in11.mv
    have mok : ∀ m ∈ pt.moves, (m.fl.map (·.1)).Nodup ∧ Ones m.fl ∧ m.fl.length < 64 := fun m hm => by
      obtain ⟨_, _, _, hF⟩ := hq.mv m hm
      refine ⟨hF.nd, hF.ones, ?_⟩
      have hk : okKeys m.fl pt.boxes = true := by
        have := hF.ok
        unfold okFils at this
        exact (Bool.and_eq_true _ _ ▸ this).1
      have sub : (m.fl.map (·.1)) ⊆ pt.boxes.map fun b => [b] := fun x hx => of_decide_eq_true (List.all_eq_true.mp hk x hx)
      have h1 := List.Nodup.length_le_of_subset hF.nd sub
      rw [List.length_map, List.length_map] at h1
      omega
    refine ⟨_, rfl, tm, kvs2, pt.moves, rfl, hm11, hk11, by omega, hq.ky, mok, fun mv H12 kk s12 n12 e12 k12 => ?_⟩
    have hp12 := s12 _ _ hp11
    have nmp : mv ≠ p := ne_of e12 hp12 (by intro z; cases z)
    have nHm : H mv = none := by
      cases z : H mv with
      | none => rfl
      | some o =>
        have := b11 _ _ z nmp
        rw [n12] at this
        cases this
    refine ⟨_, rfl, p, C, dx, _, rfl, hp12, T.cl, T.nM, by show 3 < 1000; decide, ?_⟩
    have b13 : But p H (upd H12 p (.ins C dx (putF "_moves" (.ref mv) [("_letters", .str (S (sortN pt.letters))), ("_boxes", .str (S (sortN pt.boxes))), ("_places", .ref pl)]))) := (b11.trans (Same.but s12 p)).trans (But.upd p H12 _)
    have hp13 : (upd H12 p (.ins C dx (putF "_moves" (.ref mv) [("_letters", .str (S (sortN pt.letters))), ("_boxes", .str (S (sortN pt.boxes))), ("_places", .ref pl)]))) p = some (.ins C dx [("_letters", .str (S (sortN pt.letters))), ("_boxes", .str (S (sortN pt.boxes))), ("_places", .ref pl), ("_moves", .ref mv)]) := by
      rw [upd_same, putF_end (show ("_moves" : Str) ∉ (["_letters", "_boxes", "_places"] : List Str) by decide +kernel)]
      rfl
    have e13 : (upd H12 p (.ins C dx (putF "_moves" (.ref mv) [("_letters", .str (S (sortN pt.letters))), ("_boxes", .str (S (sortN pt.boxes))), ("_places", .ref pl)]))) pl = some (.tup (txs pt.places)) := by rw [upd_ne npp]; exact s12 _ _ e11
    have m13 : (upd H12 p (.ins C dx (putF "_moves" (.ref mv) [("_letters", .str (S (sortN pt.letters))), ("_boxes", .str (S (sortN pt.boxes))), ("_places", .ref pl)]))) mv = some (.dT kk) := by rw [upd_ne nmp]; exact e12
    have fresh11 : ∀ {a : Addr}, H11 a = none → a ≠ p → H a = none := fun {a} h n => by
      cases z : H a with
      | none => rfl
      | some o =>
        have := b11 _ _ z n
        rw [h] at this
        cases this
    have k13 : Paired (MvNew H (upd H12 p (.ins C dx (putF "_moves" (.ref mv) [("_letters", .str (S (sortN pt.letters))), ("_boxes", .str (S (sortN pt.boxes))), ("_places", .ref pl)])))) kk (pt.moves.map keptM) := by
      refine Paired.mono (fun kv m h => ?_) k12
      obtain ⟨e, t, d2, a, b, c, n⟩ := h
      have ntp : t ≠ p := ne_of b hp12 (by intro z; cases z)
      have ndp : d2 ≠ p := ne_of c hp12 (by intro z; cases z)
      exact ⟨e, t, d2, a, by rw [upd_ne ntp]; exact b, by rw [upd_ne ndp]; exact c, fresh11 n ndp⟩
    generalize upd H12 p (.ins C dx (putF "_moves" (.ref mv) [("_letters", .str (S (sortN pt.letters))), ("_boxes", .str (S (sortN pt.boxes))), ("_places", .ref pl)])) = H13 at b13 hp13 e13 m13 k13
    have in13 : InAt H13 tp tm te pt := hin.but hp b13
    -- the ends
    refine ⟨te, _, in13.en, trivial, fun od => ⟨_, rfl, te, od, rfl, .inl ⟨fkv pt.ends, upd_same, fun D nD => ?_⟩⟩⟩
    have nDte : D ≠ te := fun z => by rw [z, upd_same] at nD; cases nD
    have lE : (txs (pt.ends.map (·.1))).length = pt.ends.length := by unfold txs; rw [List.length_map, List.length_map]
    have lF : (fkv pt.ends).length = pt.ends.length := List.length_map _
    refine dc_mapW (xs := txs (pt.ends.map (·.1))) (fun _ => true) keyV (endV pt.ends) walk_keys (by rw [lE, lF]) (fun i H x H' y => ?_) (fun H' s' => s' _ _ upd_same) nD (by rw [lE]; exact small1000 (by omega)) ?_ ?_ ?_ ?_ ?_
    · obtain ⟨e, k', v', hk, ex⟩ := y
      refine ⟨e, ?_⟩
      rw [← keys_fkv, List.getElem?_map, hk, ex]
      rfl
    · rw [List.filter_eq_self.mpr (fun _ _ => rfl)]
      unfold txs
      rw [List.map_map]
      exact List.Pairwise.map _ (fun a b hab z => hab (key_S.mp z)) hq.ek
    · intro x hx H' R s' r
      exact r
    · intro x hx _ H' R s' r
      obtain ⟨c, hc, rfl⟩ := List.mem_map.mp hx
      exact ⟨_, rfl, r⟩
    · intro x hx _ H' R s' r
      obtain ⟨c, hc, rfl⟩ := List.mem_map.mp hx
      obtain ⟨qq, hqq, rfl⟩ := List.mem_map.mp hc
      have hg := getF_mem hq.ek hqq
      have hv : valV (fkv pt.ends) (Sum.inr (S qq.1)) = some (.str (S qq.2)) := by rw [val_fkv, hg]; rfl
      refine ⟨_, rfl, _, rfl, te, _, rfl, hv ▸ dget_kz (k := Sum.inr (S qq.1)) (s' _ _ upd_same), ?_⟩
      have r' := r H' (fun _ _ e => e)
      have e5 : endV pt.ends (.str (S qq.1)) = .str (S qq.2) := by
        show V.str (S ((getF pt.ends qq.1).getD [])) = _
        rw [hg]
        rfl
      rw [e5] at r'
      exact r'
    intro H14 s14 e14
    rw [ends_eq hq.ek] at e14
    have ste : H14 te = some (.frz od (.dK (fkv pt.ends))) := s14 _ _ upd_same
    have s15 : Same H13 (upd H14 te (.dK (fkv pt.ends))) := same_unlock in13.en s14
    have hp15 := s15 _ _ hp13
    have e15 : (upd H14 te (.dK (fkv pt.ends))) D = some (.dK (fkv pt.ends)) := by rw [upd_ne nDte]; exact e14
    refine ⟨ste, _, rfl, p, C, dx, _, rfl, hp15, T.cl, T.nE, by show 4 < 1000; decide, ?_⟩
    have nDp : D ≠ p := ne_of e15 hp15 (by intro z; cases z)
    have nHD : H D = none := by
      have h1 : H13 D = none := by rw [upd_ne nDte] at nD; exact nD
      cases z : H D with
      | none => rfl
      | some o =>
        have := b13 _ _ z nDp
        rw [h1] at this
        cases this
    refine q _ ((b13.trans (Same.but s15 p)).trans (But.upd p _ _)) ⟨dx, pl, mv, D, kk, ?_, by rw [upd_ne npp]; exact s15 _ _ e13, by rw [upd_ne nmp]; exact s15 _ _ m13, nHm, Paired.mono (fun kv m h => ?_) k13, by rw [upd_ne nDp]; exact e15, nHD⟩
    · rw [upd_same, putF_end (show ("_ends" : Str) ∉ (["_letters", "_boxes", "_places", "_moves"] : List Str) by decide +kernel)]
      rfl
    · obtain ⟨e, t, d2, a, b, c, n⟩ := h
      have b' := s15 _ _ b
      have c' := s15 _ _ c
      exact ⟨e, t, d2, a, by rw [upd_ne (ne_of b' hp15 (by intro z; cases z))]; exact b', by rw [upd_ne (ne_of c' hp15 (by intro z; cases z))]; exact c', n⟩
end
end Tb

set_option Elab.async false
set_option linter.all false
set_option maxRecDepth 100000
set_option maxHeartbeats 4000000
namespace Tb
open PySem PySem.Spec PyProof.Rows L2 TL
/-- a property, a method of the class at C, proved -/
structure Prp (P : Program) (w : World) (K : PySem.W.Frag) (mg : Str → Option Value) (base : Heap) (C : Addr) (k : Nat) (nm : Str) (sp : Sp) : Prop where
  ex : ∃ p g fd, PropOf K C nm p g ∧ FnOk P w K mg base CX0 k g fd ["self"] sp ∧ Binds K fd ["self"] []
structure Mth (P : Program) (w : World) (K : PySem.W.Frag) (mg : Str → Option Value) (base : Heap) (C : Addr) (k : Nat) (nm : Str) (ps : List Str) (sp : Sp) : Prop where
  ex : ∃ f fd, Meth K C nm f ∧ FnOk P w K mg base CX0 k f fd ("self" :: ps) sp ∧ Binds K fd ("self" :: ps) []
section
variable {X : Cx} {C : Addr} {k j : Nat} {nm : Str} {ps : List Str} {sp : Sp} {o : Expr} {to : TE}
theorem pe_prp {pos : Pos} (D : Prp X.prog X.w X.K X.mg X.base C k nm sp) (c : Cls X.K C) (hr : Room j X.A) (he : PE X o to) (hk : k + 1 ≤ j := by omega) (hab : attributeBase o nm X.env (eval o X.env) = eval o X.env := by rfl) : PE X (.Attribute o nm pos) (tProp C sp [] E0 to) := by
  obtain ⟨p, g, fd, hp, F, b⟩ := D.ex
  exact pe_prop he c hp F (hr.mono hk) b .nil pass0 hab
theorem pe_mth {e : Expr} {es : List Expr} {t : TA} {apos pos : Pos} {pl : Sem Bool} (D : Mth X.prog X.w X.K X.mg X.base C k nm ps sp) (c : Cls X.K C) (hr : Room j X.A) (he : PE X o to) (ha : PA X (e :: es) t) (hk : k ≤ j := by omega)
    (hst : starEach (e :: es) X.env = (false, eval e X.env) :: starEach es X.env := by rfl) (hpl : (backTo pos (starEach es X.env)).any (·.1) = false := by rfl)
    (ht : eval (.Call (.Attribute o nm apos) (e :: es) [] pos) X.env = (do
      let ov ← eval o X.env
      standAt apos.atName
      let (f, first) ← holding [ov] (getMethod ov nm pl)
      callWith pos f first (backTo pos (starEach (e :: es) X.env)) (backToKw pos (keywordEach [] X.env))) := by rfl) :
    PE X (.Call (.Attribute o nm apos) (e :: es) [] pos) (tMeth C nm sp [] E0 to t) := by
  obtain ⟨f, fd, hm, F, b⟩ := D.ex
  exact pe_meth he c hm F (hr.mono hk) b .nil pass0 ha hst hpl ht
end
/-! ### a program's fields, looked up -/
theorem fl_l (L B : List Nat) (pl mv en : Addr) : (flds L B pl mv en).lookup ("_letters" : Str) = some (.str (S L)) := rfl
theorem fl_b (L B : List Nat) (pl mv en : Addr) : (flds L B pl mv en).lookup ("_boxes" : Str) = some (.str (S B)) := by
  show List.lookup _ (_ :: _) = _
  rw [List.lookup_cons, show (("_boxes" : Str) == "_letters") = false by decide +kernel]
  rfl
theorem fl_p (L B : List Nat) (pl mv en : Addr) : (flds L B pl mv en).lookup ("_places" : Str) = some (.ref pl) := by
  show List.lookup _ (_ :: _ :: _) = _
  rw [List.lookup_cons, show (("_places" : Str) == "_letters") = false by decide +kernel, List.lookup_cons, show (("_places" : Str) == "_boxes") = false by decide +kernel]
  rfl
theorem fl_m (L B : List Nat) (pl mv en : Addr) : (flds L B pl mv en).lookup ("_moves" : Str) = some (.ref mv) := by
  show List.lookup _ (_ :: _ :: _ :: _) = _
  rw [List.lookup_cons, show (("_moves" : Str) == "_letters") = false by decide +kernel, List.lookup_cons, show (("_moves" : Str) == "_boxes") = false by decide +kernel, List.lookup_cons, show (("_moves" : Str) == "_places") = false by decide +kernel]
  rfl
theorem fl_e (L B : List Nat) (pl mv en : Addr) : (flds L B pl mv en).lookup ("_ends" : Str) = some (.ref en) := by
  show List.lookup _ (_ :: _ :: _ :: _ :: _) = _
  rw [List.lookup_cons, show (("_ends" : Str) == "_letters") = false by decide +kernel, List.lookup_cons, show (("_ends" : Str) == "_boxes") = false by decide +kernel, List.lookup_cons, show (("_ends" : Str) == "_places") = false by decide +kernel, List.lookup_cons, show (("_ends" : Str) == "_moves") = false by decide +kernel]
  rfl
theorem fl_no (L B : List Nat) (pl mv en : Addr) {m : Str} (h : (["_letters", "_boxes", "_places", "_moves", "_ends"] : List Str).contains m = false) : (flds L B pl mv en).lookup m = none := by
  have h' : m ∉ (["_letters", "_boxes", "_places", "_moves", "_ends"] : List Str) := fun z => by
    rw [List.contains_iff_mem.mpr z] at h
    cases h
  cases e : (flds L B pl mv en).lookup m with
  | none => rfl
  | some v =>
    exfalso
    have : ∀ l : List (Str × V), l.lookup m = some v → m ∈ l.map (·.1) := by
      intro l
      induction l with
      | nil => intro h; cases h
      | cons q r ih =>
        intro h
        rw [List.lookup_cons] at h
        by_cases z : (m == q.1) = true
        · rw [beq_iff_eq.mp z]
          exact List.mem_cons_self
        · rw [Bool.eq_false_iff.mpr z] at h
          exact List.mem_cons_of_mem _ (ih h)
    exact h' (this _ e)
/-! ### the move under a key -/
def findM (ms : List Mv) (pl : List Nat) (c : Nat) : Option Mv := ms.find? fun m => decide (m.pl = pl ∧ m.lt = c)
def mkey (pl : List Nat) (c : Nat) : List Key := [Sum.inr (S pl), Sum.inr (S [c])]
theorem val_moves {H : Hp} {pl : List Nat} {c : Nat} : ∀ {kk : List (List Key × V)} {ms : List Mv}, Paired (MvAt H) kk ms →
    match findM ms pl c with
    | none => valV kk (mkey pl c) = none
    | some m => ∃ t d, valV kk (mkey pl c) = some (.ref t) ∧ H t = some (.tup [.str (S m.to), .ref d]) ∧ H d = some (.dK (fkv m.fl))
  | _, _, .nil => rfl
  | kv :: kk, m :: ms, .cons h t => by
    have ih := val_moves (pl := pl) (c := c) t
    unfold findM
    rw [List.find?_cons]
    by_cases e : m.pl = pl ∧ m.lt = c
    · rw [decide_eq_true e]
      obtain ⟨e1, t, d, a, b, g⟩ := h
      refine ⟨t, d, ?_, b, g⟩
      obtain ⟨k, v⟩ := kv
      have ek : k = mkey pl c := by
        have : k = m.key := e1
        rw [this]
        unfold Mv.key mkey
        rw [e.1, e.2]
      rw [valV_pos ek]
      exact congrArg some a
    · rw [decide_eq_false e]
      obtain ⟨e1, _⟩ := h
      obtain ⟨k, v⟩ := kv
      have ek : k ≠ mkey pl c := fun z => e (key_inj (m := m) (by rw [← e1]; exact z))
      rw [valV_neg ek]
      exact ih
theorem mapV_ends (es : Fil) (c : List Nat) : (valV (fkv es) (Sum.inr (S c))).getD .non = match getF es c with | none => .non | some f => .str (S f) := by
  rw [val_fkv]
  cases getF es c <;> rfl
section
variable {P : Program} {w : World} {K : PySem.W.Frag} {mg : Str → Option Value} {base : Heap}
theorem scL : FnScope ["self"] ["self"] (defScope sLettersP) := ⟨rfl, rfl, rfl, by decide +kernel, rfl, by decide +kernel, by decide +kernel⟩
theorem scB : FnScope ["self"] ["self"] (defScope sBoxesP) := ⟨rfl, rfl, rfl, by decide +kernel, rfl, by decide +kernel, by decide +kernel⟩
theorem scP : FnScope ["self"] ["self"] (defScope sPlacesP) := ⟨rfl, rfl, rfl, by decide +kernel, rfl, by decide +kernel, by decide +kernel⟩
theorem ok_letters {f C : Addr} {fd : FuncData} {k : Nat} (F : Fun K "letters" "Program.letters" sLettersP f fd) (T : PrTxt K mg C) : FnOk P w K mg base CX0 (k + 1) f fd ["self"] (getSp C "_letters") := by
  refine F.ok scL (fun vs H Q E h => ?_) (fun cdv A outer s H vs Q E hr h => ?_)
  · obtain ⟨a, dx, fs, v, rfl, _⟩ := h
    rfl
  · obtain ⟨a, dx, fs, v, rfl, h1, h2, q⟩ := h
    exact ⟨_, pss_one (ps_ret (pe_fld (pv 0) rfl)), _, rfl, a, C, dx, fs, v, rfl, h1, T.cl, T.nL, h2, q⟩
theorem ok_boxes {f C : Addr} {fd : FuncData} {k : Nat} (F : Fun K "boxes" "Program.boxes" sBoxesP f fd) (T : PrTxt K mg C) : FnOk P w K mg base CX0 (k + 1) f fd ["self"] (getSp C "_boxes") := by
  refine F.ok scB (fun vs H Q E h => ?_) (fun cdv A outer s H vs Q E hr h => ?_)
  · obtain ⟨a, dx, fs, v, rfl, _⟩ := h
    rfl
  · obtain ⟨a, dx, fs, v, rfl, h1, h2, q⟩ := h
    exact ⟨_, pss_one (ps_ret (pe_fld (pv 0) rfl)), _, rfl, a, C, dx, fs, v, rfl, h1, T.cl, T.nB, h2, q⟩
theorem ok_places {f C : Addr} {fd : FuncData} {k : Nat} (F : Fun K "places" "Program.places" sPlacesP f fd) (T : PrTxt K mg C) : FnOk P w K mg base CX0 (k + 1) f fd ["self"] (getSp C "_places") := by
  refine F.ok scP (fun vs H Q E h => ?_) (fun cdv A outer s H vs Q E hr h => ?_)
  · obtain ⟨a, dx, fs, v, rfl, _⟩ := h
    rfl
  · obtain ⟨a, dx, fs, v, rfl, h1, h2, q⟩ := h
    exact ⟨_, pss_one (ps_ret (pe_fld (pv 0) rfl)), _, rfl, a, C, dx, fs, v, rfl, h1, T.cl, T.nP, h2, q⟩
/-! ### end, move -/
theorem scEnd : FnScope ["self", "place"] ["self", "place"] (defScope sEnd) := ⟨rfl, rfl, rfl, by decide +kernel, rfl, by decide +kernel, by decide +kernel⟩
def spEnd (C : Addr) : Sp := fun vs H Q _ => ∃ (p : Addr) (c L B : List Nat) (places : List (List Nat)) (ms : List Mv) (es : Fil), vs = [.ref p, .str (S c)] ∧ PrAt C H p L B places ms es ∧ Q (match getF es c with | none => .non | some f => .str (S f)) H
theorem ok_end {f C : Addr} {fd : FuncData} {k : Nat} (F : Fun K "end" "Program.end" sEnd f fd) (T : PrTxt K mg C) : FnOk P w K mg base CX0 (k + 1) f fd ["self", "place"] (spEnd C) := by
  refine F.ok scEnd (fun vs H Q E h => ?_) (fun cdv A outer s H vs Q E hr h => ?_)
  · obtain ⟨p, c, L, B, places, ms, es, rfl, _⟩ := h
    rfl
  · obtain ⟨p, c, L, B, places, ms, es, rfl, hp, q⟩ := h
    have hu := hu_of hr
    obtain ⟨dx, pl, mv, en, kk, h1, h2, h3, h4, h5⟩ := hp.ob
    refine ⟨_, pss_one (ps_ret (pe_dget1 hu (pe_fld (pv 0) rfl) (pv 1) ⟨rfl, rfl, rfl, rfl⟩)), ?_⟩
    refine ⟨_, rfl, p, C, dx, _, _, rfl, h1, T.cl, T.nE, fl_e _ _ _ _ _, en, rfl, .inl ⟨_, .inl h5⟩, _, rfl, _, DGet.k (k := Sum.inr (S c)) h5, ?_⟩
    rw [mapV_ends]
    exact q
theorem scMove : FnScope ["self", "place", "letter", "found", "target", "fillings"] ["self", "place", "letter"] (defScope sMove) := ⟨rfl, rfl, rfl, by decide +kernel, rfl, by decide +kernel, by decide +kernel⟩
def spMove (C : Addr) : Sp := fun vs H Q _ => ∃ (p : Addr) (c : List Nat) (a : Nat) (L B : List Nat) (places : List (List Nat)) (ms : List Mv) (es : Fil), vs = [.ref p, .str (S c), .str (S [a])] ∧ PrAt C H p L B places ms es ∧
  match findM ms c a with
  | none => ∀ H', Same H H' → Q .non H'
  | some m => ∀ t d H', Same H H' → H t = none → H d = none → H' t = some (.tup [.str (S m.to), .ref d]) → H' d = some (.dK (fkv m.fl)) → Q (.ref t) H'
theorem ok_move {f C : Addr} {fd : FuncData} {k : Nat} (F : Fun K "move" "Program.move" sMove f fd) (T : PrTxt K mg C) (md : mg "dict" = none) : FnOk P w K mg base CX0 (k + 1) f fd ["self", "place", "letter"] (spMove C) := by
  refine F.ok scMove (fun vs H Q E h => ?_) (fun cdv A outer s H vs Q E hr h => ?_)
  · obtain ⟨p, c, a, L, B, places, ms, es, rfl, _⟩ := h
    rfl
  · obtain ⟨p, c, a, L, B, places, ms, es, rfl, hp, q⟩ := h
    have hu := hu_of hr
    obtain ⟨dx, pl, mv, en, kk, h1, h2, h3, h4, h5⟩ := hp.ob
    refine ⟨_, pss_cons (ps_set (i := 3) scMove.nd rfl (.inl rfl) (pe_dget1 hu (pe_fld (pv 0) rfl) (pe_tupS (pa_cons (pv 1) (pa_cons (pv 2) pa_nil))) ⟨rfl, rfl, rfl, rfl⟩))
      (pss_cons (ps_if (pt_cmpR op_isN (pv 3) pe_non (nomark _)) (pss_one (ps_ret pe_non)) pss_nil)
      (pss_cons (ps_asg (pv 3) (pg_tup rfl (pgs_cons (pg_name (i := 4) scMove.nd rfl (.inl rfl)) (pgs_cons (pg_name (i := 5) scMove.nd rfl (.inl rfl)) pgs_nil))))
      (pss_one (ps_ret (pe_tupS (pa_cons (pv 4) (pa_cons (pe_callTy call_dictD (by rfl) md (by decide +kernel) (pa_cons (pv 5) pa_nil)) pa_nil))))))), ?_⟩
    refine ⟨_, rfl, p, C, dx, _, _, rfl, h1, T.cl, T.nM, fl_m _ _ _ _ _, mv, rfl, .inr ⟨_, .inl h3⟩, _, rfl, _, rfl, by show 2 ≤ sizeLine; decide, fun T2 H2 s2 n2 e2 => ⟨_, DGet.t (k := mkey c a) (s2 _ _ h3) e2, ?_⟩⟩
    have hv := val_moves (pl := c) (c := a) h4
    cases hf : findM ms c a with
    | none =>
      rw [hf] at hv q
      have hv' : valV kk (mkey c a) = none := hv
      rw [hv']
      exact ⟨_, rfl, rfl, _, rfl, iteT (q H2 s2)⟩
    | some m =>
      rw [hf] at hv q
      obtain ⟨t, d, hv', ht, hd⟩ := hv
      rw [hv']
      refine ⟨_, rfl, rfl, _, rfl, iteF ⟨_, rfl, t, _, rfl, SqT.of (s2 _ _ ht), rfl, _, _, rfl, _, _, rfl, rfl, ?_⟩⟩
      refine ⟨_, rfl, _, rfl, d, fkv m.fl, rfl, .inl (s2 _ _ hd), fun d' n3 => ⟨by show 2 ≤ sizeLine; decide, fun t' H4 s4 n4 e4 => ?_⟩⟩
      have s24 := s2.trans ((same_upd n3).trans s4)
      exact q t' d' H4 s24 (s2.free ((same_upd (o := .dK (fkv m.fl)) n3).free n4)) (s2.free n3) e4 (s4 _ _ upd_same)
end
end Tb

set_option Elab.async false
set_option linter.all false
set_option maxRecDepth 100000
set_option maxHeartbeats 4000000
namespace Tb
open PySem PySem.Spec PyProof.Rows L2 TL
/-! ### drawn parts make a program -/
theorem isCap_low {c : Nat} (h : 65 ≤ c ∧ c ≤ 90) : isLow c = false := decide_eq_false (by omega)
theorem isFill_of {bs f : List Nat} (hb : ∀ c ∈ bs, 65 ≤ c ∧ c ≤ 90) (sg : ∀ c ∈ f, (97 ≤ c ∧ c ≤ 122) ∨ c ∈ bs) (one : ∀ b ∈ bs, f.count b ≤ 1) : isFill f bs = true := by
  have hc : ∀ c ∈ caps f, c ∈ bs := fun c hc => by
    obtain ⟨h1, h2⟩ := List.mem_filter.mp hc
    rcases sg c h1 with h | h
    · have : isLow c = true := decide_eq_true h
      rw [this] at h2
      cases h2
    · exact h
  refine isFill_iff.mpr ⟨List.nodup_iff_count.mpr fun c => ?_, hc⟩
  by_cases hm : c ∈ caps f
  · exact Nat.le_trans (List.Sublist.count_le _ List.filter_sublist) (one c (hc c hm))
  · rw [List.count_eq_zero.mpr hm]
    exact Nat.zero_le _
theorem FilOk.isFill {bs : List Nat} {fs : List (List Nat)} (h : FilOk bs fs) (hb : ∀ c ∈ bs, 65 ≤ c ∧ c ≤ 90) : isFill fs.flatten bs = true :=
  isFill_of hb (fun c hc => by
    obtain ⟨f, hf, hcf⟩ := List.mem_flatten.mp hc
    exact h.sg f hf c hcf) h.one
theorem GoodP.parts {pt : Pt} (g : GoodP pt) : PartsQ pt where
  le := by
    unfold okLetters
    rw [decide_eq_true g.l1, decide_eq_true g.l5, decide_eq_true g.ln, show pt.letters.all isLow = true from List.all_eq_true.mpr fun c hc => decide_eq_true (g.ll c hc)]
    rfl
  bo := by
    unfold okBoxes
    rw [decide_eq_true g.b6, decide_eq_true g.bn, show pt.boxes.all isCap = true from List.all_eq_true.mpr fun c hc => decide_eq_true (g.bb c hc)]
    rfl
  pl := by
    unfold okPlaces
    rw [decide_eq_true g.p1, decide_eq_true (Nat.le_trans g.p8 (by decide)), decide_eq_true g.pn, List.all_eq_true.mpr fun x hx => isName_iff.mpr (g.pp x hx)]
    rfl
  ky := g.ky
  mv := fun m hm => by
    obtain ⟨a, b, c, hk, hF⟩ := g.mv m hm
    refine ⟨a, b, c, ⟨?_, ?_, Nat.le_trans hF.len (by decide)⟩⟩
    · rw [hk]
      exact List.Pairwise.map _ (fun a b hab z => hab (by injection z)) g.bn
    · unfold okFils okKeys
      rw [hF.isFill g.bb, hk, List.all_eq_true.mpr fun c hc => decide_eq_true hc]
      rfl
  ek := g.ek
  en := fun q hq => by
    obtain ⟨a, hF⟩ := g.en q hq
    have h1 := hF.isFill g.bb
    have h2 := hF.len
    rw [show [q.2].flatten = q.2 by simp] at h1 h2
    exact ⟨a, h1, Nat.le_trans h2 (by decide)⟩
theorem PtAt.to_in {H : Hp} {L : Addr} {pt : Pt} (h : PtAt H L pt) : ∃ tp tm te, H L = some (.lst [.str (S pt.letters), .str (S pt.boxes), .ref tp, .ref tm, .ref te]) ∧ InAt H tp tm te pt := by
  obtain ⟨tp, tm, te, kvs, h1, h2, h3, h4, h5⟩ := h.ex
  exact ⟨tp, tm, te, h1, .inl h2, ⟨kvs, h3, Paired.mono (fun _ _ z => z.to_in) h4⟩, h5⟩
abbrev psInit : List Str := ["self", "letters", "boxes", "places", "moves", "ends"]
/-- the class's making, proved -/
structure Mkr (P : Program) (w : World) (K : PySem.W.Frag) (mg : Str → Option Value) (base : Heap) (C : Addr) (k : Nat) : Prop where
  ex : ∃ f fd, Mk K C f ∧ FnOk P w K mg base CX0 k f fd psInit (spInit C) ∧ Binds K fd psInit []
/-- Program(letters, boxes, places, moves, ends) -/
def tProg (C : Addr) (t : TA) : TE := fun σ H Q => t σ H fun vs H1 => ∃ (tp tm te : Addr) (pt : Pt), vs = [.str (S pt.letters), .str (S pt.boxes), .ref tp, .ref tm, .ref te] ∧ InAt H1 tp tm te pt ∧ PartsQ pt ∧
  ∀ p H', Same H1 H' → H1 p = none → PrNew C H1 H' p (sortN pt.letters) (sortN pt.boxes) pt.places (pt.moves.map keptM) pt.ends → Q (.ref p) H'
theorem PrNew.old {C : Addr} {H0 H1 H : Hp} {p : Addr} {L B : List Nat} {places : List (List Nat)} {ms : List Mv} {es : Fil} (s : ∀ a, H1 a = none → H0 a = none) (h : PrNew C H1 H p L B places ms es) : PrNew C H0 H p L B places ms es := by
  obtain ⟨dx, pl, mv, en, kk, h1, h2, h3, n1, h4, h5, n2⟩ := h.ob
  refine ⟨dx, pl, mv, en, kk, h1, h2, h3, s _ n1, Paired.mono (fun kv m z => ?_) h4, h5, s _ n2⟩
  obtain ⟨e, t, d, a, b, c, n⟩ := z
  exact ⟨e, t, d, a, b, c, s _ n⟩
theorem pe_prog {X : Cx} {C : Addr} {k j : Nat} {e : Expr} {es : List Expr} {t : TA} {p pos : Pos} (D : Mkr X.prog X.w X.K X.mg X.base C k) (hr : Room j X.A) (hm : X.mg "Program" = some (.ref C)) (ha : PA X (e :: es) t) (hk : k + 1 ≤ j := by omega) (hg : Gl X "Program" := by rfl)
    (he : starEach (e :: es) X.env = (false, eval e X.env) :: starEach es X.env := by rfl) (hpl : (backTo pos (starEach es X.env)).any (·.1) = false := by rfl) :
    PE X (.Call (.Name "Program" p) (e :: es) [] pos) (tProg C t) := by
  obtain ⟨f, fd, M, F, b⟩ := D.ex
  refine PE.weak (pe_make M F (hr.mono hk) hg hm b .nil pass0 (PA.mono ha) (by decide) he hpl) fun σ H Q z => ⟨_, z, fun vs H1 ⟨tp, tm, te, pt, ev, hin, hq, q⟩ x dx nx ndx ne => ?_⟩
  subst ev
  have s1 : Same H1 (upd (upd H1 dx (.own x)) x (.ins C dx [])) := fun b o eb => by
    rw [upd_ne (ne_of_none eb nx), upd_ne (ne_of_none eb ndx)]
    exact eb
  refine ⟨x, dx, tp, tm, te, pt, rfl, upd_same, hin.same s1, hq, fun H' hb hp => ⟨rfl, q x H' (fun b o eb => hb b o (s1 b o eb) (ne_of_none eb nx)) nx (hp.old fun a h => s1.free h)⟩⟩
section
variable {P : Program} {w : World} {K : PySem.W.Frag} {mg : Str → Option Value} {base : Heap}
theorem scMade : FnScope ["_law_parts"] ["_law_parts"] (defScope sMade) := ⟨rfl, rfl, rfl, by decide +kernel, rfl, by decide +kernel, by decide +kernel⟩
def spMade (C : Addr) : Sp := fun vs H Q _ => ∃ (a : Addr) (pt : Pt), vs = [.ref a] ∧ (∃ tp tm te, H a = some (.lst [.str (S pt.letters), .str (S pt.boxes), .ref tp, .ref tm, .ref te]) ∧ InAt H tp tm te pt) ∧ PartsQ pt ∧
  ∀ p H', Same H H' → H p = none → PrNew C H H' p (sortN pt.letters) (sortN pt.boxes) pt.places (pt.moves.map keptM) pt.ends → Q (.ref p) H'
theorem ok_made {f C : Addr} {fd : FuncData} {k : Nat} (F : Fun K "_law_made" "_law_made" sMade f fd) (D : Mkr P w K mg base C k) (hm : mg "Program" = some (.ref C)) : FnOk P w K mg base CX0 (k + 2) f fd ["_law_parts"] (spMade C) := by
  refine F.ok scMade (fun vs H Q E h => ?_) (fun cdv A outer s H vs Q E hr h => ?_)
  · obtain ⟨a, pt, rfl, _⟩ := h
    rfl
  · obtain ⟨a, pt, rfl, ⟨tp, tm, te, ha, hin⟩, hq, q⟩ := h
    refine ⟨_, pss_one (ps_ret (pe_prog D hr hm (pa_cons (pe_ix ix_list (pv 0) pe_int (fun _ _ => rfl)) (pa_cons (pe_ix ix_list (pv 0) pe_int (fun _ _ => rfl)) (pa_cons (pe_ix ix_list (pv 0) pe_int (fun _ _ => rfl)) (pa_cons (pe_ix ix_list (pv 0) pe_int (fun _ _ => rfl)) (pa_cons (pe_ix ix_list (pv 0) pe_int (fun _ _ => rfl)) pa_nil))))))), ?_⟩
    refine ⟨_, rfl, a, _, 0, _, rfl, rfl, SqL.of ha, atI_nat (j := 0) rfl, _, rfl, a, _, 1, _, rfl, rfl, SqL.of ha, atI_nat (j := 1) rfl, _, rfl, a, _, 2, _, rfl, rfl, SqL.of ha, atI_nat (j := 2) rfl, _, rfl, a, _, 3, _, rfl, rfl, SqL.of ha, atI_nat (j := 3) rfl, _, rfl, a, _, 4, _, rfl, rfl, SqL.of ha, atI_nat (j := 4) rfl, ?_⟩
    exact ⟨tp, tm, te, pt, rfl, hin, hq, fun p H' s' n' hp => q p H' s' n' hp⟩
end
end Tb

set_option Elab.async false
set_option linter.all false
set_option maxRecDepth 100000
set_option maxHeartbeats 4000000
namespace Tb
open PySem PySem.Spec PyProof.Rows L2 TL
theorem cutS_mid (cs : List Nat) (a b : Nat) (h : a ≤ b) (hb : b ≤ cs.length) : cutS (S cs) (some (a : Int)) (some (b : Int)) = S ((cs.drop a).take (b - a)) := by
  refine ext_tl ?_
  show ((cs.drop (HT.sIx (S cs).length 0 (some (a : Int)))).take (HT.sIx (S cs).length (S cs).length (some (b : Int)) - HT.sIx (S cs).length 0 (some (a : Int)))) = (cs.drop a).take (b - a)
  rw [HT.sIx_nat, HT.sIx_nat, len_S, Nat.min_eq_left hb, Nat.min_eq_left (Nat.le_trans h hb)]
/-! ### the parts of a filling -/
def pg : List Nat → List Nat → List (List Nat)
  | cur, [] => if cur = [] then [] else [cur]
  | cur, c :: r => if isCap c = true then (if cur = [] then [] else [cur]) ++ ([c] :: pg [] r) else pg (cur ++ [c]) r
def partsOf (f : List Nat) : List (List Nat) := pg [] f
theorem pg_cap {cur r : List Nat} {c : Nat} (h : isCap c = true) : pg cur (c :: r) = (if cur = [] then [] else [cur]) ++ ([c] :: pg [] r) := by
  rw [pg, if_pos h]
theorem pg_low {cur r : List Nat} {c : Nat} (h : isCap c = false) : pg cur (c :: r) = pg (cur ++ [c]) r := by
  rw [pg, if_neg (by rw [h]; exact Bool.false_ne_true)]
theorem pg_len : ∀ (r cur : List Nat), (pg cur r).length ≤ r.length * 2 + 1
  | [], cur => by
    rw [pg]
    split <;> simp
  | c :: r, cur => by
    rw [List.length_cons]
    by_cases h : isCap c = true
    · rw [pg_cap h, List.length_append, List.length_cons]
      have h1 := pg_len r []
      split <;> simp <;> omega
    · rw [pg_low (Bool.eq_false_iff.mpr h)]
      have h1 := pg_len r (cur ++ [c])
      omega
structure Rb where
  b : Nat
  a : Addr
  w : List Nat
  n : Nat
def kvR (r : List Rb) : List (Key × V) := r.map fun q => (Sum.inr (S [q.b]), V.ref q.a)
def findR (r : List Rb) (p : List Nat) : Option Rb := r.find? fun q => decide ([q.b] = p)
theorem val_kvR (p : List Nat) : ∀ r : List Rb, valV (kvR r) (Sum.inr (S p)) = (findR r p).map fun q => V.ref q.a
  | [] => rfl
  | q :: r => by
    unfold findR
    rw [List.find?_cons]
    show valV ((Sum.inr (S [q.b]), V.ref q.a) :: kvR r) _ = _
    by_cases e : [q.b] = p
    · rw [decide_eq_true e, valV_pos (by rw [e])]
      rfl
    · rw [decide_eq_false e, valV_neg (fun z => e (key_S.mp z)), val_kvR p r]
      rfl
theorem findR_mem {r : List Rb} {p : List Nat} {q : Rb} (h : findR r p = some q) : q ∈ r ∧ [q.b] = p := by
  unfold findR at h
  have h2 := List.find?_some (p := fun q : Rb => decide ([q.b] = p)) h
  exact ⟨List.mem_of_find?_eq_some h, of_decide_eq_true h2⟩
def pieceW (r : List Rb) (p : List Nat) : List Nat := match findR r p with | some q => q.w | none => p
def pieceN (r : List Rb) (p : List Nat) : Nat := match findR r p with | some q => q.n + 1 | none => 1
def fillW (r : List Rb) (parts : List (List Nat)) : List Nat := (parts.map (pieceW r)).flatten
def fillN (r : List Rb) (parts : List (List Nat)) : Nat := (parts.map (pieceN r)).sum
/-! ### a dict comprehension whose values are told by a relation (new objects) -/
section
variable {tk tv : TE} {vs : List Nat} {σ : L2.St} {H1 : Hp} {D : Addr} {Qd : Hp → Prop} {sl : Nat} {J : It} {n : Nat} {G : Hp → Prop} {Y : Nat → Hp → V → Hp → Prop}
theorem dc_relW {xs : List V} (kf : V → Key) (Rl : Hp → V → V → Prop) (hmono : ∀ H H' x v, (∃ kvs, H D = some (.dK kvs)) → But D H H' → Rl H x v → Rl H' x v)
    (w : Walk J n G Y) (hn : n = xs.length) (hY : ∀ i H x H', Y i H x H' → H' = H ∧ xs[i]? = some x) (hG : ∀ H', Same H1 H' → G H') (nD : H1 D = none) (hl : xs.length < sizeLine) (nd : (xs.map kf).Nodup)
    (hk : ∀ x ∈ xs, ∀ H' (R : VK), Same H1 H' → R (kV (kf x)) H' → tk ((wipe σ vs).set sl (some x)) H' R)
    (he : ∀ x ∈ xs, ∀ H' (R : VK), Same H1 H' → (∀ H'' v, Same H' H'' → Rl H'' x v → R v H'') → tv ((wipe σ vs).set sl (some x)) H' R)
    (hd : ∀ H' kvs, Same H1 H' → H' D = some (.dK kvs) → Paired (fun (kv : Key × V) x => kv.1 = kf x ∧ Rl H' x kv.2) kvs xs → Qd H') (hw : ∀ x, wipe ((wipe σ vs).set sl (some x)) vs = wipe σ vs := by intro _; rfl) :
    ∃ W : Nat → Nat → Hp → Prop, (∃ m, W 0 m (upd H1 D (.dK []))) ∧ ∀ i m H, W i m H →
      (J.stop i H ∧ Qd H) ∨ (J.go i H ∧ ∃ Nx : Hp → Prop, (∀ H', Nx H' → ∃ m', m' < m ∧ W (i + 1) m' H') ∧ ∀ x H', J.yld i H x H' → gName sl x (wipe σ vs) H' fun σ2 H2 => wipe σ2 vs = wipe σ vs ∧ tYes σ2 H2 fun b H3 =>
        if b = true then tk σ2 H3 fun y H4 => tv σ2 H4 fun z H5 => ∃ kvs k, y = kV k ∧ H5 D = some (.dK kvs) ∧ kvs.length < sizeLine ∧ Nx (upd H5 D (.dK (putK kvs k z))) else Nx H3) := by
  refine dc_it w (fun i H => Same H1 H ∧ ∃ kvs, H D = some (.dK kvs) ∧ Paired (fun (kv : Key × V) x => kv.1 = kf x ∧ Rl H x kv.2) kvs (xs.take i)) ⟨same_upd nD, [], upd_same, .nil⟩ (fun i H _ h => hG H h.1) ?_ ?_
  · rintro i x H H' hi ⟨s, kvs, e, hp⟩ y
    obtain ⟨rfl, hx⟩ := hY _ _ _ _ y
    have hm := List.mem_of_getElem? hx
    have et : xs.take (i + 1) = xs.take i ++ [x] := by
      rw [List.take_add_one, hx]
      rfl
    refine ⟨hw _, tYes_if (hk x hm _ _ s (he x hm _ _ s fun H2 v s2 hv => ?_))⟩
    have keys : ∀ {kvs : List (Key × V)} {l : List V} {Hx : Hp}, Paired (fun (kv : Key × V) x => kv.1 = kf x ∧ Rl Hx x kv.2) kvs l → kvs.map (·.1) = l.map kf := by
      intro kvs l Hx h
      induction h with
      | nil => rfl
      | cons h _ ih => rw [List.map_cons, List.map_cons, h.1, ih]
    have hno : kf x ∉ kvs.map (·.1) := fun z => by
      rw [keys hp] at z
      have h1 : ((xs.take (i + 1)).map kf).Nodup := ((List.take_sublist _ _).map _).nodup nd
      rw [et, List.map_append, List.nodup_append] at h1
      exact h1.2.2 _ z _ (List.mem_singleton.mpr rfl) rfl
    refine ⟨kvs, kf x, rfl, s2 _ _ e, ?_, fun b o eb => ?_, _, upd_same, ?_⟩
    · rw [Paired.length hp, List.length_take]
      exact Nat.lt_of_le_of_lt (Nat.min_le_right _ _) hl
    · rw [upd_ne (ne_of_none eb nD)]
      exact s2 _ _ (s _ _ eb)
    · rw [putK_end v hno, et]
      have b3 : But D H2 (upd H2 D (.dK (kvs ++ [(kf x, v)]))) := But.upd D H2 _
      refine (Paired.mono (fun kv y h => ⟨h.1, hmono _ _ _ _ ⟨kvs, e⟩ ((Same.but s2 D).trans b3) h.2⟩) hp).snoc ⟨rfl, hmono _ _ _ _ ⟨kvs, s2 _ _ e⟩ b3 hv⟩
  · rintro H ⟨s, kvs, e, hp⟩
    subst hn
    rw [List.take_length] at hp
    exact hd H kvs s e hp
end
/-- the parts of a move's fillings, box by box -/
def PtsAt (H : Hp) (kvs : List (Key × V)) (B : List Nat) (fl : Fil) : Prop := Paired (fun (kv : Key × V) b => kv.1 = Sum.inr (S [b]) ∧ ∃ a, kv.2 = .ref a ∧ H a = some (.lst (txs (partsOf ((getF fl [b]).getD []))))) kvs B
theorem PtsAt.same {H H' : Hp} (s : Same H H') {kvs : List (Key × V)} {B : List Nat} {fl : Fil} (h : PtsAt H kvs B fl) : PtsAt H' kvs B fl := Paired.mono (fun _ _ ⟨e, a, e2, h⟩ => ⟨e, a, e2, s _ _ h⟩) h
theorem keyV_S (c : List Nat) : keyV (.str (S c)) = Sum.inr (S c) := rfl
theorem sgs_keys {B : List Nat} (nd : B.Nodup) : ((sgs B).map keyV).Nodup := by
  unfold sgs
  rw [List.map_map]
  exact List.Pairwise.map _ (fun a b hab z => hab (by have := key_S.mp z; injection this)) nd
theorem str_item {B : List Nat} {i : Nat} {H H' : Hp} {x : V} (y : H' = H ∧ ∃ c, (S B).cps[i]? = some c ∧ x = .str ⟨#[c]⟩) : H' = H ∧ (sgs B)[i]? = some x := by
  obtain ⟨e, c, hc, rfl⟩ := y
  refine ⟨e, ?_⟩
  rw [show (S B).cps = B.toArray from rfl, List.getElem?_toArray] at hc
  unfold sgs
  rw [List.getElem?_map, hc]
  rfl
/-! ### what is told, as a function -/
abbrev Env := List (Nat × List Nat)
def getE (env : Env) (p : List Nat) : Option (List Nat) := (env.find? fun q => decide ([q.1] = p)).map (·.2)
def pieceE (env : Env) (p : List Nat) : List Nat := (getE env p).getD p
def fillE (env : Env) (parts : List (List Nat)) : List Nat := (parts.map (pieceE env)).flatten
def fil (fl : Fil) (b : Nat) : List Nat := (getF fl [b]).getD []
def stepE (ms : List Mv) (B : List Nat) (s : List Nat × Env) (a : Nat) : Option (List Nat × Env) := (findM ms s.1 a).map fun m => (m.to, B.map fun b => (b, fillE s.2 (partsOf (fil m.fl b))))
def runE (ms : List Mv) (B : List Nat) : List Nat × Env → List Nat → Option (List Nat × Env)
  | s, [] => some s
  | s, a :: r => (stepE ms B s a).bind fun s' => runE ms B s' r
theorem runE_app (ms : List Mv) (B : List Nat) : ∀ (xs ys : List Nat) (s : List Nat × Env), runE ms B s (xs ++ ys) = (runE ms B s xs).bind fun s' => runE ms B s' ys
  | [], ys, s => rfl
  | a :: r, ys, s => by
    show (stepE ms B s a).bind (fun s' => runE ms B s' (r ++ ys)) = ((stepE ms B s a).bind fun s' => runE ms B s' r).bind fun s' => runE ms B s' ys
    cases stepE ms B s a with
    | none => rfl
    | some s' => exact runE_app ms B r ys s'
def envOf (r : List Rb) : Env := r.map fun q => (q.b, q.w)
theorem get_env (p : List Nat) : ∀ r : List Rb, getE (envOf r) p = (findR r p).map (·.w)
  | [] => rfl
  | q :: r => by
    have ih := get_env p r
    unfold getE findR at *
    show (List.find? _ ((q.b, q.w) :: envOf r)).map _ = _
    rw [List.find?_cons, List.find?_cons]
    by_cases e : [q.b] = p
    · rw [decide_eq_true e]
      rfl
    · rw [decide_eq_false e]
      exact ih
theorem pieceW_E (r : List Rb) (p : List Nat) : pieceW r p = pieceE (envOf r) p := by
  unfold pieceW pieceE
  rw [get_env]
  cases findR r p <;> rfl
theorem fillW_E (r : List Rb) (parts : List (List Nat)) : fillW r parts = fillE (envOf r) parts := by
  unfold fillW fillE
  rw [List.map_congr_left fun p _ => pieceW_E r p]
/-! ### sizes -/
theorem pg_flat : ∀ (r cur : List Nat), (pg cur r).flatten = cur ++ r
  | [], cur => by
    rw [pg]
    split
    · rename_i h
      rw [h]
      rfl
    · simp
  | c :: r, cur => by
    by_cases h : isCap c = true
    · rw [pg_cap h, List.flatten_append, List.flatten_cons, pg_flat r []]
      split
      · rename_i h2
        rw [h2]
        rfl
      · simp
    · rw [pg_low (Bool.eq_false_iff.mpr h), pg_flat r (cur ++ [c])]
      simp
theorem parts_flat (f : List Nat) : (partsOf f).flatten = f := pg_flat f []
/-- cur holds no box -/
theorem pg_count {x : Nat} (hx : isCap x = true) : ∀ (r cur : List Nat), (∀ c ∈ cur, isCap c = false) → (pg cur r).count [x] = r.count x
  | [], cur, hc => by
    rw [pg]
    split
    · rfl
    · rename_i hne
      have : ([cur] : List (List Nat)).count [x] = 0 := by
        rw [List.count_eq_zero]
        intro z
        have z' := List.mem_singleton.mp z
        have := hc x (by rw [← z']; exact List.mem_singleton.mpr rfl)
        rw [hx] at this
        cases this
      rw [this]
      rfl
  | c :: r, cur, hc => by
    by_cases h : isCap c = true
    · rw [pg_cap h, List.count_append, List.count_cons, pg_count hx r [] (fun c hc => (nomatch hc)), List.count_cons]
      have h0 : (if cur = [] then ([] : List (List Nat)) else [cur]).count [x] = 0 := by
        split
        · rfl
        · rw [List.count_eq_zero]
          intro z
          have z' := List.mem_singleton.mp z
          have := hc x (by rw [← z']; exact List.mem_singleton.mpr rfl)
          rw [hx] at this
          cases this
      rw [h0]
      have : ([c] == [x]) = (c == x) := by simp
      rw [this]
      omega
    · have h' := Bool.eq_false_iff.mpr h
      rw [pg_low h', pg_count hx r (cur ++ [c]) (fun d hd => by
        rcases List.mem_append.mp hd with z | z
        · exact hc d z
        · rw [List.mem_singleton.mp z]; exact h'), List.count_cons]
      have : (c == x) = false := by
        rw [beq_eq_false_iff_ne]
        intro z
        rw [z, hx] at h'
        cases h'
      rw [this]
      rfl
theorem parts_count {x : Nat} (hx : isCap x = true) (f : List Nat) : (partsOf f).count [x] = f.count x := pg_count hx f [] (fun c hc => (nomatch hc))
theorem parts_len (f : List Nat) : (partsOf f).length ≤ 2 * f.length + 1 := by
  have := pg_len f []
  unfold partsOf
  omega
theorem fillN_app (r : List Rb) (a b : List (List Nat)) : fillN r (a ++ b) = fillN r a + fillN r b := by
  unfold fillN
  rw [List.map_append, List.sum_append]
theorem fillN_le : ∀ (r : List Rb) (L : List (List Nat)), (∀ q ∈ r, L.count [q.b] ≤ 1) → fillN r L ≤ L.length + (r.map (·.n)).sum
  | [], L, h0 => by
    clear h0
    have : fillN [] L = L.length := by
      unfold fillN
      induction L with
      | nil => rfl
      | cons p L ih =>
        rw [List.map_cons, List.sum_cons, ih, List.length_cons]
        show 1 + _ = _
        omega
    rw [this]
    exact Nat.le_add_right _ _
  | q :: r, L, h => by
    have ih := fillN_le r L fun q' hq' => h q' (List.mem_cons_of_mem _ hq')
    have key : fillN (q :: r) L ≤ fillN r L + q.n * L.count [q.b] := by
      clear ih h
      unfold fillN
      induction L with
      | nil => exact Nat.zero_le _
      | cons p L ihL =>
        rw [List.map_cons, List.sum_cons, List.map_cons, List.sum_cons, List.count_cons]
        have hp : pieceN (q :: r) p ≤ pieceN r p + (if (p == [q.b]) = true then q.n else 0) := by
          unfold pieceN findR
          rw [List.find?_cons]
          by_cases e : [q.b] = p
          · rw [decide_eq_true e, if_pos (by rw [beq_iff_eq]; exact e.symm)]
            show q.n + 1 ≤ _
            split <;> omega
          · rw [decide_eq_false e]
            exact Nat.le_add_right _ _
        rw [Nat.mul_add]
        have hm : q.n * (if (p == [q.b]) = true then 1 else 0) = (if (p == [q.b]) = true then q.n else 0) := by
          split
          · rw [Nat.mul_one]
          · rw [Nat.mul_zero]
        rw [hm]
        omega
    have h1 := h q List.mem_cons_self
    have h2 : q.n * L.count [q.b] ≤ q.n := by
      have := Nat.mul_le_mul_left q.n h1
      rw [Nat.mul_one] at this
      exact this
    rw [List.map_cons, List.sum_cons]
    omega
theorem fillW_le : ∀ (r : List Rb) (L : List (List Nat)), (∀ q ∈ r, L.count [q.b] ≤ 1) → (fillW r L).length ≤ L.flatten.length + (r.map (·.w.length)).sum
  | [], L, h0 => by
    clear h0
    have : fillW [] L = L.flatten := by
      unfold fillW
      induction L with
      | nil => rfl
      | cons p L ih => rw [List.map_cons, List.flatten_cons, ih, List.flatten_cons]; rfl
    rw [this]
    exact Nat.le_add_right _ _
  | q :: r, L, h => by
    have ih := fillW_le r L fun q' hq' => h q' (List.mem_cons_of_mem _ hq')
    have key : (fillW (q :: r) L).length ≤ (fillW r L).length + q.w.length * L.count [q.b] := by
      clear ih h
      unfold fillW
      induction L with
      | nil => exact Nat.zero_le _
      | cons p L ihL =>
        rw [List.map_cons, List.flatten_cons, List.map_cons, List.flatten_cons, List.count_cons, List.length_append, List.length_append]
        have hp : (pieceW (q :: r) p).length ≤ (pieceW r p).length + (if (p == [q.b]) = true then q.w.length else 0) := by
          unfold pieceW findR
          rw [List.find?_cons]
          by_cases e : [q.b] = p
          · rw [decide_eq_true e, if_pos (by rw [beq_iff_eq]; exact e.symm)]
            exact Nat.le_add_left _ _
          · rw [decide_eq_false e]
            exact Nat.le_add_right _ _
        rw [Nat.mul_add]
        have hm : q.w.length * (if (p == [q.b]) = true then 1 else 0) = (if (p == [q.b]) = true then q.w.length else 0) := by
          split
          · rw [Nat.mul_one]
          · rw [Nat.mul_zero]
        rw [hm]
        omega
    have h1 := h q List.mem_cons_self
    have h2 : q.w.length * L.count [q.b] ≤ q.w.length := by
      have := Nat.mul_le_mul_left q.w.length h1
      rw [Nat.mul_one] at this
      exact this
    rw [List.map_cons, List.sum_cons]
    omega
/-- all parts of all boxes, in a row -/
def allP (B : List Nat) (fl : Fil) : List (List Nat) := B.flatMap fun b => partsOf (fil fl b)
structure MvGood (B : List Nat) (m : Mv) : Prop where
  one : ∀ x ∈ B, ((B.map (fil m.fl)).flatten).count x ≤ 1
  len : (B.map (fil m.fl)).flatten.length ≤ 1000
theorem allP_count {fl : Fil} {x : Nat} (hx : isCap x = true) : ∀ B : List Nat, (allP B fl).count [x] = ((B.map (fil fl)).flatten).count x
  | [] => rfl
  | b :: B => by
    unfold allP
    rw [List.flatMap_cons, List.count_append, List.map_cons, List.flatten_cons, List.count_append, parts_count hx]
    have := allP_count (fl := fl) hx B
    unfold allP at this
    rw [this]
theorem allP_len {fl : Fil} : ∀ B : List Nat, (allP B fl).length ≤ 2 * ((B.map (fil fl)).flatten).length + B.length
  | [] => Nat.le_refl _
  | b :: B => by
    unfold allP
    rw [List.flatMap_cons, List.length_append, List.map_cons, List.flatten_cons, List.length_append, List.length_cons]
    have := allP_len (fl := fl) B
    unfold allP at this
    have h2 := parts_len (fil fl b)
    omega
theorem allP_flat {fl : Fil} : ∀ B : List Nat, (allP B fl).flatten = (B.map (fil fl)).flatten
  | [] => rfl
  | b :: B => by
    unfold allP
    rw [List.flatMap_cons, List.flatten_append, List.map_cons, List.flatten_cons, parts_flat]
    have := allP_flat (fl := fl) B
    unfold allP at this
    rw [this]
theorem fillE_app (env : Env) (a b : List (List Nat)) : fillE env (a ++ b) = fillE env a ++ fillE env b := by
  unfold fillE
  rw [List.map_append, List.flatten_append]
theorem sumE {fl : Fil} (env : Env) : ∀ B : List Nat, ((B.map fun b => (b, fillE env (partsOf (fil fl b)))).map (·.2.length)).sum = (fillE env (allP B fl)).length
  | [] => rfl
  | b :: B => by
    have := sumE (fl := fl) env B
    unfold allP at *
    rw [List.flatMap_cons, fillE_app, List.length_append, ← this]
    rfl
theorem sum_env (r : List Rb) : (r.map (·.w.length)).sum = ((envOf r).map (·.2.length)).sum := by
  unfold envOf
  rw [List.map_map]
  rfl
theorem fil_len {B : List Nat} {fl : Fil} {b : Nat} (hb : b ∈ B) : (fil fl b).length ≤ ((B.map (fil fl)).flatten).length := by
  induction B with
  | nil => exact (nomatch hb)
  | cons c B ih =>
    rw [List.map_cons, List.flatten_cons, List.length_append]
    rcases List.mem_cons.mp hb with e | e
    · rw [e]
      exact Nat.le_add_right _ _
    · exact Nat.le_trans (ih e) (Nat.le_add_left _ _)
/-- what the moves' dict keeps under a key; none of its dicts is the one at e -/
def CacheV (H : Hp) (ms : List Mv) (B : List Nat) (e : Addr) (c : List Nat) (a : Nat) (v : V) : Prop := match findM ms c a with
  | none => v = .non
  | some m => ∃ t d kv, v = .ref t ∧ H t = some (.tup [.str (S m.to), .ref d]) ∧ H d = some (.dK kv) ∧ PtsAt H kv B m.fl ∧ d ≠ e
theorem CacheV.but {H H' : Hp} {g x : Addr} {kvs : List (List Key × V)} (hg : H g = some (.dT kvs)) (s : But g H H') {ms : List Mv} {B c : List Nat} {a : Nat} {v : V} (h : CacheV H ms B x c a v) : CacheV H' ms B x c a v := by
  unfold CacheV at *
  cases e : findM ms c a with
  | none =>
    rw [e] at h
    exact h
  | some m =>
    rw [e] at h
    obtain ⟨t, d, kv, e1, h1, h2, h3, h4⟩ := h
    exact ⟨t, d, kv, e1, s _ _ h1 (ne_of h1 hg (by intro z; cases z)), s _ _ h2 (ne_of h2 hg (by intro z; cases z)), Paired.mono (fun _ _ ⟨e, a, e2, h⟩ => ⟨e, a, e2, s _ _ h (ne_of h hg (by intro z; cases z))⟩) h3, h4⟩
theorem CacheV.new {H : Hp} {x y : Addr} (n : H y = none) {ms : List Mv} {B c : List Nat} {a : Nat} {v : V} (h : CacheV H ms B x c a v) : CacheV H ms B y c a v := by
  unfold CacheV at *
  cases e : findM ms c a with
  | none =>
    rw [e] at h
    exact h
  | some m =>
    rw [e] at h
    obtain ⟨t, d, kv, e1, h1, h2, h3, _⟩ := h
    exact ⟨t, d, kv, e1, h1, h2, h3, ne_of_none h2 n⟩
theorem mkey_inj {c c' : List Nat} {a a' : Nat} (h : mkey c a = mkey c' a') : c = c' ∧ a = a' := by
  unfold mkey at h
  injection h with h1 h2
  injection h2 with h3 _
  have := key_S.mp h3
  injection this with h4 _
  exact ⟨key_S.mp h1, h4⟩
structure PgOk (B : List Nat) (ms : List Mv) (es : Fil) : Prop where
  nB : B.Nodup
  cB : ∀ x ∈ B, isCap x = true
  lB : B.length ≤ 6
  fl : ∀ m ∈ ms, ∀ q ∈ m.fl, q.2.length ≤ 1000
  good : ∀ m ∈ ms, MvGood B m
  en : ∀ c f, getF es c = some f → f.length ≤ 1000 ∧ ∀ x ∈ B, f.count x ≤ 1
def toldE (ms : List Mv) (B : List Nat) (es : Fil) (pl0 : List Nat) (t : List Nat) : Option (List Nat) := (runE ms B (pl0, B.map fun b => (b, [])) t).bind fun s => (getF es s.1).map fun f => fillE s.2 (partsOf f)
def optV : Option (List Nat) → V
  | none => .non
  | some x => .str (S x)
def envK (env : Env) : List (Key × V) := env.map fun q => (Sum.inr (S [q.1]), V.str (S q.2))
end Tb

set_option Elab.async false
set_option linter.all false
set_option maxRecDepth 100000
set_option maxHeartbeats 4000000
namespace Tb
open PySem PySem.Spec PyProof.Rows L2 TL
/-! ### _law_filled -/
theorem _root_.L2.Rd.same {H H' : Hp} {a : Addr} {u : HO} (h : Rd H a u) (s : Same H H') : Rd H' a u := h.elim (fun h => .inl (s _ _ h)) fun ⟨o, h⟩ => .inr ⟨o, s _ _ h⟩
theorem dget_rd {H : Hp} {a : Addr} {kvs : List (Key × V)} {k : Key} (e : Rd H a (.dK kvs)) : DGet H a (kV k) (valV kvs k) := .inl ⟨kvs, k, e, rfl, rfl⟩
def getC (env : Env) (c : Nat) : Option (List Nat) := (env.find? fun q => decide (q.1 = c)).map (·.2)
def fillC (env : Env) (f : List Nat) : List Nat := (f.map fun c => (getC env c).getD [c]).flatten
theorem getC_cons (q : Nat × List Nat) (env : Env) (c : Nat) : getC (q :: env) c = if q.1 = c then some q.2 else getC env c := by
  unfold getC
  rw [List.find?_cons]
  by_cases e : q.1 = c
  · rw [if_pos e, decide_eq_true e]
    rfl
  · rw [if_neg e, decide_eq_false e]
theorem val_envK (c : Nat) : ∀ env : Env, valV (envK env) (Sum.inr (S [c])) = (getC env c).map fun x => V.str (S x)
  | [] => rfl
  | q :: env => by
    rw [getC_cons]
    show valV ((Sum.inr (S [q.1]), V.str (S q.2)) :: envK env) _ = _
    by_cases e : q.1 = c
    · rw [if_pos e, valV_pos (by rw [e])]
      rfl
    · rw [if_neg e, valV_neg (fun z => e (by have := key_S.mp z; injection this)), val_envK c env]
def filledV (env : Env) : V → V := fun v => match v with | .str x => .str (S ((getC env ((tl x).headD 0)).getD (tl x))) | _ => .non
section
variable {P : Program} {w : World} {K : PySem.W.Frag} {mg : Str → Option Value} {base : Heap}
abbrev nLFilled : List Str := ["_law_filling", "_law_texts", "_law_sign"]
theorem scLFilled : FnScope nLFilled ["_law_filling", "_law_texts"] (defScope sLFilled) := ⟨rfl, rfl, rfl, by decide +kernel, rfl, by decide +kernel, by decide +kernel⟩
def spLFilled : Sp := fun vs H Q _ => ∃ (f : List Nat) (d : Addr) (env : Env), vs = [.str (S f), .ref d] ∧ Rd H d (.dK (envK env)) ∧ f.length ≤ 1000000 ∧ (fillC env f).length ≤ 10000000 ∧ ∀ H', Same H H' → Q (.str (S (fillC env f))) H'
theorem ok_lfilled {f : Addr} {fd : FuncData} {k : Nat} (F : Fun K "_law_filled" "_law_filled" sLFilled f fd) : FnOk P w K mg base CX0 (k + 1) f fd ["_law_filling", "_law_texts"] spLFilled := by
  refine F.ok scLFilled (fun vs H Q E h => ?_) (fun cdv A outer s H vs Q E hr h => ?_)
  · obtain ⟨f, d, env, rfl, _⟩ := h
    rfl
  · obtain ⟨cs, d, env, rfl, hd, hl, hl2, q⟩ := h
    have hu := hu_of hr
    refine ⟨_, pss_one (ps_ret (pe_join pe_str (pe_lc (own := [("_law_sign", 2)]) (g := gName 2) (tt := tYes) (te := tIf (tB (tDIn (tVar 2) (tVar 1))) (tDGet (tVar 1) (tVar 2)) (tVar 2)) rfl scLFilled.nd (pi_str (pv 0)) (blkOk_by (own := [("_law_sign", 2)]) (N := nLFilled) (sc := defScope sLFilled) (by decide +kernel))
        (fun _ _ _ _ _ => pg_name (i := 2) scLFilled.nd rfl (.inl rfl)) (fun _ _ _ _ _ => pts_nil) (fun _ _ _ _ _ => pe_ifExp (pt_cmp (pc_din hu (pv 2) (pv 1))) (pe_dget hu (pv 1) (pv 2) (fun _ _ => rfl)) (pv 2))))), ?_⟩
    have big : (1000000 : Nat) < sizeLine := by rw [sizeLine_eq]; decide
    refine ⟨⟨_, rfl⟩, _, rfl, S cs, rfl, fun D nD => lc_mapW (xs := sgs cs) (filledV env) walk_str (by unfold sgs; rw [List.length_map]; rfl) (fun i H x H' y => str_item y) (fun _ _ => trivial) nD ?_ ?_ ?_⟩
    · unfold sgs
      rw [List.length_map]
      omega
    · intro x hx H' R s' r
      obtain ⟨c, hc, rfl⟩ := List.mem_map.mp hx
      have r' := r H' (fun _ _ e => e)
      have e1 : filledV env (.str (S [c])) = .str (S ((getC env c).getD [c])) := rfl
      rw [e1] at r'
      refine ⟨_, rfl, _, rfl, d, _, rfl, dget_rd (k := Sum.inr (S [c])) (hd.same s'), _, rfl, ?_⟩
      rw [val_envK]
      cases hg : getC env c with
      | some y =>
        rw [hg] at r'
        have hv : valV (envK env) (Sum.inr (S [c])) = some (.str (S y)) := by rw [val_envK, hg]; rfl
        exact iteT ⟨_, rfl, _, rfl, d, _, rfl, hv ▸ dget_rd (k := Sum.inr (S [c])) (hd.same s'), r'⟩
      | none =>
        rw [hg] at r'
        exact iteF ⟨_, rfl, r'⟩
    · intro H' s' e'
      have ey : (sgs cs).map (filledV env) = ((cs.map fun c => (getC env c).getD [c]).map S).map V.str := by
        unfold sgs
        simp only [List.map_map]
        rfl
      refine ⟨_, D, (cs.map fun c => (getC env c).getD [c]).map S, rfl, rfl, .inl (SqL.of (by rw [e', ey])), ?_, ?_⟩
      · rw [len_fil, str_empty, len_S]
        show (fillC env cs).length + _ * 0 ≤ _
        omega
      · rw [str_empty, join_fil]
        exact q H' s'
end
end Tb

set_option Elab.async false
set_option linter.all false
set_option maxRecDepth 100000
set_option maxHeartbeats 4000000
namespace Tb
open PySem PySem.Spec PyProof.Rows L2 TL
/-! ### a list of pairs over anything that is walked -/
section
variable {te : TE} {vs : List Nat} {σ : L2.St} {H1 : Hp} {D : Addr} {Qd : Hp → Prop} {sl : Nat} {J : It} {n : Nat} {G : Hp → Prop} {Y : Nat → Hp → V → Hp → Prop}
theorem lc_pairsW {xs : List V} (kf vf : V → V) (w : Walk J n G Y) (hn : n = xs.length) (hY : ∀ i H x H', Y i H x H' → H' = H ∧ xs[i]? = some x) (hG : ∀ H', Same H1 H' → G H') (nD : H1 D = none) (hl : xs.length < sizeLine)
    (he : ∀ x ∈ xs, ∀ H' (R : VK), Same H1 H' → New H' (.tup [kf x, vf x]) R → te ((wipe σ vs).set sl (some x)) H' R)
    (hd : ∀ H' ts, Same H1 H' → H' D = some (.lst (ts.map V.ref)) → Paired (fun t x => H' t = some (.tup [kf x, vf x])) ts xs → Qd H') (hw : ∀ x, wipe ((wipe σ vs).set sl (some x)) vs = wipe σ vs := by intro _; rfl) :
    ∃ W : Nat → Nat → Hp → Prop, (∃ m, W 0 m (upd H1 D (.lst []))) ∧ ∀ i m H, W i m H →
      (J.stop i H ∧ Qd H) ∨ (J.go i H ∧ ∃ Nx : Hp → Prop, (∀ H', Nx H' → ∃ m', m' < m ∧ W (i + 1) m' H') ∧ ∀ x H', J.yld i H x H' → gName sl x (wipe σ vs) H' fun σ2 H2 => wipe σ2 vs = wipe σ vs ∧ tYes σ2 H2 fun b H3 =>
        if b = true then te σ2 H3 fun y H4 => ∃ acc, H4 D = some (.lst acc) ∧ acc.length < sizeLine ∧ Nx (upd H4 D (.lst (acc ++ [y]))) else Nx H3) := by
  refine lc_it w (fun i H => Same H1 H ∧ ∃ ts, H D = some (.lst (ts.map V.ref)) ∧ Paired (fun t x => H t = some (.tup [kf x, vf x])) ts (xs.take i)) ⟨same_upd nD, [], upd_same, .nil⟩ (fun i H _ h => hG H h.1) ?_ ?_
  · rintro i x H H' hi ⟨s, ts, e, hp⟩ y
    obtain ⟨rfl, hx⟩ := hY _ _ _ _ y
    have hm := List.mem_of_getElem? hx
    have et : xs.take (i + 1) = xs.take i ++ [x] := by
      rw [List.take_add_one, hx]
      rfl
    refine ⟨hw x, tYes_if (he x hm _ _ s fun T H2 s2 nT eT => ?_)⟩
    have hlt : ts.length < sizeLine := by
      rw [Paired.length hp, List.length_take]
      exact Nat.lt_of_le_of_lt (Nat.min_le_right _ _) hl
    have nTD : T ≠ D := fun z => by
      rw [z, e] at nT
      cases nT
    refine ⟨_, s2 _ _ e, by rw [List.length_map]; exact hlt, fun b o eb => ?_, ts ++ [T], ?_, ?_⟩
    · rw [upd_ne (ne_of_none eb nD)]
      exact s2 _ _ (s _ _ eb)
    · rw [upd_same, List.map_append]
      rfl
    · rw [et]
      refine (Paired.mono (fun t z h => ?_) hp).snoc (by rw [upd_ne nTD]; exact eT)
      rw [upd_ne (ne_of h e (by intro z; cases z))]
      exact s2 _ _ h
  · rintro H ⟨s, ts, e, hp⟩
    subst hn
    rw [List.take_length] at hp
    exact hd H ts s e hp
end
/-! ### the two ways of filling are one -/
theorem getE_cap {env : Env} (hc : ∀ q ∈ env, isCap q.1 = true) {p : List Nat} (hp : ∀ c ∈ p, isCap c = false) : getE env p = none := by
  unfold getE
  have : env.find? (fun q => decide ([q.1] = p)) = none := by
    rw [List.find?_eq_none]
    intro q hq z
    have e := of_decide_eq_true z
    have h1 := hp q.1 (by rw [← e]; exact List.mem_singleton.mpr rfl)
    rw [hc q hq] at h1
    cases h1
  rw [this]
  rfl
theorem getE_one (env : Env) (c : Nat) : getE env [c] = getC env c := by
  unfold getE getC
  congr 2
  funext q
  rw [decide_eq_decide]
  exact ⟨fun h => by injection h, fun h => by rw [h]⟩
theorem fillC_low {env : Env} (hc : ∀ q ∈ env, isCap q.1 = true) : ∀ {p : List Nat}, (∀ c ∈ p, isCap c = false) → fillC env p = p
  | [], _ => rfl
  | c :: p, h => by
    unfold fillC
    rw [List.map_cons, List.flatten_cons, ← getE_one, getE_cap hc (fun d hd => by rw [List.mem_singleton.mp hd]; exact h c List.mem_cons_self)]
    have := fillC_low hc (fun d hd => h d (List.mem_cons_of_mem _ hd))
    unfold fillC at this
    rw [this]
    rfl
theorem fillC_app (env : Env) (a b : List Nat) : fillC env (a ++ b) = fillC env a ++ fillC env b := by
  unfold fillC
  rw [List.map_append, List.flatten_append]
theorem fill_pg {env : Env} (hc : ∀ q ∈ env, isCap q.1 = true) : ∀ (r cur : List Nat), (∀ c ∈ cur, isCap c = false) → fillE env (pg cur r) = cur ++ fillC env r
  | [], cur, h => by
    rw [pg]
    split
    · rename_i e
      rw [e]
      rfl
    · unfold fillE pieceE
      rw [List.map_cons, getE_cap hc h]
      simp [fillC]
  | c :: r, cur, h => by
    have e1 : fillC env (c :: r) = (getC env c).getD [c] ++ fillC env r := by
      unfold fillC
      rw [List.map_cons, List.flatten_cons]
    by_cases hcap : isCap c = true
    · rw [pg_cap hcap, fillE_app]
      have e2 : fillE env ([c] :: pg [] r) = (getC env c).getD [c] ++ fillE env (pg [] r) := by
        unfold fillE
        rw [List.map_cons, List.flatten_cons]
        unfold pieceE
        rw [getE_one]
      rw [e2, fill_pg hc r [] (fun c hc => (nomatch hc)), e1]
      have e3 : fillE env (if cur = [] then [] else [cur]) = cur := by
        split
        · rename_i e
          rw [e]
          rfl
        · unfold fillE pieceE
          rw [List.map_cons, getE_cap hc h]
          simp
      rw [e3]
      rfl
    · have hcap' := Bool.eq_false_iff.mpr hcap
      rw [pg_low hcap', fill_pg hc r (cur ++ [c]) (fun d hd => by
        rcases List.mem_append.mp hd with z | z
        · exact h d z
        · rw [List.mem_singleton.mp z]; exact hcap'), e1]
      have e4 : getC env c = none := by
        rw [← getE_one]
        exact getE_cap hc (fun d hd => by rw [List.mem_singleton.mp hd]; exact hcap')
      rw [e4]
      simp
theorem fill_same {env : Env} (hc : ∀ q ∈ env, isCap q.1 = true) (f : List Nat) : fillE env (partsOf f) = fillC env f := fill_pg hc f [] (fun c hc => (nomatch hc))
theorem fillE_len {env : Env} {L : List (List Nat)} (h : ∀ q ∈ env, L.count [q.1] ≤ 1) : (fillE env L).length ≤ L.flatten.length + (env.map (·.2.length)).sum := by
  have e : envOf (env.map fun q => (⟨q.1, 0, q.2, 0⟩ : Rb)) = env := by
    unfold envOf
    rw [List.map_map]
    exact List.map_id _
  have h1 := fillW_le (env.map fun q => (⟨q.1, 0, q.2, 0⟩ : Rb)) L (fun q hq => by
    obtain ⟨z, hz, rfl⟩ := List.mem_map.mp hq
    exact h z hz)
  rw [fillW_E, e, List.map_map] at h1
  exact h1
end Tb
namespace Tb
open PySem PySem.Spec PyProof.Rows L2 TL
theorem envK_nd {env : Env} {B : List Nat} (h : env.map (·.1) = B) (nd : B.Nodup) : ((envK env).map (·.1)).Nodup := by
  have e : (envK env).map (·.1) = B.map fun b => (Sum.inr (S [b]) : Key) := by
    rw [← h]
    unfold envK
    rw [List.map_map, List.map_map]
    rfl
  rw [e]
  exact List.Pairwise.map _ (fun a b hab z => hab (by have := key_S.mp z; injection this)) nd
theorem envK_keys (env : Env) : (envK env).map (fun kv => kV kv.1) = sgs (env.map (·.1)) := by
  unfold envK sgs
  rw [List.map_map, List.map_map]
  rfl
theorem pairs_env {K : PySem.W.Frag} {H : Hp} {vf : V → V} : ∀ {env : Env} {ts : List Addr}, Paired (fun t x => H t = some (.tup [id x, vf x])) ts (sgs (env.map (·.1))) → (∀ q ∈ env, vf (.str (S [q.1])) = .str (S q.2)) → Paired (fun p (kv : Key × V) => SqT K H p [kV kv.1, kv.2]) ts (envK env)
  | [], _, .nil, _ => .nil
  | q :: env, _, .cons h t, hv => by
    refine .cons (SqT.of ?_) (pairs_env t fun q hq => hv q (List.mem_cons_of_mem _ hq))
    rw [h, hv q List.mem_cons_self]
    rfl
theorem fil_count {B : List Nat} {fl : Fil} {b x : Nat} (hb : b ∈ B) : (fil fl b).count x ≤ ((B.map (fil fl)).flatten).count x := by
  induction B with
  | nil => exact (nomatch hb)
  | cons c B ih =>
    rw [List.map_cons, List.flatten_cons, List.count_append]
    rcases List.mem_cons.mp hb with e | e
    · rw [e]
      exact Nat.le_add_right _ _
    · exact Nat.le_trans (ih e) (Nat.le_add_left _ _)
def lawV (env : Env) (fl : Fil) : V → V := fun v => match v with | .str x => .str (S (fillC env (fil fl ((tl x).headD 0)))) | _ => .non
/-! ### drawn parts: the program and the law read alike -/
theorem fil_kept {fl : Fil} (h : Ones fl) (b : Nat) : fil (keptF fl) b = fil fl b := by
  unfold fil keptF
  have key : ∀ l : List Nat, getF ((l.map fun b => ([b], (getF fl [b]).getD [])).filter fun q => decide (q.2 ≠ [])) [b] = if b ∈ l ∧ (getF fl [b]).getD [] ≠ [] then some ((getF fl [b]).getD []) else none := by
    intro l
    induction l with
    | nil => rfl
    | cons x l ih =>
      rw [List.map_cons, List.filter_cons]
      by_cases hx : x = b
      · subst hx
        by_cases hne : (getF fl [x]).getD [] ≠ []
        · rw [if_pos (decide_eq_true hne), getF_cons, if_pos rfl, if_pos ⟨List.mem_cons_self, hne⟩]
        · rw [if_neg (fun z => hne (of_decide_eq_true z)), ih, if_neg (fun z => hne z.2), if_neg (fun z => hne z.2)]
      · have hx' : ¬ [x] = [b] := fun z => hx (by injection z)
        have hmem : (b ∈ x :: l) ↔ b ∈ l := ⟨fun z => (List.mem_cons.mp z).resolve_left fun e => hx e.symm, fun z => List.mem_cons_of_mem _ z⟩
        have hif : (if b ∈ x :: l ∧ (getF fl [b]).getD [] ≠ [] then some ((getF fl [b]).getD []) else none) = (if b ∈ l ∧ (getF fl [b]).getD [] ≠ [] then some ((getF fl [b]).getD []) else none) := by
          by_cases z : b ∈ l ∧ (getF fl [b]).getD [] ≠ []
          · rw [if_pos z, if_pos ⟨hmem.mpr z.1, z.2⟩]
          · rw [if_neg z, if_neg fun y => z ⟨hmem.mp y.1, y.2⟩]
        rw [hif]
        split
        · rw [getF_cons, if_neg hx', ih]
        · exact ih
  rw [key]
  by_cases hm : b ∈ sortN (fl.map fun q => q.1.headD 0)
  · by_cases hne : (getF fl [b]).getD [] ≠ []
    · rw [if_pos ⟨hm, hne⟩]
      rfl
    · rw [if_neg (fun z => hne z.2)]
      exact (Classical.not_not.mp hne).symm
  · rw [if_neg (fun z => hm z.1)]
    have hn : getF fl [b] = none := by
      refine getF_none fun z => ?_
      rw [heads_keys h] at z
      obtain ⟨x, hx, e⟩ := List.mem_map.mp z
      injection e with e _
      exact hm ((sortN_perm _).mem_iff.mpr (e ▸ hx))
    rw [hn]
theorem findM_kept (ms : List Mv) (c : List Nat) (a : Nat) : findM (ms.map keptM) c a = (findM ms c a).map keptM := by
  unfold findM
  rw [List.find?_map]
  rfl
theorem runE_kept {ms : List Mv} {B : List Nat} (h : ∀ m ∈ ms, Ones m.fl) : ∀ (t : List Nat) (s : List Nat × Env), runE (ms.map keptM) B s t = runE ms B s t
  | [], _ => rfl
  | a :: t, s => by
    have e : stepE (ms.map keptM) B s a = stepE ms B s a := by
      unfold stepE
      rw [findM_kept]
      cases hf : findM ms s.1 a with
      | none => rfl
      | some m =>
        have hm : m ∈ ms := by
          unfold findM at hf
          exact List.mem_of_find?_eq_some hf
        show some ((keptM m).to, B.map fun b => (b, fillE s.2 (partsOf (fil (keptF m.fl) b)))) = some (m.to, _)
        rw [List.map_congr_left fun b _ => by rw [fil_kept (h m hm)]]
        rfl
    show (stepE (ms.map keptM) B s a).bind _ = (stepE ms B s a).bind _
    rw [e]
    cases stepE ms B s a with
    | none => rfl
    | some s' => exact runE_kept h t s'
/-! ### what is sure of drawn parts -/
theorem getF_in {es : Fil} {c f : List Nat} (h : getF es c = some f) : (c, f) ∈ es := by
  unfold getF at h
  obtain ⟨q, h1, h2⟩ := Option.map_eq_some_iff.mp h
  have h3 := List.find?_some (p := fun q : List Nat × List Nat => decide (q.1 = c)) h1
  have h4 := List.mem_of_find?_eq_some h1
  have : q = (c, f) := Prod.ext (of_decide_eq_true h3) h2
  rw [← this]
  exact h4
theorem fils_of {fl : Fil} {bs : List Nat} (hk : fl.map (·.1) = bs.map fun b => [b]) (nd : bs.Nodup) : bs.map (fil fl) = fl.map (·.2) := by
  have nk : (fl.map (·.1)).Nodup := by
    rw [hk]
    exact List.Pairwise.map _ (fun a b hab z => hab (by injection z)) nd
  have e1 : fl.map (·.2) = fl.map fun q => (getF fl q.1).getD [] := List.map_congr_left fun q hq => by rw [getF_mem nk hq]; rfl
  have e2 : (fl.map fun q => (getF fl q.1).getD []) = (fl.map (·.1)).map fun k => (getF fl k).getD [] := by
    rw [List.map_map]
    rfl
  rw [e1, e2, hk, List.map_map]
  rfl
theorem GoodP.caps {pt : Pt} (g : GoodP pt) : ∀ x ∈ sortN pt.boxes, isCap x = true := fun x hx => decide_eq_true (g.bb x ((sortN_perm _).mem_iff.mp hx))
theorem GoodP.ndB {pt : Pt} (g : GoodP pt) : (sortN pt.boxes).Nodup := (sortN_perm _).nodup_iff.mpr g.bn
theorem flat_perm {a b : List Nat} (f : Nat → List Nat) (h : a.Perm b) : ((a.map f).flatten).Perm ((b.map f).flatten) := (h.map f).flatten
theorem GoodP.mvs {pt : Pt} (g : GoodP pt) : ∀ m ∈ pt.moves, MvGood (sortN pt.boxes) m := fun m hm => by
  obtain ⟨_, _, _, hk, hF⟩ := g.mv m hm
  have hp := flat_perm (fil m.fl) (sortN_perm pt.boxes)
  rw [fils_of hk g.bn] at hp
  refine ⟨fun x hx => ?_, ?_⟩
  · rw [hp.count_eq]
    exact hF.one x ((sortN_perm _).mem_iff.mp hx)
  · rw [hp.length_eq]
    exact Nat.le_trans hF.len (by decide)
theorem GoodP.ones {pt : Pt} (g : GoodP pt) : ∀ m ∈ pt.moves, Ones m.fl := fun m hm q hq => by
  obtain ⟨_, _, _, hk, _⟩ := g.mv m hm
  have : q.1 ∈ pt.boxes.map fun b => [b] := by
    rw [← hk]
    exact List.mem_map.mpr ⟨q, hq, rfl⟩
  obtain ⟨b, _, e⟩ := List.mem_map.mp this
  exact ⟨b, e.symm⟩
theorem GoodP.ends {pt : Pt} (g : GoodP pt) : ∀ c f, getF pt.ends c = some f → f.length ≤ 1000 ∧ ∀ x ∈ sortN pt.boxes, f.count x ≤ 1 := fun c f h => by
  obtain ⟨_, hF⟩ := g.en _ (getF_in h)
  have h1 := hF.len
  rw [show [f].flatten = f by simp] at h1
  refine ⟨Nat.le_trans h1 (by decide), fun x hx => ?_⟩
  have h2 := hF.one x ((sortN_perm _).mem_iff.mp hx)
  rw [show [f].flatten = f by simp] at h2
  exact h2
theorem GoodP.pg {pt : Pt} (g : GoodP pt) : PgOk (sortN pt.boxes) (pt.moves.map keptM) pt.ends where
  nB := g.ndB
  cB := g.caps
  lB := by rw [(sortN_perm _).length_eq]; exact g.b6
  fl := fun m hm q hq => by
    obtain ⟨m0, hm0, rfl⟩ := List.mem_map.mp hm
    obtain ⟨_, _, _, hk, hF⟩ := g.mv m0 hm0
    have hq' : q ∈ (sortN (m0.fl.map fun q => q.1.headD 0)).map fun b => ([b], (getF m0.fl [b]).getD []) := (List.mem_filter.mp hq).1
    obtain ⟨b, hb, rfl⟩ := List.mem_map.mp hq'
    have hb' := (sortN_perm _).mem_iff.mp hb
    have hbb : b ∈ pt.boxes := by
      obtain ⟨z, hz, e⟩ := List.mem_map.mp hb'
      have : z.1 ∈ pt.boxes.map fun b => [b] := by
        rw [← hk]
        exact List.mem_map.mpr ⟨z, hz, rfl⟩
      obtain ⟨b2, h2, e2⟩ := List.mem_map.mp this
      rw [← e2] at e
      rw [← show b2 = b from e]
      exact h2
    have h3 := fil_len (fl := m0.fl) hbb
    rw [fils_of hk g.bn] at h3
    exact Nat.le_trans h3 (Nat.le_trans hF.len (by decide))
  good := fun m hm => by
    obtain ⟨m0, hm0, rfl⟩ := List.mem_map.mp hm
    have h := g.mvs m0 hm0
    have e : (sortN pt.boxes).map (fil (keptM m0).fl) = (sortN pt.boxes).map (fil m0.fl) := List.map_congr_left fun b _ => fil_kept (g.ones m0 hm0) b
    exact ⟨by rw [e]; exact h.one, by rw [e]; exact h.len⟩
  en := g.ends
/-- the program tells what the law's own reading tells -/
theorem told_same {pt : Pt} (g : GoodP pt) (pl0 t : List Nat) : toldE (pt.moves.map keptM) (sortN pt.boxes) pt.ends pl0 t = toldE pt.moves (sortN pt.boxes) pt.ends pl0 t := by
  unfold toldE
  rw [runE_kept g.ones]
end Tb

set_option Elab.async false
set_option linter.all false
set_option maxRecDepth 100000
set_option maxHeartbeats 4000000
namespace Tb
open PySem PySem.Spec PyProof.Rows L2 TL
section
variable {P : Program} {w : World} {K : PySem.W.Frag} {mg : Str → Option Value} {base : Heap}
abbrev nLState : List Str := ["_law_parts", "_law_text", "_law_place", "_law_texts", "_law_letter", "_law_fillings", "_law_box"]
theorem scLState : FnScope nLState ["_law_parts", "_law_text"] (defScope sLState) := ⟨rfl, rfl, rfl, by decide +kernel, rfl, by decide +kernel, by decide +kernel⟩
/-- the state by the law's own reading: of any parts whose boxes are B in order -/
def spLState : Sp := fun vs H Q _ => ∃ (a : Addr) (t : List Nat) (pt : Pt) (pl0 : List Nat) (pls : List (List Nat)), vs = [.ref a, .str (S t)] ∧ PtAt H a pt ∧ pt.places = pl0 :: pls ∧ (sortN pt.boxes).Nodup ∧ (∀ x ∈ sortN pt.boxes, isCap x = true) ∧ pt.boxes.length ≤ 6 ∧ (∀ m ∈ pt.moves, MvGood (sortN pt.boxes) m) ∧ t.length ≤ 300 ∧
  match runE pt.moves (sortN pt.boxes) (pl0, (sortN pt.boxes).map fun b => (b, [])) t with
  | none => ∀ H', Same H H' → Q .non H'
  | some s => ∀ T d H', Same H H' → H' T = some (.tup [.str (S s.1), .ref d]) → H' d = some (.dK (envK s.2)) → s.2.map (·.1) = sortN pt.boxes → (s.2.map (·.2.length)).sum ≤ 1000 * t.length → Q (.ref T) H'
theorem ok_lstate {f : Addr} {fd : FuncData} {k : Nat} (F : Fun K "_law_state" "_law_state" sLState f fd) (DF : Df P w K mg base (k + 1) "_law_filled" ["_law_filling", "_law_texts"] spLFilled) (md : mg "dict" = none) (ms' : mg "sorted" = none) : FnOk P w K mg base CX0 (k + 2) f fd ["_law_parts", "_law_text"] spLState := by
  refine F.ok scLState (fun vs H Q E h => ?_) (fun cdv A outer s H vs Q E hr h => ?_)
  · obtain ⟨a, t, pt, pl0, pls, rfl, _⟩ := h
    rfl
  · obtain ⟨a, t, pt, pl0, pls, rfl, hp, hpl, nB, cB, lB, hgood, ht, q⟩ := h
    have hu := hu_of hr
    refine ⟨_, (pss_cons (ps_asg (pe_tupS (pa_cons (pe_ix ix_list (pe_ix ix_list (pv 0) pe_int (fun _ _ => rfl)) pe_int (fun _ _ => rfl)) (pa_cons (pe_callTy (call_dictS rfl) (by rfl) md (by decide +kernel) (pa_cons (pe_lc (own := [("_law_box", 6)]) (g := gName 6) (tt := tYes) (te := tTupS (tCons (tVar 6) (tCons (tC (.str "")) tNil))) rfl scLState.nd (pi_list (pe_callB (call_sortStr rfl) (by rfl) ms' (by decide +kernel) (pa_cons (pe_ix ix_list (pv 0) pe_int (fun _ _ => rfl)) pa_nil))) (blkOk_by (own := [("_law_box", 6)]) (N := nLState) (sc := defScope sLState) (by decide +kernel)) (fun _ _ _ _ _ => pg_name (i := 6) scLState.nd rfl (.inl rfl)) (fun _ _ _ _ _ => pts_nil) (fun _ _ _ _ _ => pe_tupS (pa_cons (pv 6) (pa_cons pe_str pa_nil)))) pa_nil)) pa_nil))) (pg_tup rfl (pgs_cons (pg_name (i := 2) scLState.nd rfl (.inl rfl)) (pgs_cons (pg_name (i := 3) scLState.nd rfl (.inr rfl)) pgs_nil)))) (pss_cons (ps_for PassesOwn.never rfl (pi_str (pv 1)) (pg_name (i := 4) scLState.nd rfl (.inl rfl)) (pss_cons (ps_if (pt_cmp (pc_dnotin hu (pe_tupS (pa_cons (pv 2) (pa_cons (pv 4) pa_nil))) (pe_ix ix_list (pv 0) pe_int (fun _ _ => rfl)))) (pss_one (ps_ret pe_non)) pss_nil) (pss_cons (ps_asg (pe_dget hu (pe_ix ix_list (pv 0) pe_int (fun _ _ => rfl)) (pe_tupS (pa_cons (pv 2) (pa_cons (pv 4) pa_nil))) (fun _ _ => rfl)) (pg_tup rfl (pgs_cons (pg_name (i := 2) scLState.nd rfl (.inl rfl)) (pgs_cons (pg_name (i := 5) scLState.nd rfl (.inr rfl)) pgs_nil)))) (pss_one (ps_set (i := 3) scLState.nd rfl (.inr rfl) (pe_callTy (call_dictS rfl) (by rfl) md (by decide +kernel) (pa_cons (pe_lock (pe_lc (own := [("_law_box", 6)]) (g := gName 6) (tt := tYes) (te := tTupS (tCons (tVar 6) (tCons (tCall spLFilled [] E0 (tCons (tDGet2 (tVar 5) (tVar 6) (tC (.str ""))) (tCons (tVar 3) tNil))) tNil))) rfl scLState.nd (pi_keys (pv 3)) (blkOk_by (own := [("_law_box", 6)]) (N := nLState) (sc := defScope sLState) (by decide +kernel)) (fun _ _ _ _ _ => pg_name (i := 6) scLState.nd rfl (.inl rfl)) (fun _ _ _ _ _ => pts_nil) (fun _ _ _ _ _ => pe_tupS (pa_cons (pv 6) (pa_cons (pe_df DF hr (pa_cons (pe_dget2 hu (pv 5) (pv 6) pe_str ⟨rfl, rfl, rfl, rfl⟩) (pa_cons (pv 3) pa_nil))) pa_nil))))) pa_nil))))))) (pss_one (ps_ret (pe_tupS (pa_cons (pv 2) (pa_cons (pv 3) pa_nil))))))), ?_⟩
    obtain ⟨tp, tm, te, kvs, hL, hplc, hm, hmv, hte⟩ := hp.ex
    have l64 : pt.boxes.length < 64 := by omega
    have lBs : (sortN pt.boxes).length ≤ 6 := by rw [(sortN_perm _).length_eq]; exact lB
    generalize hB : sortN pt.boxes = B at nB cB hgood q lBs
    have hp0 : (txs pt.places)[0]? = some (.str (S pl0)) := by rw [hpl]; rfl
    refine ⟨_, rfl, a, _, 2, _, rfl, rfl, SqL.of hL, atI_nat (j := 2) rfl, tp, _, 0, _, rfl, rfl, SqL.of hplc, atI_nat (j := 0) hp0, ?_⟩
    refine ⟨_, rfl, a, _, 1, _, rfl, rfl, SqL.of hL, atI_nat (j := 1) rfl, pt.boxes, rfl, l64, fun ys hpm hss Lx H1 s1 n1 e1 => ?_⟩
    have ey := sorted_signs hpm hss
    subst ey
    have e1' : H1 Lx = some (.lst (sgs B)) := by
      rw [e1, hB]
      unfold sgs
      rw [List.map_map]
      rfl
    have lsg : (sgs B).length < sizeLine := by
      unfold sgs
      rw [List.length_map]
      exact small1000 (by omega)
    refine ⟨Lx, rfl, ⟨_, SqL.of e1'⟩, fun D nD => lc_pairsW (xs := sgs B) id (fun _ => .str (S [])) walk_list rfl (fun i H x H' y => ⟨y.1, y.2⟩) (fun H' s' => SqL.of (s' _ _ e1')) nD lsg (fun x hx H' R s' hN => ?_) (fun H2 ts s2 e2 hpair => ?_)⟩
    · refine ⟨_, rfl, by show 2 ≤ sizeLine; decide, ?_⟩
      rw [str_empty]
      exact hN
    have env0k : (B.map fun b => (b, ([] : List Nat))).map (·.1) = B := by
      rw [List.map_map]
      exact List.map_id _
    have hpair0 : Paired (fun p (kv : Key × V) => SqT K H2 p [kV kv.1, kv.2]) ts (envK (B.map fun b => (b, []))) := pairs_env (by rw [env0k]; exact hpair) fun q hq => by
      obtain ⟨b, _, rfl⟩ := List.mem_map.mp hq
      rfl
    refine ⟨D, ts, envK (B.map fun b => (b, [])), rfl, SqL.of e2, hpair0, fun d0 H3 s3 n3 e3 => ⟨by show 2 ≤ sizeLine; decide, fun T0 H4 s4 n4 e4 => ?_⟩⟩
    rw [merge_new _ [] (by rw [List.nil_append]; exact envK_nd env0k nB), List.nil_append] at e3
    have s14 := (s1.trans (s2.trans s3)).trans s4
    have nd0 : H d0 = none := s1.free (s2.free n3)
    refine ⟨T0, _, rfl, SqT.of e4, rfl, _, _, rfl, _, _, rfl, rfl, ?_⟩
    refine ⟨_, rfl, S t, rfl, for_it (walk_str (z := S t)) (fun j σ H' => ∃ (c : List Nat) (d : Addr) (env : Env) (v4 v5 : Option V), σ = [some (.ref a), some (.str (S t)), some (.str (S c)), some (.ref d), v4, v5, none] ∧ Same H H' ∧ H d = none ∧ H' d = some (.dK (envK env)) ∧
        runE pt.moves B (pl0, B.map fun b => (b, [])) (t.take j) = some (c, env) ∧ env.map (·.1) = B ∧ (env.map (·.2.length)).sum ≤ 1000 * j)
      ⟨pl0, d0, B.map fun b => (b, []), none, none, rfl, s14, nd0, s4 _ _ e3, rfl, env0k, ?_⟩ (fun _ _ _ _ _ => trivial) ?_ ?_⟩
    · have : ∀ l : List Nat, ((l.map fun b => (b, ([] : List Nat))).map (·.2.length)).sum = 0 := by
        intro l
        induction l with
        | nil => rfl
        | cons x l ih =>
          rw [List.map_cons, List.map_cons, List.sum_cons, ih]
          rfl
      rw [this]
      exact Nat.zero_le _
    · rintro j x σ H5 H5' hj ⟨c, d, env, v4, v5, rfl, s5, nd5, hd, hrun, hk, hW⟩ ⟨rfl, a', ha, rfl⟩
      have ha' : t[j]? = some a' := by
        rw [show (S t).cps = t.toArray from rfl, List.getElem?_toArray] at ha
        exact ha
      have hjt : j < t.length := (List.getElem?_eq_some_iff.mp ha').1
      have etake : t.take (j + 1) = t.take j ++ [a'] := by
        rw [List.take_add_one, ha']
        rfl
      have erun : runE pt.moves B (pl0, B.map fun b => (b, [])) (t.take (j + 1)) = stepE pt.moves B (c, env) a' := by
        rw [etake, runE_app, hrun]
        show (stepE pt.moves B (c, env) a').bind (fun s' => some s') = _
        cases stepE pt.moves B (c, env) a' <;> rfl
      refine ⟨_, rfl, _, rfl, by show 2 ≤ sizeLine; decide, fun kT H6 s6 n6 e6 => ?_⟩
      have s56 := s5.trans s6
      refine ⟨_, rfl, a, _, 3, _, rfl, rfl, SqL.of (s56 _ _ hL), atI_nat (j := 3) rfl, tm, _, rfl, DGet.t (k := mkey c a') (s56 _ _ hm) e6, _, rfl, ?_⟩
      have hv := val_moves (pl := c) (c := a') hmv
      cases hf : findM pt.moves c a' with
      | none =>
        rw [hf] at hv
        have hv' : valV kvs (mkey c a') = none := hv
        rw [hv']
        refine iteT ?_
        have hnone : runE pt.moves B (pl0, B.map fun b => (b, [])) t = none := by
          have e1 : t = t.take (j + 1) ++ t.drop (j + 1) := (List.take_append_drop _ _).symm
          rw [e1, runE_app, erun]
          unfold stepE
          rw [hf]
          rfl
        rw [hnone] at q
        exact q H6 s56
      | some m =>
        rw [hf] at hv
        obtain ⟨tt, fd', hv', htt, hfd⟩ := hv
        rw [hv']
        have hmm : m ∈ pt.moves := by
          unfold findM at hf
          exact List.mem_of_find?_eq_some hf
        have hMg := hgood m hmm
        refine iteF ⟨_, rfl, a, _, 3, _, rfl, rfl, SqL.of (s56 _ _ hL), atI_nat (j := 3) rfl, _, rfl, _, rfl, by show 2 ≤ sizeLine; decide, fun kT2 H7 s7 n7 e7 => ?_⟩
        have s57 := s56.trans s7
        refine ⟨tm, .ref tt, rfl, hv' ▸ DGet.t (k := mkey c a') (s57 _ _ hm) e7, tt, _, rfl, SqT.of (s57 _ _ htt), rfl, _, _, rfl, _, _, rfl, rfl, ?_⟩
        have hd7 := s7 _ _ (s6 _ _ hd)
        have nfd : fd' ≠ d := fun z => by rw [← z, hfd] at nd5; cases nd5
        have capE : ∀ q ∈ env, isCap q.1 = true := fun q hq => cB _ (by rw [← hk]; exact List.mem_map.mpr ⟨q, hq, rfl⟩)
        have inB : ∀ q ∈ env, q.1 ∈ B := fun q hq => by rw [← hk]; exact List.mem_map.mpr ⟨q, hq, rfl⟩
        refine ⟨d, _, hd7, trivial, fun od => ⟨_, rfl, d, od, rfl, .inl ⟨envK env, upd_same, fun D2 nD2 => ?_⟩⟩⟩
        have hfdl : (upd H7 d (.frz od (.dK (envK env)))) fd' = some (.dK (fkv m.fl)) := by rw [upd_ne nfd]; exact s57 _ _ hfd
        have hdl : (upd H7 d (.frz od (.dK (envK env)))) d = some (.frz od (.dK (envK env))) := upd_same
        have nD2d : D2 ≠ d := fun z => by rw [z, upd_same] at nD2; cases nD2
        generalize hHl : upd H7 d (.frz od (.dK (envK env))) = Hl at nD2 hfdl hdl
        have lenE : (envK env).length = (sgs B).length := by
          unfold envK sgs
          rw [List.length_map, List.length_map, ← hk, List.length_map]
        refine lc_pairsW (xs := sgs B) id (lawV env m.fl) walk_keys lenE (fun i H x H' y => ?_) (fun H' s' => s' _ _ hdl) nD2 lsg (fun x hx H' R s' hN => ?_) (fun H8 ts2 s8 e8 hpair8 => ?_)
        · obtain ⟨e, k', v', hk', ex⟩ := y
          refine ⟨e, ?_⟩
          rw [← hk, ← envK_keys, List.getElem?_map, hk', ex]
          rfl
        · obtain ⟨b, hb, rfl⟩ := List.mem_map.mp hx
          refine ⟨_, rfl, _, rfl, fd', rfl, .inl ⟨_, .inl (s' _ _ hfdl)⟩, _, rfl, _, DGet.k (k := Sum.inr (S [b])) (s' _ _ hfdl), ?_⟩
          rw [val_fkv]
          have ev : ((getF m.fl [b]).map fun f => V.str (S f)).getD (.str (Str.ofString "")) = .str (S (fil m.fl b)) := by
            unfold fil
            rw [str_empty]
            cases getF m.fl [b] <;> rfl
          rw [ev]
          have h1 := fil_len (fl := m.fl) hb
          have h2 := hMg.len
          have h3 := fillE_len (env := env) (L := partsOf (fil m.fl b)) (fun q hq => by
            rw [parts_count (capE q hq)]
            exact Nat.le_trans (fil_count hb) (hMg.one _ (inB q hq)))
          rw [parts_flat, fill_same capE] at h3
          refine ⟨_, rfl, fil m.fl b, d, env, rfl, .inr ⟨od, s' _ _ hdl⟩, by omega, by omega, fun H'' s'' => ⟨by show 2 ≤ sizeLine; decide, fun p3 H3' s3' n3' e3' => hN p3 H3' (s''.trans s3') (s''.free n3') e3'⟩⟩
        · have hd8 := s8 _ _ hdl
          have sH : Same H7 (upd H8 d (.dK (envK env))) := same_unlock hd7 (by rw [hHl]; exact s8)
          refine ⟨hd8, D2, ts2, envK (B.map fun b => (b, fillC env (fil m.fl b))), rfl, SqL.of (by rw [upd_ne nD2d]; exact e8), ?_, fun dn H9 s9 n9 e9 => ?_⟩
          · have hk2 : (B.map fun b => (b, fillC env (fil m.fl b))).map (·.1) = B := by
              rw [List.map_map]
              exact List.map_id _
            refine pairs_env (vf := lawV env m.fl) (by
              rw [hk2]
              refine Paired.mono (fun t x h => ?_) hpair8
              rw [upd_ne (ne_of h hd8 (by intro z; cases z))]
              exact h) fun q hq => by
                obtain ⟨b, _, rfl⟩ := List.mem_map.mp hq
                rfl
          · have hk2 : (B.map fun b => (b, fillC env (fil m.fl b))).map (·.1) = B := by
              rw [List.map_map]
              exact List.map_id _
            rw [merge_new _ [] (by rw [List.nil_append]; exact envK_nd hk2 nB), List.nil_append] at e9
            have s79 := sH.trans s9
            refine ⟨m.to, dn, B.map fun b => (b, fillC env (fil m.fl b)), _, _, rfl, s57.trans s79, s57.free (sH.free n9), e9, ?_, hk2, ?_⟩
            · rw [erun]
              unfold stepE
              rw [hf]
              show some (m.to, B.map fun b => (b, fillE env (partsOf (fil m.fl b)))) = _
              rw [List.map_congr_left fun b _ => by rw [fill_same capE]]
            · have hcnt : ∀ q ∈ env, (allP B m.fl).count [q.1] ≤ 1 := fun q hq => by
                rw [allP_count (capE q hq)]
                exact hMg.one _ (inB q hq)
              have h6 := fillE_len (env := env) hcnt
              have h8 := hMg.len
              rw [← sumE, allP_flat] at h6
              rw [List.map_congr_left (g := fun b => (b, fillE env (partsOf (fil m.fl b)))) fun b _ => by rw [fill_same capE]]
              omega
    · rintro σ H5 ⟨c, d, env, v4, v5, rfl, s5, nd5, hd, hrun, hk, hW⟩
      have lsz : (S t).cps.size = t.length := rfl
      rw [lsz] at hrun hW
      rw [List.take_length] at hrun
      rw [hrun] at q
      exact ⟨_, rfl, _, rfl, by show 2 ≤ sizeLine; decide, fun T' H6 s6 n6 e6 => q T' d H6 (s5.trans s6) e6 (s6 _ _ hd) hk hW⟩
end
end Tb

set_option Elab.async false
set_option linter.all false
set_option maxRecDepth 100000
set_option maxHeartbeats 4000000
namespace Tb
open PySem PySem.Spec PyProof.Rows L2 TL
section
variable {P : Program} {w : World} {K : PySem.W.Frag} {mg : Str → Option Value} {base : Heap}
abbrev nLTold : List Str := ["_law_parts", "_law_text", "_law_state_here"]
theorem scLTold : FnScope nLTold ["_law_parts", "_law_text"] (defScope sLTold) := ⟨rfl, rfl, rfl, by decide +kernel, rfl, by decide +kernel, by decide +kernel⟩
def spLTold : Sp := fun vs H Q _ => ∃ (a : Addr) (t : List Nat) (pt : Pt) (pl0 : List Nat) (pls : List (List Nat)), vs = [.ref a, .str (S t)] ∧ PtAt H a pt ∧ pt.places = pl0 :: pls ∧ (sortN pt.boxes).Nodup ∧ (∀ x ∈ sortN pt.boxes, isCap x = true) ∧ pt.boxes.length ≤ 6 ∧ (∀ m ∈ pt.moves, MvGood (sortN pt.boxes) m) ∧ t.length ≤ 300 ∧
  (∀ c f, getF pt.ends c = some f → f.length ≤ 1000 ∧ ∀ x ∈ sortN pt.boxes, f.count x ≤ 1) ∧ ∀ H', Same H H' → Q (optV (toldE pt.moves (sortN pt.boxes) pt.ends pl0 t)) H'
theorem ok_ltold {f : Addr} {fd : FuncData} {k : Nat} (F : Fun K "_law_told" "_law_told" sLTold f fd) (DS : Df P w K mg base (k + 2) "_law_state" ["_law_parts", "_law_text"] spLState) (DF : Df P w K mg base (k + 1) "_law_filled" ["_law_filling", "_law_texts"] spLFilled) : FnOk P w K mg base CX0 (k + 3) f fd ["_law_parts", "_law_text"] spLTold := by
  refine F.ok scLTold (fun vs H Q E h => ?_) (fun cdv A outer s H vs Q E hr h => ?_)
  · obtain ⟨a, t, pt, pl0, pls, rfl, _⟩ := h
    rfl
  · obtain ⟨a, t, pt, pl0, pls, rfl, hp, hpl, nB, cB, lB, hgood, ht, hen, q⟩ := h
    have hu := hu_of hr
    refine ⟨_, pss_cons (ps_set (i := 2) scLTold.nd rfl (.inl rfl) (pe_df DS hr (pa_cons (pv 0) (pa_cons (pv 1) pa_nil))))
      (pss_cons (ps_if (PW.pt (pw_or (pt_cmpR op_isN (pv 2) pe_non (nomark _)) (pw_or1 (pt_cmp (pc_dnotin hu (pe_ix ix_tup (pv 2) pe_int (fun _ _ => rfl)) (pe_ix ix_list (pv 0) pe_int (fun _ _ => rfl))))))) (pss_one (ps_ret pe_non)) pss_nil)
      (pss_one (ps_ret (pe_df DF hr (pa_cons (pe_dget hu (pe_ix ix_list (pv 0) pe_int (fun _ _ => rfl)) (pe_ix ix_tup (pv 2) pe_int (fun _ _ => rfl)) (fun _ _ => rfl)) (pa_cons (pe_ix ix_tup (pv 2) pe_int (fun _ _ => rfl)) pa_nil)))))), ?_⟩
    refine ⟨_, rfl, _, rfl, a, t, pt, pl0, pls, rfl, hp, hpl, nB, cB, lB, hgood, ht, ?_⟩
    unfold toldE at q
    cases hrun : runE pt.moves (sortN pt.boxes) (pl0, (sortN pt.boxes).map fun b => (b, [])) t with
    | none =>
      rw [hrun] at q
      exact fun H' s' => ⟨_, rfl, rfl, _, rfl, iteT (iteT (q H' s'))⟩
    | some st =>
      rw [hrun] at q
      intro T d H1 s1 e1 ed hk hW
      obtain ⟨tp, tm, te, kvs, hL, hplc, hm, hmv, hte⟩ := (hp.same s1).ex
      have ix0 : ([V.str (S st.1), .ref d])[0]? = some (.str (S st.1)) := rfl
      refine ⟨_, rfl, rfl, _, rfl, iteF ⟨_, rfl, T, _, 0, _, rfl, rfl, SqT.of e1, atI_nat (j := 0) rfl, _, rfl, a, _, 4, _, rfl, rfl, SqL.of hL, atI_nat (j := 4) rfl, te, _, rfl, DGet.k (k := Sum.inr (S st.1)) hte, _, rfl, ?_⟩⟩
      have hq := q H1 s1
      rw [show (some st).bind (fun s => (getF pt.ends s.1).map fun f => fillE s.2 (partsOf f)) = (getF pt.ends st.1).map fun f => fillE st.2 (partsOf f) from rfl] at hq q
      rw [val_fkv]
      cases hg : getF pt.ends st.1 with
      | none =>
        rw [hg] at hq
        exact iteT hq
      | some f =>
        obtain ⟨lf, cf⟩ := hen _ _ hg
        have hv : valV (fkv pt.ends) (Sum.inr (S st.1)) = some (.str (S f)) := by rw [val_fkv, hg]; rfl
        have inB : ∀ q ∈ st.2, q.1 ∈ sortN pt.boxes := fun q hq => by rw [← hk]; exact List.mem_map.mpr ⟨q, hq, rfl⟩
        have capE : ∀ q ∈ st.2, isCap q.1 = true := fun q hq => cB _ (inB q hq)
        have h3 := fillE_len (env := st.2) (L := partsOf f) (fun q hq => by
          rw [parts_count (capE q hq)]
          exact cf _ (inB q hq))
        rw [parts_flat, fill_same capE] at h3
        refine iteF ⟨_, rfl, a, _, 4, _, rfl, rfl, SqL.of hL, atI_nat (j := 4) rfl, _, rfl, T, _, 0, _, rfl, rfl, SqT.of e1, atI_nat (j := 0) rfl, te, _, rfl, hv ▸ DGet.k (k := Sum.inr (S st.1)) hte, _, rfl, T, _, 1, _, rfl, rfl, SqT.of e1, atI_nat (j := 1) rfl, ?_⟩
        refine ⟨f, d, st.2, rfl, .inl ed, by omega, by omega, fun H2 s2 => ?_⟩
        have h4 := q H2 (s1.trans s2)
        rw [hg] at h4
        rw [← fill_same capE]
        exact h4
end
end Tb

set_option Elab.async false
set_option linter.all false
set_option maxRecDepth 100000
set_option maxHeartbeats 2000000
/-! tuples that hold dicts: == and != -/
namespace PySem.SeqAt
open AutoSeq1 (wpAny_loadPart')
open MeetsSeq MeetsSeq2 MeetsSeq3 SeqRoads2
section
variable {prog : Program} {w : World}
theorem tuple_neIn (l b : Addr) (items items2 : Array Value) (n n2 : Nat) (dd dd2 : Option Addr) (sl sl2 : Array (Option Value)) (e : Nat → Bool) :
    MeetsIn prog w (Builtin.«tuple.__ne__» ⟨[.ref l, .ref b], []⟩)
      (fun A R s => s.heap.get? l = some { cls := .type "tuple", dict := dd, data := .seq items n, slots := sl } ∧ s.heap.get? b = some { cls := .type "tuple", dict := dd2, data := .seq items2 n2, slots := sl2 } ∧
        (∀ j (h1 : j < items.size) (h2 : j < items2.size), EqIn prog w A.in1 s items[j] items2[j] (e j)) ∧
        R (.ok (.ret (.bool (!((List.range (min items.size items2.size)).all e && items.size == items2.size))))) s) :=
  .of_wp fun A R s h => by
    obtain ⟨hp, g, d, tk, os⟩ := s; obtain ⟨hl, hb, he, h⟩ := h
    have f2 := AutoSeq1.sub_tuple_tuple
    have hZ : (items.toList.zip items2.toList).length = min items.size items2.size := by simp
    wp_walk using wpAny_loadPart' hl, wpAny_loadPart' hb, wpAny_forIn_list _ (fun rest b s' => b.1 = none ∧ s' = ⟨hp, g, d, tk, os⟩ ∧ ∃ i, rest = (items.toList.zip items2.toList).drop i ∧
      R (.ok (.ret (.bool (!(((List.range (min items.size items2.size)).drop i).all e && items.size == items2.size))))) ⟨hp, g, d, tk, os⟩) _
    case turn =>
      rintro ⟨y, x⟩ rest b s' ⟨hb', rfl, i, hz, hR⟩
      have hlt : i < (items.toList.zip items2.toList).length := by
        rcases Nat.lt_or_ge i (items.toList.zip items2.toList).length with h' | h'
        · exact h'
        · rw [List.drop_of_length_le h'] at hz; cases hz
      have hm : i < min items.size items2.size := hZ ▸ hlt
      have h1 : i < items.size := Nat.lt_of_lt_of_le hm (Nat.min_le_left _ _)
      have h2 : i < items2.size := Nat.lt_of_lt_of_le hm (Nat.min_le_right _ _)
      rw [List.drop_eq_getElem_cons hlt] at hz
      injection hz with hyx hrest
      have hy : y = items[i] := by have := congrArg Prod.fst hyx; simpa using this
      have hx : x = items2[i] := by have := congrArg Prod.snd hyx; simpa using this
      subst hy hx
      have hd : (List.range (min items.size items2.size)).drop i = i :: (List.range (min items.size items2.size)).drop (i + 1) := by simp [List.drop_eq_getElem_cons, hm]
      rw [hd, List.all_cons] at hR
      refine wpAny_bind (he i h1 h2 _ _ ?_)
      cases hy : e i with
      | true =>
        rw [hy] at hR
        wp_walk
        exact ⟨rfl, rfl, i + 1, hrest, by simpa using hR⟩
      | false =>
        rw [hy] at hR
        wp_walk
        exact ⟨_, rfl, by simpa using hR⟩
    case fin =>
      rintro ⟨b1, b2⟩ s' ⟨hb', rfl, i, hz, hR⟩
      simp only at hb'
      subst hb'
      have hge : min items.size items2.size ≤ i := by
        rcases Nat.lt_or_ge i (items.toList.zip items2.toList).length with h' | h'
        · rw [List.drop_eq_getElem_cons h'] at hz; cases hz
        · exact hZ ▸ h'
      rw [List.drop_of_length_le (by simpa using hge)] at hR
      wp_walk
      exact ⟨_, rfl, by simpa [Builtin.Tuple.tupleCompareSizes, bne] using hR⟩
    case h =>
      exact ⟨rfl, rfl, 0, rfl, by simpa using h⟩
end
section
variable {prog : Program} {w : World} {A : Around} {s : Shared}
theorem rneIn_tuples {E : Value → Shared → Prop} {l b : Addr} {items items2 : Array Value} {e : Nat → Bool} {Q : Value → Shared → Prop} (hl : s.heap.IsTuple l items) (hb : s.heap.IsTuple b items2) (hu : A.units < cLine)
    (he : ∀ j (h1 : j < items.size) (h2 : j < items2.size), EqIn prog w A.in1 s items[j] items2[j] (e j)) (h : Q (.bool (!((List.range (min items.size items2.size)).all e && items.size == items2.size))) s) :
    wpAny (model prog w) A (richCompare .NotEq (.ref l) (.ref b)) Q E s := by
  obtain ⟨⟨cls, dd, data, sl⟩, ho, hc, n, hd⟩ := id hl
  obtain ⟨⟨cls2, dd2, data2, sl2⟩, ho2, hc2, n2, hd2⟩ := id hb
  simp only at hc hd hc2 hd2
  subst hc hd hc2 hd2
  exact wpAny_richCompare_same_room (T := "tuple") (op := .NotEq) ⟨_, ho, rfl⟩ ⟨_, ho2, rfl⟩ F.slot_tuple_ne (call_meetsIn F.slot_tuple_ne ⟨_, ho, rfl⟩ F.entry_tuple_ne (F.args_tuple_ne_2 _ _) (tuple_neIn l b items items2 n n2 dd dd2 sl sl2 e)
    ⟨ho, ho2, he, show Value.bool (!((List.range (min items.size items2.size)).all e && items.size == items2.size)) ≠ Value.notImplemented ∧ Q (.bool (!((List.range (min items.size items2.size)).all e && items.size == items2.size))) s from ⟨(fun x => nomatch x), h⟩⟩) hu
end
end PySem.SeqAt
namespace PySem.W
open PySem PySem.Calls PyProof.Rows PyProof.V PySem.Spec
section
variable {prog : Program} {w : World} {A : Around} {E : Value → Shared → Prop} {s : Shared}
theorem ne_tuplesT {n : Nat} {l l' : Addr} {vs vs' : Array Value} {e : Nat → Bool} {Q : Value → Shared → Prop} (hl : s.heap.IsTuple l vs) (hl' : s.heap.IsTuple l' vs')
    (t : ∀ j (h1 : j < vs.size) (h2 : j < vs'.size), EqTree prog w s n vs[j] vs'[j] (e j)) (hu : A.units + (n + 1) < cLine) (h : Q (.bool (!((List.range (min vs.size vs'.size)).all e && vs.size == vs'.size))) s) :
    wpAny (model prog w) A (compareOp .NotEq (.ref l) (.ref l')) Q E s :=
  SeqAt.rneIn_tuples hl hl' (by omega) (fun j h1 h2 => (t j h1 h2).at A.in1 (by show A.units + 1 + _ < cLine; omega)) h
end
end PySem.W

set_option Elab.async false
set_option linter.all false
set_option maxRecDepth 100000
set_option maxHeartbeats 2000000
/-! data at any depth, dicts among them, that are equal -/
namespace Tb
open PySem PySem.Spec PyProof.Rows L2
/-- x and y are equal, and this is seen at most n deep -/
inductive DEq (H : Hp) : Nat → V → V → Prop
  | flat {n : Nat} {x : V} : flatB x = true → DEq H n x x
  | tup {n : Nat} {a b : Addr} {xs ys : List V} : Rd H a (.tup xs) → Rd H b (.tup ys) → xs.length = ys.length → (∀ (j : Nat) (x y : V), xs[j]? = some x → ys[j]? = some y → DEq H n x y) → DEq H (n + 1) (.ref a) (.ref b)
  | lst {n : Nat} {a b : Addr} {xs ys : List V} : Rd H a (.lst xs) → Rd H b (.lst ys) → xs.length = ys.length → (∀ (j : Nat) (x y : V), xs[j]? = some x → ys[j]? = some y → DEq H n x y) → DEq H (n + 1) (.ref a) (.ref b)
  | dK {n : Nat} {a b : Addr} {ks ls : List (Key × V)} : Rd H a (.dK ks) → Rd H b (.dK ls) → ks.length = ls.length → (∀ p ∈ ks, (valV ls p.1).isSome = true) → (∀ (p : Key × V) (y : V), p ∈ ks → valV ls p.1 = some y → DEq H n p.2 y) → DEq H (n + 1) (.ref a) (.ref b)
theorem DEq.two {H : Hp} {n : Nat} {a b : Addr} {x1 x2 y1 y2 : V} (ha : Rd H a (.tup [x1, x2])) (hb : Rd H b (.tup [y1, y2])) (h1 : DEq H n x1 y1) (h2 : DEq H n x2 y2) : DEq H (n + 1) (.ref a) (.ref b) :=
  .tup ha hb rfl fun j x y e1 e2 => by
    match j, e1, e2 with
    | 0, e1, e2 => cases e1; cases e2; exact h1
    | 1, e1, e2 => cases e1; cases e2; exact h2
section
variable {X : Cx} {pins : List (Addr × Obj)} {σ : L2.St} {H : Hp} {s : Shared}
theorem ix_of {xs : List V} {its : List Value} (r : Vals xs its) {j : Nat} (h : j < its.toArray.size) : ∃ x, xs[j]? = some x ∧ RelV x its.toArray[j] := by
  have h' : j < xs.length := by rw [r.length]; simpa using h
  obtain ⟨u, hu, ru⟩ := r.get (List.getElem?_eq_getElem h')
  have : its.toArray[j] = u := by
    have e : its[j]? = some its.toArray[j] := by simp at h ⊢
    rw [e] at hu
    exact Option.some.inj hu
  exact ⟨_, List.getElem?_eq_getElem h', by rw [this]; exact ru⟩
theorem all_true (n : Nat) : ((List.range n).all fun _ => true) = true := by simp
theorem DEq.tree (I : Inv X pins σ H s) {n : Nat} {x y : V} (t : DEq H n x y) : ∀ {v u : Value}, RelV x v → RelV y u → PySem.W.EqTree X.prog X.w s n v u true := by
  induction t with
  | flat hf => exact fun rx ry => .leaf fun A _ => eqAt_same rx ry hf
  | @tup n a b xs ys ha hb hl hx ih =>
    intro v u rx ry
    obtain rfl : v = Value.ref a := rx
    obtain rfl : u = Value.ref b := ry
    by_cases hab : a = b
    · rw [hab]
      exact .same
    obtain ⟨_, its, r1, p1⟩ := (show ObjOk X.prog X.w H s.heap a (.tup xs) from ha.ok I.hok)
    obtain ⟨_, its2, r2, p2⟩ := (show ObjOk X.prog X.w H s.heap b (.tup ys) from hb.ok I.hok)
    have q := PySem.W.EqTree.tuples (prog := X.prog) (w := X.w) (s := s) (n := n) (e := fun _ => true) hab (show s.heap.IsTuple a its.toArray from p1) (show s.heap.IsTuple b its2.toArray from p2) fun j h1 h2 => by
      obtain ⟨x, e1, rx⟩ := ix_of r1 h1
      obtain ⟨y, e2, ry⟩ := ix_of r2 h2
      exact ih j x y e1 e2 rx ry
    have hs : (its.toArray.size == its2.toArray.size) = true := by
      rw [List.size_toArray, List.size_toArray, ← r1.length, ← r2.length, hl]
      exact beq_self_eq_true _
    rw [all_true, hs] at q
    exact q
  | @lst n a b xs ys ha hb hl hx ih =>
    intro v u rx ry
    obtain rfl : v = Value.ref a := rx
    obtain rfl : u = Value.ref b := ry
    by_cases hab : a = b
    · rw [hab]
      exact .same
    obtain ⟨_, its, n1, r1, e1⟩ := (show ObjOk X.prog X.w H s.heap a (.lst xs) from ha.ok I.hok)
    obtain ⟨_, its2, n2, r2, e2⟩ := (show ObjOk X.prog X.w H s.heap b (.lst ys) from hb.ok I.hok)
    have hs : its.toArray.size = its2.toArray.size := by
      rw [List.size_toArray, List.size_toArray, ← r1.length, ← r2.length, hl]
    have q := PySem.W.EqTree.lists (prog := X.prog) (w := X.w) (s := s) (n := n) (e := fun _ => true) hab ⟨_, e1, rfl, _, rfl⟩ ⟨_, e2, rfl, _, rfl⟩ hs fun j h1 h2 => by
      obtain ⟨x, e1, rx⟩ := ix_of r1 h1
      obtain ⟨y, e2, ry⟩ := ix_of r2 h2
      exact ih j x y e1 e2 rx ry
    rw [all_true] at q
    exact q
  | @dK n a b ks ls ha hb hl hx _ ih =>
    intro v u rx ry
    obtain rfl : v = Value.ref a := rx
    obtain rfl : u = Value.ref b := ry
    by_cases hab : a = b
    · rw [hab]
      exact .same
    obtain ⟨_, ya, va, ra, da⟩ := dk_rd I.hok ha
    obtain ⟨_, yb, vb, rb, db⟩ := dk_rd I.hok hb
    have hit : ∀ k v, (k, v) ∈ va → ∃ p ∈ ks, p.1 = k ∧ RelV p.2 v := by
      intro k v hm
      obtain ⟨j, e1⟩ := List.mem_iff_getElem?.mp hm
      have hlt : j < ks.length := by rw [ra.length]; exact (List.getElem?_eq_some_iff.mp e1).1
      obtain ⟨q, hq, h1, h2⟩ := LiI.paired_get (show Paired _ ks va from ra) (List.getElem?_eq_getElem hlt)
      rw [e1] at hq
      obtain rfl := Option.some.inj hq
      exact ⟨ks[j], List.getElem_mem hlt, h1, h2⟩
    have q := PySem.W.EqTree.dicts (prog := X.prog) (w := X.w) (s := s) (knd := mixKind X.prog X.w) (n := n) (e := fun _ => true) hab ya yb da db fun k v z hm hv => by
      obtain ⟨p, hp, e1, r1⟩ := hit k v hm
      obtain ⟨y, hy⟩ := Option.isSome_iff_exists.mp (hx p hp)
      have rr : RelO (some y) (valueAt vb p.1) := by rw [← hy]; exact rb.val _
      obtain ⟨z', hz, rz⟩ := rr.some_of
      rw [e1, hv] at hz
      obtain rfl := Option.some.inj hz
      exact ih p y hp hy r1 rz
    have hs : (va.length == vb.length) = true := by
      rw [← ra.length, ← rb.length, hl]
      exact beq_self_eq_true _
    have h2 : (va.all fun p => (valueAt vb p.1).isSome && true) = true := by
      rw [List.all_eq_true]
      rintro ⟨k, v⟩ hm
      obtain ⟨p, hp, e1, r1⟩ := hit k v hm
      obtain ⟨y, hy⟩ := Option.isSome_iff_exists.mp (hx p hp)
      have rr : RelO (some y) (valueAt vb p.1) := by rw [← hy]; exact rb.val _
      obtain ⟨z', hz, rz⟩ := rr.some_of
      rw [e1] at hz
      show ((valueAt vb k).isSome && true) = true
      rw [hz]
      rfl
    rw [hs, h2] at q
    exact q
/-- == and != of two tuples that are equal -/
def rEqT : R2 := fun x y H Q => ∃ n a b xs ys, x = .ref a ∧ y = .ref b ∧ Rd H a (.tup xs) ∧ Rd H b (.tup ys) ∧ n ≤ 60 ∧ xs.length = ys.length ∧ (∀ (j : Nat) (x y : V), xs[j]? = some x → ys[j]? = some y → DEq H n x y) ∧ Q (.bl true) H
def rNeT : R2 := fun x y H Q => ∃ n a b xs ys, x = .ref a ∧ y = .ref b ∧ Rd H a (.tup xs) ∧ Rd H b (.tup ys) ∧ n ≤ 60 ∧ xs.length = ys.length ∧ (∀ (j : Nat) (x y : V), xs[j]? = some x → ys[j]? = some y → DEq H n x y) ∧ Q (.bl false) H
theorem op_eqT (hu : X.A.units + 64 < cLine) : OpR X (compareOp .Eq) rEqT := by
  intro pins s σ H x y v u Q I rx ry h
  obtain ⟨n, a, b, xs, ys, rfl, rfl, ha, hb, hn, hl, t, q⟩ := h
  obtain rfl : v = Value.ref a := rx
  obtain rfl : u = Value.ref b := ry
  obtain ⟨_, its, r1, p1⟩ := (show ObjOk X.prog X.w H s.heap a (.tup xs) from ha.ok I.hok)
  obtain ⟨_, its2, r2, p2⟩ := (show ObjOk X.prog X.w H s.heap b (.tup ys) from hb.ok I.hok)
  refine PySem.W.eq_tuplesT (n := n) (e := fun _ => true) (show s.heap.IsTuple a its.toArray from p1) (show s.heap.IsTuple b its2.toArray from p2) (fun j h1 h2 => ?_) (by omega) (fin_bl I q ?_)
  · obtain ⟨x, e1, rx⟩ := ix_of r1 h1
    obtain ⟨y, e2, ry⟩ := ix_of r2 h2
    exact (t j x y e1 e2).tree I rx ry
  · rw [all_true, List.size_toArray, List.size_toArray, ← r1.length, ← r2.length, hl]
    simp
theorem op_neT (hu : X.A.units + 64 < cLine) : OpR X (compareOp .NotEq) rNeT := by
  intro pins s σ H x y v u Q I rx ry h
  obtain ⟨n, a, b, xs, ys, rfl, rfl, ha, hb, hn, hl, t, q⟩ := h
  obtain rfl : v = Value.ref a := rx
  obtain rfl : u = Value.ref b := ry
  obtain ⟨_, its, r1, p1⟩ := (show ObjOk X.prog X.w H s.heap a (.tup xs) from ha.ok I.hok)
  obtain ⟨_, its2, r2, p2⟩ := (show ObjOk X.prog X.w H s.heap b (.tup ys) from hb.ok I.hok)
  refine PySem.W.ne_tuplesT (n := n) (e := fun _ => true) (show s.heap.IsTuple a its.toArray from p1) (show s.heap.IsTuple b its2.toArray from p2) (fun j h1 h2 => ?_) (by omega) (fin_bl I q ?_)
  · obtain ⟨x, e1, rx⟩ := ix_of r1 h1
    obtain ⟨y, e2, ry⟩ := ix_of r2 h2
    exact (t j x y e1 e2).tree I rx ry
  · rw [all_true, List.size_toArray, List.size_toArray, ← r1.length, ← r2.length, hl]
    simp
end
end Tb

set_option Elab.async false
set_option linter.all false
set_option maxRecDepth 100000
set_option maxHeartbeats 4000000
/-! a == b of two dicts whose keys are tuples, equal -/
namespace PySem.W
open PySem PySem.Calls PyProof.Rows PyProof.V PySem.Spec
open PySem.SeqAt (EqIn EqAt rcIn_lists rcIn_tuples)
section
variable {prog : Program} {w : World} {K : Type} [DecidableEq K] {knd : HeapKind prog w K} {A : Around} {E : Value → Shared → Prop} {s : Shared}
theorem keqH_samePairs {nm : String} {a b : Addr} {ka kb : List (K × Addr × Value)} {Q : Bool → Shared → Prop} (hu : knd.room A) (ha : (a == sysModules) = false) (hb : (b == sysModules) = false)
    (da : s.heap.DictOfH knd a ka) (db : s.heap.DictOfH knd b kb) (hl : ka.length = kb.length) (hits : ∀ x ∈ ka, ∃ q : Addr × Value, (x.1, q) ∈ kb ∧ EqIn prog w A s x.2.2 q.2 true) (h : Q true s) :
    wpAny (model prog w) A (Builtin.Dict.samePairs nm a b) Q E s := by
  obtain ⟨oa, es, ep, hoa, _, hda, hea, hia, hna⟩ := da
  obtain ⟨ob, es', ep', hob, _, hdb, heb, hib, hnb⟩ := db
  have hla : es.size = ka.length := size_of_entries hea
  have hlb : es'.size = kb.length := size_of_entries heb
  unfold Builtin.Dict.samePairs Builtin.Dict.showsAll
  rw [if_neg (show ¬ (a == sysModules) = true by rw [ha]; exact Bool.false_ne_true), if_neg (show ¬ (b == sysModules) = true by rw [hb]; exact Bool.false_ne_true)]
  refine wpAny_bind (wpAny_pure (wpAny_bind (wpAny_pure ?_)))
  refine wpAny_bind (wpAny_dictEntries hoa hda ?_)
  dsimp only
  refine wpAny_bind (wpAny_dictEntries hob hdb ?_)
  have hsz : es.size = es'.size := by rw [hla, hlb, hl]
  rw [if_neg (by rw [hsz]; simp)]
  refine wpAny_bind (wpAny_dictEpoch hoa hda ?_)
  refine wpAny_bind ?_
  rw [Std.Legacy.Range.forIn_eq_forIn_range']
  simp only [Std.Legacy.Range.size, Nat.sub_zero, Nat.add_sub_cancel, Nat.div_one]
  refine wpAny_forIn_list _
    (fun rest q s' => s' = s ∧ q = (none, ()) ∧ ∃ i, rest = List.range' i (es.size - i) ∧ i ≤ es.size)
    _ ?_ ?_ _ _ ⟨rfl, rfl, 0, by simp, Nat.zero_le _⟩
  · rintro x rest q s' ⟨rfl, rfl, i, hr, hi⟩
    have hlt : i < es.size := by
      rcases Nat.lt_or_ge i es.size with h | h
      · exact h
      · rw [Nat.sub_eq_zero_of_le h] at hr; simp at hr
    obtain ⟨rfl, hrest⟩ : x = i ∧ rest = List.range' (i + 1) (es.size - (i + 1)) := by
      have e : es.size - i = (es.size - (i + 1)) + 1 := by omega
      rw [e, List.range'_succ] at hr
      injection hr with h1 h2
      exact ⟨h1, h2⟩
    refine wpAny_bind (wpAny_dictEntries hoa hda ?_)
    have hlt' : x < ka.length := by rw [← hla]; exact hlt
    rw [entry_at hea x, List.getElem?_eq_getElem hlt']
    obtain ⟨k, p, hkv⟩ : ∃ k p, ka[x] = (k, p) := ⟨_, _, rfl⟩
    have hmem : (k, p) ∈ ka := by rw [← hkv]; exact List.getElem_mem hlt'
    rw [hkv]
    obtain ⟨q, hq, heq⟩ := hits _ hmem
    obtain ⟨j, hj⟩ := List.mem_iff_getElem?.mp hq
    show wpAny _ _ (holding [(entryOfKey knd (k, p)).key, (entryOfKey knd (k, p)).val] _ >>= _) _ _ _
    refine wpAny_bind (wpAny_holding (wpAny_bind (wpAny_dictFind_heap (k := k) hu (hia _ hmem) hob hdb heb hib hnb (fun hno => absurd hj (hno j q)) fun j' p' hj' => ?_)))
    have hep : p' = q := by
      have e1 : j' = j := idxH_unique hnb hj' hj
      rw [e1, hj] at hj'
      injection hj' with hj'
      injection hj' with _ e2
      exact e2.symm
    subst hep
    refine wpAny_bind (wpAny_dictEntries hob hdb ?_)
    rw [entry_at heb j', hj']
    refine wpAny_holding (heq _ _ ?_)
    show wpAny _ _ (if (!true) = true then _ else _) _ _ _
    rw [if_neg (by decide)]
    refine wpAny_bind (wpAny_dictEpoch hoa hda ?_)
    rw [if_neg (by simp)]
    exact wpAny_pure ⟨rfl, rfl, x + 1, hrest, hlt⟩
  · rintro q s' ⟨rfl, rfl, i, hr, hi⟩
    exact wpAny_pure h
theorem keqH_eq {a b : Addr} {ka kb : List (K × Addr × Value)} {Q : Value → Shared → Prop} (hr : knd.room A.in1) (ha : (a == sysModules) = false) (hb : (b == sysModules) = false)
    (da : s.heap.DictOfH knd a ka) (db : s.heap.DictOfH knd b kb) (hu : A.units < cLine) (hl : ka.length = kb.length) (hits : ∀ x ∈ ka, ∃ q : Addr × Value, (x.1, q) ∈ kb ∧ EqIn prog w A.in1 s x.2.2 q.2 true) (h : Q (.bool true) s) :
    wpAny (model prog w) A (compareOp .Eq (.ref a) (.ref b)) Q E s := by
  refine wpAny_richCompare_same_room (op := .Eq) da.typeIs db.typeIs PySem.F.slot_dict_eq (wpAny_call_entry PySem.F.slot_dict_eq da.typeIs PySem.F.entry_dict_eq ?_ (PySem.F.args_dict_eq_2 _ _)) hu
  show wpAny _ _ (Builtin.Dict.dictSlotArgs "__eq__" ⟨[.ref a, .ref b], []⟩ >>= _) _ _ s
  refine wpAny_bind ?_
  unfold Builtin.Dict.dictSlotArgs
  refine wpAny_bind (wpAny_notOrdered_dict da.typeIs ?_)
  show wpAny _ _ (pure (Value.ref a, Value.ref b)) _ _ s
  refine wpAny_pure ?_
  refine wpAny_bind (wpAny_isInstance (T := "dict") db.typeIs PySem.F.sub_dict_dict ?_)
  simp only [Bool.not_true, Bool.false_eq_true, if_false]
  refine wpAny_bind (wpAny_pure (wpAny_bind (wpAny_pure ?_)))
  refine wpAny_bind (keqH_samePairs hr ha hb da db hl hits ?_)
  refine wpAny_pure ⟨_, rfl, ?_, ?_⟩
  · exact fun x => nomatch x
  · simpa using h
end
end PySem.W
namespace Tb
open PySem PySem.Spec PyProof.Rows L2
theorem atKey_mem {κ : Type} [DecidableEq κ] {xs : List (κ × Addr × Value)} {k : κ} {p : Addr × Value} (h : atKey xs k = some p) : (k, p) ∈ xs := by
  unfold atKey at h
  obtain ⟨x, hx, rfl⟩ := Option.map_eq_some_iff.mp h
  have h1 := List.find?_some hx
  have h2 := List.mem_of_find?_eq_some hx
  obtain ⟨k', p'⟩ := x
  have e : k' = k := by simpa using h1
  rw [← e]
  exact h2
section
variable {X : Cx} {pins : List (Addr × Obj)} {σ : L2.St} {H : Hp} {s : Shared}
/-- a == b, two dicts whose keys are tuples, equal -/
def rEqDT : R2 := fun x y H Q => ∃ a b ks ls n, x = .ref a ∧ y = .ref b ∧ H a = some (.dT ks) ∧ H b = some (.dT ls) ∧ n ≤ 50 ∧ ks.length = ls.length ∧ (∀ p ∈ ks, ∃ y, valV ls p.1 = some y ∧ DEq H n p.2 y) ∧ Q (.bl true) H
theorem op_eqDT (hu : X.A.units + 64 < cLine) : OpR X (compareOp .Eq) rEqDT := by
  intro pins s σ H x y v u Q I rx ry h
  obtain ⟨a, b, ks, ls, n, rfl, rfl, ha, hb, hn, hl, t, q⟩ := h
  obtain rfl : v = Value.ref a := rx
  obtain rfl : u = Value.ref b := ry
  obtain ⟨za, sa, xa, ra, da⟩ := dt_of I.hok ha
  obtain ⟨zb, sb, xb, rb, db⟩ := dt_of I.hok hb
  have la : ks.length = xa.length := Paired.length ra
  have lb : ls.length = xb.length := Paired.length rb
  refine PySem.W.keqH_eq (tupleKind_room_in1 (by omega)) sa sb da db (by omega) (by rw [← la, ← lb, hl]) (fun z hz => ?_) (fin_bl I q rfl)
  obtain ⟨j, hj⟩ := List.mem_iff_getElem?.mp hz
  have hlt : j < ks.length := by rw [la]; exact (List.getElem?_eq_some_iff.mp hj).1
  obtain ⟨z', hz', h1, h2, h3⟩ := LiI.paired_get (show Paired _ ks xa from ra) (List.getElem?_eq_getElem hlt)
  rw [hj] at hz'
  obtain rfl := Option.some.inj hz'
  obtain ⟨y, hy, hd⟩ := t ks[j] (List.getElem_mem hlt)
  have rr : RelO (some y) ((atKey xb ks[j].1).map (·.2)) := by rw [← hy]; exact rb.val _
  obtain ⟨w', hw, rw'⟩ := rr.some_of
  obtain ⟨p, hp, hp2⟩ := Option.map_eq_some_iff.mp hw
  subst hp2
  refine ⟨p, by rw [← h1]; exact atKey_mem hp, ?_⟩
  exact (hd.tree I h3 rw').at X.A.in1 (by show X.A.units + 1 + n < cLine; omega)
end
end Tb

set_option Elab.async false
set_option linter.all false
set_option maxRecDepth 100000
set_option maxHeartbeats 4000000
namespace Tb
open PySem PySem.Spec PyProof.Rows L2 TL
section
variable {P : Program} {w : World} {K : PySem.W.Frag} {mg : Str → Option Value} {base : Heap}
/-! ### Program.__eq__ of two programs that are alike, their dicts in any order -/
theorem valV_of_mem {κ : Type} [DecidableEq κ] : ∀ {kvs : List (κ × V)}, (kvs.map (·.1)).Nodup → ∀ {p : κ × V}, p ∈ kvs → valV kvs p.1 = some p.2
  | q :: r, nd, p, h => by
    rw [List.map_cons, List.nodup_cons] at nd
    rcases List.mem_cons.mp h with e | e
    · rw [e]
      exact valV_pos rfl
    · rw [valV_neg fun z => nd.1 (by rw [z]; exact List.mem_map.mpr ⟨p, e, rfl⟩)]
      exact valV_of_mem nd.2 e
theorem paired_mem {α β : Type} {F : α → β → Prop} : ∀ {l : List α} {m : List β}, Paired F l m → ∀ {x : α}, x ∈ l → ∃ y ∈ m, F x y
  | _, _, .cons h t, x, hx => by
    rcases List.mem_cons.mp hx with e | e
    · exact ⟨_, List.mem_cons_self, by rw [e]; exact h⟩
    · obtain ⟨y, hy, f⟩ := paired_mem t e
      exact ⟨y, List.mem_cons_of_mem _ hy, f⟩
theorem paired_mem' {α β : Type} {F : α → β → Prop} : ∀ {l : List α} {m : List β}, Paired F l m → ∀ {y : β}, y ∈ m → ∃ x ∈ l, F x y
  | _, _, .cons h t, y, hy => by
    rcases List.mem_cons.mp hy with e | e
    · exact ⟨_, List.mem_cons_self, by rw [e]; exact h⟩
    · obtain ⟨x, hx, f⟩ := paired_mem' t e
      exact ⟨x, List.mem_cons_of_mem _ hx, f⟩
def PrEq (C : Addr) (a b : Addr) (H : Hp) : Prop := ∃ L B places ms ms' es es', PrAt C H a L B places ms es ∧ PrAt C H b L B places ms' es' ∧ ms.Perm ms' ∧ (ms.map Mv.key).Nodup ∧ (∀ m ∈ ms, (m.fl.map (·.1)).Nodup) ∧ es.Perm es' ∧ (es.map (·.1)).Nodup
/-- the class's words for isinstance -/
structure PrIs (K : PySem.W.Frag) (C : Addr) : Prop where
  ha : PySem.W.findIn K (.ref C) "__class__" = some (some (.builtin "object.__class__"))
  hn : PySem.W.specialIn K (.builtin "object.__class__") "__get__" = some (some (.builtin "getset_descriptor.__get__"))
  htk : PySem.W.takesIn K (.builtin "object.__class__") = some true
  hm : PySem.W.mroIn K C (.type "object") = some true
theorem kitOne_self {K : PySem.W.Frag} {C : Addr} : PySem.W.kitOne K (.ref C) (.ref C) = some true := by
  unfold PySem.W.kitOne
  rw [if_pos (by simp)]
theorem fkv_nd {fl : Fil} (h : (fl.map (·.1)).Nodup) : ((fkv fl).map (·.1)).Nodup := by
  unfold fkv
  rw [List.map_map]
  have : ((fun x : Key × V => x.1) ∘ fun q : List Nat × List Nat => ((Sum.inr (S q.1) : Key), V.str (S q.2))) = (fun c : List Nat => (Sum.inr (S c) : Key)) ∘ fun q : List Nat × List Nat => q.1 := rfl
  rw [this, ← List.map_map]
  exact List.Pairwise.map _ (fun a b hab z => hab (key_S.mp z)) h
theorem fkv_flat {fl : Fil} {p : Key × V} (h : p ∈ fkv fl) : flatB p.2 = true := by
  unfold fkv at h
  obtain ⟨q, _, rfl⟩ := List.mem_map.mp h
  rfl
theorem mv_deq {H : Hp} {kv kv' : List Key × V} {m : Mv} (nd : (m.fl.map (·.1)).Nodup) (h : MvAt H kv m) (h' : MvAt H kv' m) : DEq H 2 kv.2 kv'.2 := by
  obtain ⟨e1, t1, d1, v1, t1h, d1h⟩ := h
  obtain ⟨e2, t2, d2, v2, t2h, d2h⟩ := h'
  rw [v1, v2]
  refine DEq.two (.inl t1h) (.inl t2h) (.flat rfl) (.dK (.inl d1h) (.inl d2h) rfl (fun p hp => ?_) fun p y hp hy => ?_)
  · rw [valV_of_mem (fkv_nd nd) hp]
    rfl
  · rw [valV_of_mem (fkv_nd nd) hp] at hy
    rw [← Option.some.inj hy]
    exact .flat (fkv_flat hp)
theorem scEq : FnScope ["self", "other"] ["self", "other"] (defScope sEq) := ⟨rfl, rfl, rfl, by decide +kernel, rfl, by decide +kernel, by decide +kernel⟩
theorem ok_eq {f C : Addr} {fd : FuncData} {k : Nat} (F : Fun K "__eq__" "Program.__eq__" sEq f fd) (T : PrTxt K mg C) (I : PrIs K C) (mi : mg "isinstance" = none) : FnOk P w K mg base CX0 (k + 1) f fd ["self", "other"] (spEq (PrEq C)) := by
  refine F.ok scEq (fun vs H Q E h => ?_) (fun cdv A outer s H vs Q E hr h => ?_)
  · obtain ⟨a, b, rfl, _⟩ := h
    rfl
  · obtain ⟨a, b, rfl, ⟨L, B, places, ms, ms', es, es', pa, pb, pm, nk, nf, pe, ne⟩, q⟩ := h
    obtain ⟨dx, pl, mv, en, kk, h1, h2, h3, h4, h5⟩ := pa.ob
    obtain ⟨dx', pl', mv', en', kk', h1', h2', h3', h4', h5'⟩ := pb.ob
    have hu := hu_of hr
    have hu64 := hr.units
    refine ⟨_, pss_one (ps_ret (pe_and (pe_callB call_isi (by rfl) mi (by decide +kernel) (pa_cons (pv 1) (pa_cons (pe_glob (v := .ref C) (by rfl) T.mgC rfl) pa_nil))) (pe_and (pe_cmpR op_eq (pe_fld (pv 0) rfl) (pe_fld (pv 1) rfl) (nomark _)) (pe_and (pe_cmpR op_eq (pe_fld (pv 0) rfl) (pe_fld (pv 1) rfl) (nomark _)) (pe_and (pe_cmpR (op_eqT hu64) (pe_fld (pv 0) rfl) (pe_fld (pv 1) rfl) (nomark _)) (pe_and (pe_cmpR (op_eqDT hu64) (pe_fld (pv 0) rfl) (pe_fld (pv 1) rfl) (nomark _)) (pe_one (pe_cmpR (op_eqV hu64) (pe_fld (pv 0) rfl) (pe_fld (pv 1) rfl) (nomark _))))))))), ?_⟩
    refine ⟨_, rfl, _, .ref C, .ref C, .ref C, true, rfl, .own C, .base (.ins h1' T.cl I.ha I.hn I.htk I.hm), kitOne_self, true, rfl, iteT ?_⟩
    refine ⟨_, rfl, a, C, dx, _, _, rfl, h1, T.cl, T.nL, fl_l _ _ _ _ _, _, rfl, b, C, dx', _, _, rfl, h1', T.cl, T.nL, fl_l _ _ _ _ _, rfl, true, ?_, iteT ?_⟩
    · rw [decide_eq_true rfl]
    refine ⟨_, rfl, a, C, dx, _, _, rfl, h1, T.cl, T.nB, fl_b _ _ _ _ _, _, rfl, b, C, dx', _, _, rfl, h1', T.cl, T.nB, fl_b _ _ _ _ _, rfl, true, ?_, iteT ?_⟩
    · rw [decide_eq_true rfl]
    refine ⟨_, rfl, a, C, dx, _, _, rfl, h1, T.cl, T.nP, fl_p _ _ _ _ _, _, rfl, b, C, dx', _, _, rfl, h1', T.cl, T.nP, fl_p _ _ _ _ _, 1, pl, pl', txs places, txs places, rfl, rfl, .inl h2, .inl h2', by decide, rfl, ?_, true, rfl, iteT ?_⟩
    · intro j x y e1 e2
      rw [e1] at e2
      cases e2
      unfold txs at e1
      obtain ⟨c, _, rfl⟩ := List.mem_map.mp (List.mem_of_getElem? e1)
      exact .flat rfl
    refine ⟨_, rfl, a, C, dx, _, _, rfl, h1, T.cl, T.nM, fl_m _ _ _ _ _, _, rfl, b, C, dx', _, _, rfl, h1', T.cl, T.nM, fl_m _ _ _ _ _, mv, mv', kk, kk', 2, rfl, rfl, h3, h3', by decide, ?_, ?_, true, rfl, iteT ?_⟩
    · rw [Paired.length h4, Paired.length h4', pm.length_eq]
    · intro p hp
      obtain ⟨m, hm, f1⟩ := paired_mem h4 hp
      obtain ⟨p', hp', f2⟩ := paired_mem' h4' (pm.mem_iff.mp hm)
      have nd' : (kk'.map (·.1)).Nodup := by
        rw [keys_of h4']
        exact (pm.map Mv.key).nodup_iff.mp nk
      refine ⟨p'.2, ?_, mv_deq (nf m hm) f1 f2⟩
      rw [f1.1, ← f2.1]
      exact valV_of_mem nd' hp'
    refine ⟨_, rfl, a, C, dx, _, _, rfl, h1, T.cl, T.nE, fl_e _ _ _ _ _, _, rfl, b, C, dx', _, _, rfl, h1', T.cl, T.nE, fl_e _ _ _ _ _, 1, by decide, .inr ⟨en, en', fkv es, fkv es', rfl, rfl, h5, h5', ?_, ?_⟩, q H (fun _ _ e => e)⟩
    · unfold fkv
      rw [List.length_map, List.length_map, pe.length_eq]
    · intro p hp
      have hp2 : p ∈ fkv es' := by
        unfold fkv at hp ⊢
        exact (pe.map _).mem_iff.mp hp
      exact ⟨p.2, valV_of_mem (fkv_nd ((pe.map _).nodup_iff.mp ne)) hp2, .inl ⟨rfl, fkv_flat hp⟩⟩
end
section
variable {X : Cx} {C : Addr} {k j : Nat} {nm : Str} {sp : Sp} {o : Expr} {to : TE}
/-- the class's own ==, proved -/
structure EqM (P : Program) (w : World) (K : PySem.W.Frag) (mg : Str → Option Value) (base : Heap) (C : Addr) (k : Nat) (R : Addr → Addr → Hp → Prop) : Prop where
  ex : ∃ f fd, PySem.W.findIn K (.ref C) "__eq__" = some (some (.ref f)) ∧ PySem.W.isFn K (.ref f) = true ∧ FnOk P w K mg base CX0 k f fd ["self", "other"] (spEq R) ∧ Binds K fd ["self", "other"] []
theorem op_eqM {R : Addr → Addr → Hp → Prop} (D : EqM X.prog X.w X.K X.mg X.base C k R) (hr : Room j X.A) (hk : k ≤ j) : OpR X (compareOp .Eq) (rEqG (DIns C R)) := by
  obtain ⟨f, fd, hs, hf, F, b⟩ := D.ex
  exact op_eqG (rcG_ins F hs hf b pass0) (hr.mono hk)
end

end Tb

set_option Elab.async false
set_option linter.all false
set_option maxRecDepth 100000
set_option maxHeartbeats 4000000
namespace Tb
open PySem PySem.Spec PyProof.Rows L2 TL
/-! ### a != b, two of them that are equal -/
section
variable {M : Model} {A : Around} {err : Value → Shared → Prop} {s : Shared} {K : PySem.W.Frag} {x C : Addr} {ox : Obj} {od : Option Obj}
theorem bound_ne {args : List Value} {Q : Option Value → Shared → Prop} (kin : K.In s.heap) (J : PySem.W.InstAt s.heap x ox C od) (hs : PySem.W.findIn K (.ref C) "__ne__" = some (some (.builtin "object.__ne__")))
    (z : wpAny M A (call (.builtin "object.__ne__") (.ref x :: args)) (fun v => Q (some v)) err s) : wpAny M A (callSpecialIfBound? (.ref x) "__ne__" args) Q err s := by
  have z2 : wpAny M A (call (.builtin "object.__ne__") ([.ref x] ++ args) >>= fun v => pure (some v)) Q err s := wpAny_bind (wpAny_mono z (fun v s' q => wpAny_pure q) fun _ _ q => q)
  simp only [callSpecialIfBound?, bindSpecialIfBound?]
  refine wpAny_holding (wpAny_bind (wpAny_bind (wpAny_bind (J.type.here ((PySem.W.looks_findIn kin hs).here (wpAny_bind (wpAny_askSetting (wpAny_ite ?_))))))))
  by_cases h : True
  · split
    · exact wpAny_bind (wpAny_of_eq (F.cmp_object.ne.bind _) (wpAny_pure (by exact z2)))
    · exact wpAny_tryCatch (wpAny_bind (wpAny_of_eq (F.cmp_object.ne.bind _) (wpAny_pure (by exact z2))))
  · exact absurd True.intro h
end
section
variable {X : Cx} {C : Addr} {k j : Nat}
theorem op_neM {R : Addr → Addr → Hp → Prop} (D : EqM X.prog X.w X.K X.mg X.base C k R) (hr : Room j X.A) (hk : k + 1 ≤ j) (hne : PySem.W.findIn X.K (.ref C) "__ne__" = some (some (.builtin "object.__ne__"))) (hob : PySem.W.mroIn X.K C (.type "object") = some true) :
    OpR X (compareOp .NotEq) (fun x y H Q => DIns C R x y H ∧ ∀ H', Ext H H' → Q (.bl false) H') := by
  obtain ⟨f, fd, hs, hf, Fo, b⟩ := D.ex
  intro pins s σ H x y v u Q I rx ry ⟨⟨p, q, dx, dy, fs, gs, ex, ey, hp, hq, hR⟩, out⟩
  subst ex ey
  cases rx
  cases ry
  obtain ⟨_, J1, _⟩ := ins_get I.hok hp
  obtain ⟨_, J2, _⟩ := ins_get I.hok hq
  obtain ⟨od1, J1, _⟩ := J1.look
  obtain ⟨od2, J2, _⟩ := J2.look
  have room1 : Room k X.A.in1 := (hr.mono hk).in1
  have u0 : X.A.in1.units < cLine := room1.units0
  have run : wpAny (model X.prog X.w) X.A.in1 (call (.ref f) [.ref p, .ref q]) (fun v s' => v = .bool true ∧ ∃ H', Inv X pins σ H' s' ∧ Ext H H') X.xe s := by
    have sp : spEq R [.ref p, .ref q] H (fun v H' => v = .bl true ∧ Ext H H') E0 := ⟨p, q, rfl, hR, fun H' e => ⟨rfl, e⟩⟩
    have e0 : Env0 X.prog X.w X.K X.mg X.base X.A.in1 X.stack s H := by
      have e := I.env0
      exact ⟨e.frames, e.mod, e.bs, e.bsz, e.funs, e.frf, e.hok, e.bare⟩
    refine wpAny_call (codeAny_mono (Fo.run X.A.in1 X.stack s H ⟨[.ref p, .ref q], []⟩ [.ref p, .ref q] [.ref p, .ref q] _ E0 room1 e0 (by
      have := b s [.ref p, .ref q] I.kIn (by simpa using Fo.len _ _ _ _ sp)
      simpa using this) (.cons rfl (.cons rfl .nil)) sp) fun r s' z => ?_)
    cases r with
    | error e => exact pass0 pins σ H s e s' I z
    | ok fl =>
      cases fl with
      | ret w =>
        obtain ⟨vz, H', I', rz, ez, ext⟩ := I.after z
        subst ez
        cases rz
        exact ⟨rfl, H', I', ext⟩
      | next => exact z.elim
      | brk => exact z.elim
      | cont => exact z.elim
  have kin := I.kIn
  have ent : wpAny (model X.prog X.w) X.A.in1 (Builtin.«object.__ne__» ⟨[.ref p, .ref q], []⟩) (fun r s' => r = .done (.ret (.bool false)) ∧ ∃ H', Inv X pins σ H' s' ∧ Ext H H') X.xe s := by
    unfold Builtin.«object.__ne__»
    repeat (first
      | with_reducible refine wpAny_cRoomFor u0 ?_
      | (refine wpAny_bind (m := callSpecialIfBound? (.ref p) (Str.ofString "__eq__") [.ref q]) (PySem.W.ifBound_K kin J1 hs hf (wpAny_mono run (fun r s' z => by
          obtain ⟨rfl, z2⟩ := z
          repeat (first | exact ⟨rfl, z2⟩ | exact wpAny_pure ⟨rfl, z2⟩ | (refine wpAny_bind (m := truthy (.bool _)) (wpAny_truthy_bool ?_)) | wp_step)) fun _ _ e => e)))
      | wp_step)
  have cmp : wpAny (model X.prog X.w) X.A (tryCompare (.ref p) "__ne__" (.ref q)) (fun r s' => r = some (.bool false) ∧ ∃ H', Inv X pins σ H' s' ∧ Ext H H') X.xe s := by
    unfold tryCompare
    refine wpAny_bind (bound_ne kin J1 hne (wpAny_call (codeAny_call_builtin F.cmp_object.ne.plain F.cmpEntry_ne (PySem.W.check_slot F.cmpKind_ne F.cmpSplit_ne (J1.type.andThen (PySem.W.looks_mroIn kin hob)) (F.cmpArgs_ne _ _) (wpAny_mono ent (fun r s' z => ?_) fun _ _ e => e)))))
    obtain ⟨rfl, z2⟩ := z
    exact wpAny_pure ⟨rfl, z2⟩
  show wpAny (model X.prog X.w) X.A (richCompare .NotEq (.ref p) (.ref q)) _ _ _
  unfold richCompare
  simp only [oneThing_ref]
  refine wpAny_holding (wpAny_bind (wpAny_cRoomFor (hr.mono hk).units0 ?_))
  rw [cmpInfo_NotEq]
  dsimp only
  refine wpAny_bind (J1.type.here (wpAny_bind (J2.type.here ?_)))
  rw [if_neg (by simp)]
  refine wpAny_bind (wpAny_pure ?_)
  simp only [Bool.false_eq_true, if_false]
  refine wpAny_bind (wpAny_mono cmp (fun r s' z => ?_) fun _ _ e => e)
  obtain ⟨rfl, H', I', e⟩ := z
  exact wpAny_pure ⟨.bl false, H', I', rfl, out H' e⟩
end
end Tb

set_option Elab.async false
set_option linter.all false
set_option maxRecDepth 100000
set_option maxHeartbeats 4000000
/-! {k: v for ..} whose keys are tuples; d.setdefault(t, v), t a tuple -/
namespace Tb
open PySem PySem.Spec PyProof.Rows L2 TL
/-- one pair more in a dict with tuples as keys -/
theorem more_T {X : Cx} {pins : List (Addr × Obj)} {σ : L2.St} {H : Hp} {s : Shared} {err : Value → Shared → Prop} {D b : Addr} {kvs : List (List Key × V)} {k : List Key} {z : V} {r : Value} {Q : Unit → Shared → Prop} (hu : X.A.units < cLine) (I : Inv X pins σ H s)
    (hD : H D = some (.dT kvs)) (hb : H b = some (.tup (k.map kV))) (hl : kvs.length < sizeLine) (rz : RelV z r) (q : ∀ s', Inv X pins σ (upd H D (.dT (putK kvs k z))) s' → Q () s') : wpAny (model X.prog X.w) X.A (dictSet D (.ref b) r) Q err s := by
  obtain ⟨l1, sm, xs, rel, dd⟩ := dt_of I.hok hD
  have l2 : xs.length ≤ sizeLine := Paired.length rel ▸ l1
  have l3 : (putK kvs k z).length ≤ sizeLine := Nat.le_trans (length_putK kvs k z) hl
  refine wpAny_dictSet_heap (hsz := l2) hu (key_of I.hok hb) dd fun h' ⟨o, es, ep, p1, p2, p3, p4, _, p5⟩ bs => q _ ?_
  refine d_write I (by rw [hD]; exact True.intro) bs ⟨o, p1⟩ ⟨l3, sm, _, (rel.put k hb rz).keeps fun c ys ec => ?_, o, es, ep, p1, p2, p3, p4, p5⟩
  rwa [upd_ne (ne_of ec hD nofun)]
section
variable {X : Cx}
def tDcT (wi : TI) (g : TG) (tt : TT) (tk tv : TE) (vs : List Nat) : TE := fun σ H Q => wi σ H fun J H1 => ∀ D, H1 D = none → ∃ W : Nat → Nat → Hp → Prop, (∃ m, W 0 m (upd H1 D (.dT []))) ∧ ∀ i m H, W i m H →
  (J.stop i H ∧ Q (.ref D) H) ∨ (J.go i H ∧ ∃ Nx : Hp → Prop, (∀ H', Nx H' → ∃ m', m' < m ∧ W (i + 1) m' H') ∧ ∀ x H', J.yld i H x H' → g x (wipe σ vs) H' fun σ2 H2 => wipe σ2 vs = wipe σ vs ∧ tt σ2 H2 fun b H3 =>
    if b = true then tk σ2 H3 fun y H4 => tv σ2 H4 fun z H5 => ∃ kvs k kt, y = .ref kt ∧ H5 kt = some (.tup (k.map kV)) ∧ H5 D = some (.dT kvs) ∧ kvs.length < sizeLine ∧ Nx (upd H5 D (.dT (putK kvs k z))) else Nx H3)
/-- what a block's parts are, for every state in which it may start -/
structure Blk (X : Cx) (scope : Scope) (tg : Expr) (ifs : List Expr) (kx vx : Expr) (g : TG) (tt : TT) (tk tv : TE) : Prop where
  pg : ∀ s H C cl fp, PG (X.blk s H scope (compEnvC scope cl C X.env) fp) tg g
  pt : ∀ s H C cl fp, PTs (X.blk s H scope (compEnvC scope cl C X.env) fp) ifs tt
  pk : ∀ s H C cl fp, PE (X.blk s H scope (compEnvC scope cl C X.env) fp) kx tk
  pv : ∀ s H C cl fp, PE (X.blk s H scope (compEnvC scope cl C X.env) fp) vx tv
theorem dcT_run {pins : List (Addr × Obj)} {s : Shared} {σ : L2.St} {H : Hp} {Q : VK} {kx vx tg iter : Expr} {ifs : List Expr} {scope : Scope} {own : List (Str × Nat)} {p1 p2 : Pos} {wi : TI} {g : TG} {tt : TT} {tk tv : TE} {use : Option (Value → Sem Unit)} {Qf : Value → Shared → Prop}
    (hu : X.A.units < cLine) (calm : X.calm = true) (nd : X.N.Nodup) (I : Inv X pins σ H s) (pit : PI X tg iter wi) (ok : BlkOk X.N X.env.scope scope own) (B : Blk X scope tg ifs kx vx g tt tk tv) (fold : ∀ x, foldedSetIterable iter X.env x = pure x)
    (z : tDcT wi g tt tk tv (own.map (·.2)) σ H Q)
    (out : ∀ D C s' m H', Inv X pins σ H' s' → Q (.ref D) H' → s'.heap.Ns C m → FpOk X pins H' C → compPost (model X.prog X.w) X.A X.xe use Qf (.ref D) C (.ok .next) s') :
    wpAny (model X.prog X.w) X.A (comprehension (.DictComp kx vx [⟨tg, iter, ifs, 0⟩] scope p1) scope X.env p2 newDict false (eval iter X.env) use) Qf X.xe s := by
  have fr : ∀ y ∈ scope.names, y.2 = .free → ∃ c, X.env.cells.lookup y.1 = some c := fun y hy e => (ok.free y hy e).elim (fun k => I.ok.has _ (.inl k)) fun k => I.ok.has _ (.inr k)
  refine wpAny_comprehension_free (use := use) rfl fold (closure_ok fr) ok.kind (fun y hy e => by rw [ok.uniq y hy, e]) (thn (pit.run pins s σ H _ I z) fun _ _ it0 => thn it0 fun _ t ⟨it, fp, tn, J, Hi, ei, Ii, T, sti, fpi, zi⟩ => ?_)
  subst ei
  refine wpAny_newObj_type (newEnv_comp ?_)
  obtain ⟨D, eD⟩ : ∃ D, D = t.heap.objs.size := ⟨_, rfl⟩
  obtain ⟨W, ⟨m0, w0⟩, turn⟩ := zi D (Ii.hok.fresh (by rw [eD]; exact Nat.le_refl _))
  obtain ⟨u, eu⟩ : ∃ u : Shared, u = { t with heap := t.heap.push { cls := .type "dict", data := .dict #[] } } := ⟨_, rfl⟩
  have hpu : u.heap = t.heap.push { cls := .type "dict", data := .dict #[] } := by rw [eu]
  obtain ⟨Hd, eHd⟩ : ∃ Hd, Hd = upd Hi D (.dT []) := ⟨_, rfl⟩
  have Iu : Inv X pins σ Hd u := by
    rw [eu, eHd, eD]
    exact Ii.laid (t' := t.toks) (fun b o e => Heap.get?_push_of_some _ e) (Nat.le_refl _) (dt_empty t.heap Ii.big)
  have fpu : ∀ b ∈ fp, FpOk X pins Hd b ∧ b < u.heap.objs.size := fun b hb => by
    obtain ⟨o, eo, _⟩ := T.obj _ _ sti b hb
    have lt := Heap.lt_size eo
    refine ⟨⟨?_, (fpi b hb).2⟩, by rw [hpu, Heap.size_push]; exact Nat.lt_succ_of_lt lt⟩
    rw [eHd, upd_ne (show b ≠ D by rw [eD]; exact Nat.ne_of_lt lt)]
    exact (fpi b hb).1
  have stu : tn 0 u.heap := T.keep _ _ _ sti fun b _ o e => by rw [hpu]; exact Heap.get?_push_of_some _ e
  have Ib := block_start Iu ok nd fpu
  obtain ⟨C, eC⟩ : ∃ C, C = u.heap.objs.size := ⟨_, rfl⟩
  obtain ⟨ce, ece⟩ : ∃ ce, ce = compEnvC scope (cellsFrom (u.heap.objs.size + 1) scope.names (cloFrom X.env.cells scope.names [])) u.heap.objs.size X.env := ⟨_, rfl⟩
  have locC : ce.locals = C := by rw [ece, eC]; rfl
  have bg := B.pg u Hd u.heap.objs.size (cellsFrom (u.heap.objs.size + 1) scope.names (cloFrom X.env.cells scope.names [])) fp
  have bt := B.pt u Hd u.heap.objs.size (cellsFrom (u.heap.objs.size + 1) scope.names (cloFrom X.env.cells scope.names [])) fp
  have bk := B.pk u Hd u.heap.objs.size (cellsFrom (u.heap.objs.size + 1) scope.names (cloFrom X.env.cells scope.names [])) fp
  have bv := B.pv u Hd u.heap.objs.size (cellsFrom (u.heap.objs.size + 1) scope.names (cloFrom X.env.cells scope.names [])) fp
  rw [← ece] at Ib bg bt bk bv
  obtain ⟨s4, es4⟩ : ∃ s4 : Shared, s4 = { u with heap := pushCells (u.heap.push { cls := .type "dict", data := .dict #[] }) scope.names } := ⟨_, rfl⟩
  rw [← es4] at Ib
  have goal : codeAny (model X.prog X.w) X.A (.compStart (.DictComp kx vx [⟨tg, iter, ifs, 0⟩] scope p1) 0 (.ref it) (.ref D) ce) (compPost (model X.prog X.w) X.A X.xe use Qf (.ref D) C) s4 := by
    have st4 : tn 0 s4.heap := T.keep _ _ _ stu fun b _ o e => by rw [es4]; exact pushCells_keeps _ _ _ _ (Heap.get?_push_of_some _ e)
    have nofp : ∀ b ∈ fp, Hd b = none := fun b hb => (fpu b hb).1.1
    rw [← eHd] at w0
    have still : ∀ {σ' : L2.St} {H' : Hp} {s' : Shared}, Inv (X.blk u Hd scope ce fp) [] σ' H' s' → (∀ b ∈ fp, H' b = none) → ∀ b ∈ fp, FpOk (X.blk u Hd scope ce fp) [] H' b := fun {_ _ _} J' hn b hb =>
      ⟨hn b hb, (J'.ok.exf b hb).1, J'.ok.exfs b hb, .inl hb, fun x c e => (J'.ok.exf b hb).2 x c e, fun p hp => (List.not_mem_nil (show p ∈ ([] : List (Addr × Obj)) from hp)).elim⟩
    have lp : codeAny (model X.prog X.w) X.A (.compLoop (.DictComp kx vx [⟨tg, iter, ifs, 0⟩] scope p1) 0 (.ref it) (.ref D) ce) (compPost (model X.prog X.w) X.A X.xe use Qf (.ref D) C) s4 := by
      refine compLoop_anyD (fun m s' => ∃ i H', Inv (X.blk u Hd scope ce fp) [] (wipe σ (own.map (·.2))) H' s' ∧ tn i s'.heap ∧ (∀ b ∈ fp, H' b = none) ∧ W i m H') ?_ m0 ⟨0, Hd, Ib, st4, nofp, w0⟩
      rintro m s5 ⟨i, H5, I5, st5, n5, w5⟩
      cases turn i m H5 w5 with
      | inl fin =>
        refine thnF (T.done (X.blk u Hd scope ce fp) rfl rfl rfl calm i [] s5 _ H5 (fun _ _ => False) I5 (still I5 n5) st5 fin.1) fun r s6 ⟨er, I6⟩ => ?_
        subst er
        have back : Inv X pins σ H5 s6 := Iu.call' (ch := fp) I6.os I6.base I6.hok I6.bare fun b hb => by
          obtain ⟨q1, _⟩ := fpu b hb
          exact ⟨q1.2.2.2.1, q1.2.1, q1.2.2.2.2.1, q1.2.2.2.2.2⟩
        obtain ⟨mm, hns, _⟩ := I6.loc
        have hns' : s6.heap.Ns C mm := locC ▸ hns
        have gone : H5 C = none := locC ▸ (show H5 ce.locals = none from I6.free)
        exact out D C s6 mm H5 back fin.2 hns' (eC ▸ Iu.fpOk (Nat.le_refl _) (eC ▸ gone))
      | inr more =>
        obtain ⟨go, Nx, hNx, step⟩ := more
        refine thnF (T.item (X.blk u Hd scope ce fp) rfl rfl rfl calm i [] s5 _ H5 (fun _ _ => False) I5 (still I5 n5) st5 go) fun r s6 ⟨v, er, h6⟩ => ?_
        subst er
        refine thnF h6 fun _ s7 ⟨x, H7, I7, r7, y7, st7, n7⟩ => ?_
        have I7p := I7.pinned (still I7 n7) (T.obj _ _ st7)
        refine thnF (bg.run _ s7 _ H7 x v _ I7p r7 (step x H7 y7)) fun _ s8 ⟨σ8, H8, I8, ew, q8⟩ => thnF (bt.run _ s8 σ8 H8 _ I8 q8) fun b s9 ⟨H9, I9, q9⟩ => ?_
        have next : ∀ {s' : Shared} {H' : Hp}, Inv (X.blk u Hd scope ce fp) ([] ++ pinsAt fp s7.heap) σ8 H' s' → Nx H' → ∃ m', m' < m ∧ ∃ i' H'', Inv (X.blk u Hd scope ce fp) [] (wipe σ (own.map (·.2))) H'' s' ∧ tn i' s'.heap ∧ (∀ b ∈ fp, H'' b = none) ∧ W i' m' H'' := fun {s' H'} J' nx => by
          obtain ⟨m', lt, w'⟩ := hNx H' nx
          have pinned : ∀ b ∈ fp, ∀ o, s7.heap.get? b = some o → s'.heap.get? b = some o ∧ H' b = none := fun b hb o e => by
            have z := J'.pin (b, o) (List.mem_append_right _ (List.mem_append_right _ (mem_pinsAt hb e)))
            exact ⟨z.1, z.2.1⟩
          refine ⟨m', lt, i + 1, H', (J'.unpinned (pins := [])).weak (by rw [← ew, wipe_length]) (fun j vv e => by rw [← ew] at e; exact (wipe_some e).1), T.keep _ _ _ st7 fun b hb o e => (pinned b hb o e).1, fun b hb => ?_, w'⟩
          obtain ⟨o, e, _⟩ := T.obj _ _ st7 b hb
          exact (pinned b hb o e).2
        cases b with
        | false => exact next I9 (by simpa using q9)
        | true =>
          simp only [if_true] at q9 ⊢
          refine thnF (bk.run _ s9 σ8 H9 _ I9 q9) fun kv s10 ⟨yk, H10, I10, r10, q10⟩ => thnF (bv.run _ s10 σ8 H10 _ I10 q10) fun vv s11 ⟨yv, H11, I11, r11, kvs, k, kt, ek, hkt, hD, hl, nx⟩ => ?_
          subst ek
          obtain rfl : kv = Value.ref kt := r10
          exact more_T (X := X.blk u Hd scope ce fp) hu I11 hD hkt hl r11 fun s12 I12 => next I12 nx
    exact codeAny_compStart_dict lp (T.self X.A 0 _ _ _ st4 lp)
  rw [es4, ece, eC, eD] at goal
  rw [eu] at goal
  exact goal
/-- {k: v for ..} as a value -/
theorem pe_dcT {kx vx tg iter : Expr} {ifs : List Expr} {scope : Scope} {own : List (Str × Nat)} {pos : Pos} {wi : TI} {g : TG} {tt : TT} {tk tv : TE} (hu : X.A.units < cLine) (calm : X.calm = true) (nd : X.N.Nodup) (pit : PI X tg iter wi) (ok : BlkOk X.N X.env.scope scope own)
    (B : Blk X scope tg ifs kx vx g tt tk tv) (fold : ∀ x, foldedSetIterable iter X.env x = pure x := by intro _; rfl) : PE X (.DictComp kx vx [⟨tg, iter, ifs, 0⟩] scope pos) (tDcT wi g tt tk tv (own.map (·.2))) :=
  ⟨fun pins s σ H Q I z => by
    rw [arm_eval_DictComp]
    refine dcT_run hu calm nd I pit ok B fold z fun D C s' m H' J q hn ⟨f0, f1, f2, f3, f4, f5⟩ => ⟨m, hn, fun h2 sb => ?_⟩
    exact ⟨.ref D, H', J.turned (t' := s'.toks) (fun b o hb e => (sb.2 b hb).trans e) f0 f1 f3 f4 f5, rfl, q⟩⟩
/-- y = {k: v for ..}, y a local of a def -/
theorem ps_setDcT {i : Nat} {y : Str} {py : Pos} {kx vx tg iter : Expr} {ifs : List Expr} {scope : Scope} {own : List (Str × Nat)} {pos spos : Pos} {wi : TI} {g : TG} {tt : TT} {tk tv : TE} (hu : X.A.units < cLine) (calm : X.calm = true) (nd : X.N.Nodup) (hy : X.N[i]? = some y)
    (hyl : X.env.scope.names.lookup y = some .local) (hsw : swapsWith (.DictComp kx vx [⟨tg, iter, ifs, 0⟩] scope pos) (some (.Name y py)) spos.line X.env = pure true) (pit : PI X tg iter wi) (ok : BlkOk X.N X.env.scope scope own)
    (B : Blk X scope tg ifs kx vx g tt tk tv) (fold : ∀ x, foldedSetIterable iter X.env x = pure x := by intro _; rfl) : PS X (.Assign [.Name y py] (.DictComp kx vx [⟨tg, iter, ifs, 0⟩] scope pos) spos) (tAsg (tDcT wi g tt tk tv (own.map (·.2))) (gName i)) :=
  ⟨fun pins s σ H D I z => by
    rw [exec_Assign_Name_used _ _ _ _ hsw]
    refine wpAny_bind (wpAny_standAt (wpAny_bind ?_))
    have z : tDcT wi g tt tk tv (own.map (·.2)) σ H (fun x H1 => gName i x σ H1 D.nx) := z
    show wpAny _ X.A (do let _ ← comprehension (.DictComp kx vx [⟨tg, iter, ifs, 0⟩] scope pos) scope X.env (firstIterPos [⟨tg, iter, ifs, 0⟩] pos) newDict false (eval iter X.env) (some (assign (.Name y py) X.env))) _ _ s
    refine wpAny_bind (thn (dcT_run (Qf := fun _ s' => SP X pins D .next s') hu calm nd I pit ok B fold z fun L C s' m H' J q hn fo => ?_) fun _ s' hq => wpAny_pure (wpAny_pure hq))
    show wpAny _ _ (assign (.Name y py) X.env (.ref L)) _ _ _
    refine wpAny_assign_Name (store_ok2 (v := V.ref L) J nd hy (.inl hyl) rfl (fun s2 J2 ⟨a, sb, ha⟩ => ?_) (.inr hyl))
    obtain ⟨g0, g1, g2, g3, g4, g5⟩ := fo
    have ne : C ≠ a := ha.elim (fun z => z ▸ g1) fun z e => g4 y a z e.symm
    refine ⟨m, hn.sameBut sb ne, fun h3 sb3 => ⟨_, H', J2.turned (t' := s2.toks) (fun b o hb e => (sb3.2 b hb).trans e) g0 g1 g3 g4 g5, q⟩⟩⟩
end
section
variable {tk tv : TE} {tt : TT} {g : TG} {vs : List Nat} {σ : L2.St} {H1 : Hp} {D : Addr} {Qd : Hp → Prop} {J : It} {n : Nat} {G : Hp → Prop} {Y : Nat → Hp → V → Hp → Prop}
theorem dcT_it (w : Walk J n G Y) (Pv : Nat → Hp → Prop) (h0 : Pv 0 (upd H1 D (.dT []))) (hG : ∀ i H, i ≤ n → Pv i H → G H)
    (hs : ∀ i x H H', i < n → Pv i H → Y i H x H' → g x (wipe σ vs) H' fun σ2 H2 => wipe σ2 vs = wipe σ vs ∧ tt σ2 H2 fun b H3 =>
      if b = true then tk σ2 H3 fun y H4 => tv σ2 H4 fun z H5 => ∃ kvs k kt, y = .ref kt ∧ H5 kt = some (.tup (k.map kV)) ∧ H5 D = some (.dT kvs) ∧ kvs.length < sizeLine ∧ Pv (i + 1) (upd H5 D (.dT (putK kvs k z))) else Pv (i + 1) H3) (hd : ∀ H, Pv n H → Qd H) :
    ∃ W : Nat → Nat → Hp → Prop, (∃ m, W 0 m (upd H1 D (.dT []))) ∧ ∀ i m H, W i m H →
      (J.stop i H ∧ Qd H) ∨ (J.go i H ∧ ∃ Nx : Hp → Prop, (∀ H', Nx H' → ∃ m', m' < m ∧ W (i + 1) m' H') ∧ ∀ x H', J.yld i H x H' → g x (wipe σ vs) H' fun σ2 H2 => wipe σ2 vs = wipe σ vs ∧ tt σ2 H2 fun b H3 =>
        if b = true then tk σ2 H3 fun y H4 => tv σ2 H4 fun z H5 => ∃ kvs k kt, y = .ref kt ∧ H5 kt = some (.tup (k.map kV)) ∧ H5 D = some (.dT kvs) ∧ kvs.length < sizeLine ∧ Nx (upd H5 D (.dT (putK kvs k z))) else Nx H3) := by
  refine ⟨fun i m H => m = n - i ∧ i ≤ n ∧ Pv i H, ⟨n, rfl, Nat.zero_le _, h0⟩, fun i m H ⟨em, hi, p⟩ => ?_⟩
  subst em
  rcases Nat.lt_or_ge i n with hlt | hge
  · exact .inr ⟨w.goes i H hlt (hG i H hi p), Pv (i + 1), fun H' p' => ⟨n - (i + 1), by omega, rfl, hlt, p'⟩, fun x H' y => hs i x H H' hlt p (w.yields i H x H' hlt (hG i H hi p) y)⟩
  · obtain rfl : i = n := Nat.le_antisymm hi hge
    exact .inl ⟨w.stops H (hG i H hi p), hd H p⟩
end
/-! ### d.setdefault(t, v), t a tuple -/
section
variable {prog : Program} {w : World} {κ : Type} [DecidableEq κ]
theorem meets_sdT (knd : HeapKind prog w κ) {k : κ} {d a : Addr} (hd : (d == sysModules) = false) (v : Value) :
    MeetsIn prog w (Builtin.«dict.setdefault» ⟨[.ref d, .ref a, v], []⟩) (fun A R s => knd.room A.in1 ∧ knd.is s.heap k a ∧ ∃ xs, s.heap.DictOfH knd d xs ∧ xs.length ≤ sizeLine ∧ (∀ p, atKey xs k = some p → R (.ok (.ret p.2)) { s with toks := s.toks + knd.draws k }) ∧
      (atKey xs k = none → ∀ h', h'.DictOfH knd d (storedH xs k a v) → Heap.SameBut d s.heap h' → R (.ok (.ret v)) { s with heap := h', toks := s.toks + knd.draws k })) :=
  .of_wp fun A R s ⟨hr, hk, xs, dd, hz, h1, h2⟩ => by
    unfold Builtin.«dict.setdefault»
    refine wpAny_bind ?_
    unfold Builtin.Dict.keyAndDefault
    refine wpAny_bind (wpAny_notOrdered_dict dd.typeIs ?_)
    show wpAny _ _ (pure (d, Value.ref a, some v)) _ _ s
    refine wpAny_pure ?_
    show wpAny _ _ (if (d == sysModules) = true then _ else (dictSetDefault d (.ref a) v >>= _)) _ _ s
    rw [if_neg (by rw [hd]; exact Bool.false_ne_true)]
    exact wpAny_bind (wpAny_dictSetDefault_heap (hsz := hz) hr hk dd (fun p hp => wpAny_pure ⟨p.2, rfl, h1 p hp⟩) fun hn h' dd' bs => wpAny_pure ⟨v, rfl, h2 hn h' dd' bs⟩)
end
section
variable {X : Cx} {o e f : Expr} {td ty tx : TE} {apos cpos : Pos}
def tSdT (td ty tx : TE) : TE := fun σ H Q => td σ H fun x H1 => ∃ a, x = .ref a ∧ (∃ ks, H1 a = some (.dT ks)) ∧ ty σ H1 fun y H2 => tx σ H2 fun z H3 => ∃ kvs k kt, H3 a = some (.dT kvs) ∧ y = .ref kt ∧ H3 kt = some (.tup (k.map kV)) ∧ kvs.length < sizeLine ∧
  (∀ v, valV kvs k = some v → Q v H3) ∧ (valV kvs k = none → Q z (upd H3 a (.dT (putK kvs k z))))
theorem pe_sdT (hu : X.A.units + 1 < cLine) (ho : PE X o td) (he : PE X e ty) (hf : PE X f tx) (m : M2 X o "setdefault" apos e f cpos) : PE X (.Call (.Attribute o "setdefault" apos) [e, f] [] cpos) (tSdT td ty tx) :=
  ⟨fun pins s σ H Q I z => by
    refine wpAny_Call_method m.base m.few m.line PySem.F.plainAttrs_dict PySem.F.slot_dict_setdefault PySem.F.type_dict_setdefault (thn (ho.run pins s σ H _ I z) fun u s1 ⟨x, H1, I1, rx, a, ex, ⟨ks, hks⟩, z1⟩ => ?_)
    subst ex
    obtain rfl : u = Value.ref a := rx
    obtain ⟨t1, t2, _⟩ := isD_at I1 (.inr ⟨ks, .inl hks⟩)
    refine ⟨t1, t2, ?_⟩
    rw [m.trees]
    refine Calls.callWith_builtin rfl (Calls.evalArgs_plain (Calls.spliced_cons (thn (he.run pins s1 σ H1 _ I1 z1) fun kv s2 ⟨y, H2, I2, ry, z2⟩ =>
      Calls.spliced_cons (thn (hf.run pins s2 σ H2 _ I2 z2) fun vv s3 ⟨vz, H3, I3, rz, kvs, k, kt, ha, ey, hkt, hl, q1, q2⟩ => Calls.spliced_nil ?_))))
    subst ey
    obtain rfl : kv = Value.ref kt := ry
    obtain ⟨l1, sm, xs, rel, dd⟩ := dt_of I3.hok ha
    have l2 : xs.length ≤ sizeLine := Paired.length rel ▸ l1
    refine call_meetsIn PySem.F.slot_dict_setdefault dd.typeIs PySem.F.entry_dict_setdefault (PySem.F.args_dict_setdefault_3 _ _ _) (meets_sdT (tupleKind (mixKind X.prog X.w)) (k := k) (a := kt) sm vv) ⟨hu, key_of I3.hok hkt, xs, dd, l2, fun p hp => ?_, fun hn h' dd' bs => ?_⟩
    · have rr := rel.val k
      rw [hp] at rr
      cases q0 : valV kvs k with
      | none => rw [q0] at rr; exact (show False from rr).elim
      | some v0 => rw [q0] at rr; exact ⟨v0, H3, I3.tok _, rr, q1 v0 q0⟩
    · have rr := rel.val k
      rw [hn] at rr
      cases q0 : valV kvs k with
      | some v0 => rw [q0] at rr; exact (show False from rr).elim
      | none =>
        have l3 : (putK kvs k vz).length ≤ sizeLine := Nat.le_trans (length_putK kvs k vz) hl
        obtain ⟨ob, es, ep, p1, p2, p3, p4, _, p5⟩ := dd'
        refine ⟨vz, upd H3 a (.dT (putK kvs k vz)), d_write (ob := .dT (putK kvs k vz)) (t' := s3.toks + (tupleKind (mixKind X.prog X.w)).draws k) I3 (by rw [ha]; exact True.intro) bs ⟨ob, p1⟩ ⟨l3, sm, _, (rel.put k hkt rz).keeps fun c ys ec => ?_, ob, es, ep, p1, p2, p3, p4, p5⟩, rz, q2 q0⟩
        rwa [upd_ne (ne_of ec ha nofun)]⟩
end
end Tb

set_option Elab.async false
set_option linter.all false
set_option maxRecDepth 100000
set_option maxHeartbeats 4000000
namespace Tb
open PySem PySem.Spec PyProof.Rows L2 TL
/-! ### what is walked stays as it is from now on -/
def tLockR (t : TE) : TE := fun σ H Q => t σ H fun v H1 => ∃ d u, v = .ref d ∧ H1 d = some u ∧ Mut (some u) ∧ ∀ od, Q v (upd H1 d (.frz od u))
theorem pe_lockR {X : Cx} {e : Expr} {t : TE} (h : PE X e t) : PE X e (tLockR t) :=
  ⟨fun pins s σ H Q I z => thn (h.run pins s σ H _ I z) fun v s1 ⟨x, H1, I1, r, d, u, ex, hd, mu, q⟩ => by
    obtain ⟨od, I2⟩ := I1.lock hd mu
    exact ⟨x, _, I2, r, q od⟩⟩
/-! ### the second source of a comprehension -/
section
variable {J : It} {n : Nat} {G : Hp → Prop} {Y : Nat → Hp → V → Hp → Prop} {g : TG} {tt : TT} {te : TE} {vs : List Nat} {σ : L2.St} {H0 : Hp} {D : Addr} {Nx : Hp → Prop}
theorem lc2_in (w : Walk J n G Y) (Pv : Nat → Hp → Prop) (h0 : Pv 0 H0) (hG : ∀ i H, i ≤ n → Pv i H → G H)
    (hs : ∀ i x H H', i < n → Pv i H → Y i H x H' → g x (wipe σ vs) H' fun σ2 H2 => wipe σ2 vs = wipe σ vs ∧ tt σ2 H2 fun b H3 => if b = true then te σ2 H3 fun y H4 => ∃ acc, H4 D = some (.lst acc) ∧ acc.length < sizeLine ∧ Pv (i + 1) (upd H4 D (.lst (acc ++ [y]))) else Pv (i + 1) H3)
    (hd : ∀ H, Pv n H → Nx H) : ∃ W1 : Nat → Nat → Hp → Prop, (∃ m, W1 0 m H0) ∧ ∀ j k H, W1 j k H →
      (J.stop j H ∧ Nx H) ∨ (J.go j H ∧ ∃ Nx1 : Hp → Prop, (∀ H', Nx1 H' → ∃ k', k' < k ∧ W1 (j + 1) k' H') ∧ ∀ x H', J.yld j H x H' → g x (wipe σ vs) H' fun σ3 H5 => wipe σ3 vs = wipe σ vs ∧ tt σ3 H5 fun b H6 =>
        if b = true then te σ3 H6 fun y H7 => ∃ acc, H7 D = some (.lst acc) ∧ acc.length < sizeLine ∧ Nx1 (upd H7 D (.lst (acc ++ [y]))) else Nx1 H6) := by
  refine ⟨fun i m H => m = n - i ∧ i ≤ n ∧ Pv i H, ⟨n, rfl, Nat.zero_le _, h0⟩, fun i m H ⟨em, hi, p⟩ => ?_⟩
  subst em
  rcases Nat.lt_or_ge i n with hlt | hge
  · exact .inr ⟨w.goes i H hlt (hG i H hi p), Pv (i + 1), fun H' p' => ⟨n - (i + 1), by omega, rfl, hlt, p'⟩, fun x H' y => hs i x H H' hlt p (w.yields i H x H' hlt (hG i H hi p) y)⟩
  · obtain rfl : i = n := Nat.le_antisymm hi hge
    exact .inl ⟨w.stops H (hG i H hi p), hd H p⟩
theorem lc2_out {wi1 : TI} {g1 : TG} {tt1 : TT} {vs1 : List Nat} {Qd : Hp → Prop} (w : Walk J n G Y) (Pv : Nat → Hp → Prop) (h0 : Pv 0 (upd H0 D (.lst []))) (hG : ∀ i H, i ≤ n → Pv i H → G H)
    (hs : ∀ i x H H', i < n → Pv i H → Y i H x H' → g x (wipe σ vs) H' fun σ2 H2 => wipe σ2 vs = wipe σ vs ∧ tt σ2 H2 fun b H3 => if b = true then wi1 σ2 H3 fun J1 H4 => ∃ W1 : Nat → Nat → Hp → Prop, (∃ m, W1 0 m H4) ∧ ∀ j k H, W1 j k H →
      (J1.stop j H ∧ Pv (i + 1) H) ∨ (J1.go j H ∧ ∃ Nx1 : Hp → Prop, (∀ H', Nx1 H' → ∃ k', k' < k ∧ W1 (j + 1) k' H') ∧ ∀ x H', J1.yld j H x H' → g1 x (wipe σ2 vs1) H' fun σ3 H5 => wipe σ3 vs1 = wipe σ2 vs1 ∧ tt1 σ3 H5 fun b H6 =>
        if b = true then te σ3 H6 fun y H7 => ∃ acc, H7 D = some (.lst acc) ∧ acc.length < sizeLine ∧ Nx1 (upd H7 D (.lst (acc ++ [y]))) else Nx1 H6) else Pv (i + 1) H3)
    (hd : ∀ H, Pv n H → Qd H) : ∃ W : Nat → Nat → Hp → Prop, (∃ m, W 0 m (upd H0 D (.lst []))) ∧ ∀ i m H, W i m H →
  (J.stop i H ∧ Qd H) ∨ (J.go i H ∧ ∃ Nx : Hp → Prop, (∀ H', Nx H' → ∃ m', m' < m ∧ W (i + 1) m' H') ∧ ∀ x H', J.yld i H x H' → g x (wipe σ vs) H' fun σ2 H2 => wipe σ2 vs = wipe σ vs ∧ tt σ2 H2 fun b H3 =>
    if b = true then wi1 σ2 H3 fun J1 H4 => ∃ W1 : Nat → Nat → Hp → Prop, (∃ m, W1 0 m H4) ∧ ∀ j k H, W1 j k H →
      (J1.stop j H ∧ Nx H) ∨ (J1.go j H ∧ ∃ Nx1 : Hp → Prop, (∀ H', Nx1 H' → ∃ k', k' < k ∧ W1 (j + 1) k' H') ∧ ∀ x H', J1.yld j H x H' → g1 x (wipe σ2 vs1) H' fun σ3 H5 => wipe σ3 vs1 = wipe σ2 vs1 ∧ tt1 σ3 H5 fun b H6 =>
        if b = true then te σ3 H6 fun y H7 => ∃ acc, H7 D = some (.lst acc) ∧ acc.length < sizeLine ∧ Nx1 (upd H7 D (.lst (acc ++ [y]))) else Nx1 H6)
    else Nx H3) := by
  refine ⟨fun i m H => m = n - i ∧ i ≤ n ∧ Pv i H, ⟨n, rfl, Nat.zero_le _, h0⟩, fun i m H ⟨em, hi, p⟩ => ?_⟩
  subst em
  rcases Nat.lt_or_ge i n with hlt | hge
  · exact .inr ⟨w.goes i H hlt (hG i H hi p), Pv (i + 1), fun H' p' => ⟨n - (i + 1), by omega, rfl, hlt, p'⟩, fun x H' y => hs i x H H' hlt p (w.yields i H x H' hlt (hG i H hi p) y)⟩
  · obtain rfl : i = n := Nat.le_antisymm hi hge
    exact .inl ⟨w.stops H (hG i H hi p), hd H p⟩
end
theorem nd_of_map {α β : Type} {f : α → β} {l : List α} (h : (l.map f).Nodup) : l.Nodup := (List.pairwise_map.mp h).imp fun hab e => hab (by rw [e])
/-! ### the moves of a program, place by place, letter by letter -/
def keysP (places : List (List Nat)) (L : List Nat) : List (List Nat × Nat) := places.flatMap fun p => L.map fun a => (p, a)
def ordM (places : List (List Nat)) (L : List Nat) (ms : List Mv) : List Mv := (keysP places L).filterMap fun q => findM ms q.1 q.2
def ordE (places : List (List Nat)) (es : Fil) : Fil := places.filterMap fun p => (getF es p).map fun f => (p, f)
theorem findM_key {ms : List Mv} {p : List Nat} {a : Nat} {m : Mv} (h : findM ms p a = some m) : m ∈ ms ∧ m.pl = p ∧ m.lt = a := by
  unfold findM at h
  have h2 := List.find?_some h
  have h3 : m.pl = p ∧ m.lt = a := by simpa using h2
  exact ⟨List.mem_of_find?_eq_some h, h3.1, h3.2⟩
theorem keysP_nd {places : List (List Nat)} {L : List Nat} (h1 : places.Nodup) (h2 : L.Nodup) : (keysP places L).Nodup := by
  unfold keysP
  induction places with
  | nil => exact List.nodup_nil
  | cons p ps ih =>
    have n1 := List.nodup_cons.mp h1
    rw [List.flatMap_cons, List.nodup_append]
    refine ⟨List.Pairwise.map _ (fun a b hab z => hab (by injection z)) h2, ih n1.2, fun x hx y hy e => ?_⟩
    obtain ⟨a, _, rfl⟩ := List.mem_map.mp hx
    obtain ⟨q, hq, hy⟩ := List.mem_flatMap.mp hy
    obtain ⟨b, _, rfl⟩ := List.mem_map.mp hy
    injection e with e1 _
    rw [e1] at n1
    exact n1.1 hq
theorem keysP_len (places : List (List Nat)) (L : List Nat) : (keysP places L).length = places.length * L.length := by
  unfold keysP
  induction places with
  | nil => simp
  | cons p ps ih =>
    rw [List.flatMap_cons, List.length_append, List.length_map, ih, List.length_cons, Nat.succ_mul]
    omega
theorem mem_keysP {places : List (List Nat)} {L : List Nat} {q : List Nat × Nat} : q ∈ keysP places L ↔ q.1 ∈ places ∧ q.2 ∈ L := by
  unfold keysP
  rw [List.mem_flatMap]
  constructor
  · rintro ⟨p, hp, h⟩
    obtain ⟨a, ha, rfl⟩ := List.mem_map.mp h
    exact ⟨hp, ha⟩
  · exact fun ⟨h1, h2⟩ => ⟨q.1, h1, List.mem_map.mpr ⟨q.2, h2, rfl⟩⟩
theorem ordM_keys {ms : List Mv} : ∀ (ks : List (List Nat × Nat)), (ks.filterMap fun q => findM ms q.1 q.2).map (fun m => (m.pl, m.lt)) = ks.filter fun q => (findM ms q.1 q.2).isSome
  | [] => rfl
  | q :: r => by
    rw [List.filterMap_cons, List.filter_cons]
    cases e : findM ms q.1 q.2 with
    | none => exact ordM_keys r
    | some m =>
      obtain ⟨_, e1, e2⟩ := findM_key e
      show (m.pl, m.lt) :: _ = q :: _
      rw [ordM_keys r, e1, e2]
theorem ordM_nd {places : List (List Nat)} {L : List Nat} {ms : List Mv} (h1 : places.Nodup) (h2 : L.Nodup) : ((ordM places L ms).map fun m => (m.pl, m.lt)).Nodup := by
  unfold ordM
  rw [ordM_keys]
  exact List.filter_sublist.nodup (keysP_nd h1 h2)
theorem findM_of {ms : List Mv} (nd : (ms.map fun m => (m.pl, m.lt)).Nodup) {m : Mv} (h : m ∈ ms) : findM ms m.pl m.lt = some m := by
  induction ms with
  | nil => exact nomatch h
  | cons x r ih =>
    have n1 := List.nodup_cons.mp nd
    unfold findM
    rw [List.find?_cons]
    rcases List.mem_cons.mp h with e | e
    · rw [e, decide_eq_true ⟨rfl, rfl⟩]
    · rw [decide_eq_false (fun z => n1.1 (List.mem_map.mpr ⟨m, e, Prod.ext z.1.symm z.2.symm⟩))]
      exact ih n1.2 e
theorem mem_ordM {places : List (List Nat)} {L : List Nat} {ms : List Mv} (nd : (ms.map fun m => (m.pl, m.lt)).Nodup) (hk : ∀ m ∈ ms, m.pl ∈ places ∧ m.lt ∈ L) {m : Mv} : m ∈ ordM places L ms ↔ m ∈ ms := by
  unfold ordM
  rw [List.mem_filterMap]
  constructor
  · rintro ⟨q, _, h⟩
    exact (findM_key h).1
  · exact fun h => ⟨(m.pl, m.lt), mem_keysP.mpr (hk m h), findM_of nd h⟩
theorem ordM_perm {places : List (List Nat)} {L : List Nat} {ms : List Mv} (h1 : places.Nodup) (h2 : L.Nodup) (nd : (ms.map fun m => (m.pl, m.lt)).Nodup) (hk : ∀ m ∈ ms, m.pl ∈ places ∧ m.lt ∈ L) : (ordM places L ms).Perm ms := by
  have n1 : (ordM places L ms).Nodup := nd_of_map (ordM_nd h1 h2)
  have n2 : ms.Nodup := nd_of_map nd
  exact (List.perm_ext_iff_of_nodup n1 n2).mpr fun m => mem_ordM nd hk
theorem ordE_keys {es : Fil} : ∀ (ps : List (List Nat)), (ps.filterMap fun p => (getF es p).map fun f => (p, f)).map (·.1) = ps.filter fun p => (getF es p).isSome
  | [] => rfl
  | p :: r => by
    rw [List.filterMap_cons, List.filter_cons]
    cases e : getF es p with
    | none => exact ordE_keys r
    | some f =>
      show p :: _ = p :: _
      rw [ordE_keys r]
theorem mem_ordE {places : List (List Nat)} {es : Fil} (nd : (es.map (·.1)).Nodup) (hk : ∀ q ∈ es, q.1 ∈ places) {q : List Nat × List Nat} : q ∈ ordE places es ↔ q ∈ es := by
  unfold ordE
  rw [List.mem_filterMap]
  constructor
  · rintro ⟨p, _, h⟩
    obtain ⟨f, hf, rfl⟩ := Option.map_eq_some_iff.mp h
    exact getF_in hf
  · exact fun h => ⟨q.1, hk q h, by rw [getF_mem nd h]; rfl⟩
theorem ordE_nd {places : List (List Nat)} (es : Fil) (h1 : places.Nodup) : ((ordE places es).map (·.1)).Nodup := by
  unfold ordE
  rw [ordE_keys]
  exact List.filter_sublist.nodup h1
theorem ordE_perm {places : List (List Nat)} {es : Fil} (h1 : places.Nodup) (nd : (es.map (·.1)).Nodup) (hk : ∀ q ∈ es, q.1 ∈ places) : (ordE places es).Perm es := by
  have n1 : (ordE places es).Nodup := nd_of_map (ordE_nd es h1)
  have n2 : es.Nodup := nd_of_map nd
  exact (List.perm_ext_iff_of_nodup n1 n2).mpr fun q => mem_ordE nd hk
end Tb

set_option Elab.async false
set_option linter.all false
set_option maxRecDepth 100000
set_option maxHeartbeats 4000000
namespace Tb
open PySem PySem.Spec PyProof.Rows L2 TL
section
variable {P : Program} {w : World} {K : PySem.W.Frag} {mg : Str → Option Value} {base : Heap}
abbrev nMo : List Str := ["program", "keys", "moves", "place", "letter", "key", "found"]
theorem scMo : FnScope nMo ["program"] (defScope sMovesOf) := ⟨rfl, rfl, rfl, by decide +kernel, rfl, by decide +kernel, by decide +kernel⟩
def KeyAt (H : Hp) (t : Addr) (q : List Nat × Nat) : Prop := H t = some (.tup [.str (S q.1), .str (S [q.2])])
def OptMv (ms : List Mv) (H0 H : Hp) (kv : List Key × V) (q : List Nat × Nat) : Prop := kv.1 = mkey q.1 q.2 ∧ match findM ms q.1 q.2 with
  | none => kv.2 = .non
  | some m => ∃ t d, kv.2 = .ref t ∧ H t = some (.tup [.str (S m.to), .ref d]) ∧ H d = some (.dK (fkv m.fl)) ∧ H0 d = none
theorem OptMv.keep {ms : List Mv} {H0 H H' : Hp} {kv : List Key × V} {q : List Nat × Nat} (k : ∀ b o, H b = some o → (∀ kvs, o ≠ .dT kvs) → H' b = some o) (h : OptMv ms H0 H kv q) : OptMv ms H0 H' kv q := by
  refine ⟨h.1, ?_⟩
  have h2 := h.2
  cases e : findM ms q.1 q.2 with
  | none => rw [e] at h2; exact h2
  | some m =>
    rw [e] at h2
    obtain ⟨t, d, a, b, c, n⟩ := h2
    exact ⟨t, d, a, k _ _ b (by intro _ z; cases z), k _ _ c (by intro _ z; cases z), n⟩
theorem MvNew.keep {H0 H H' : Hp} {kv : List Key × V} {m : Mv} (k : ∀ b o, H b = some o → (∀ kvs, o ≠ .dT kvs) → H' b = some o) (h : MvNew H0 H kv m) : MvNew H0 H' kv m := by
  obtain ⟨e, t, d, a, b, c, n⟩ := h
  exact ⟨e, t, d, a, k _ _ b (by intro _ z; cases z), k _ _ c (by intro _ z; cases z), n⟩
theorem optK {ms : List Mv} {H0 H : Hp} : ∀ {kk : List (List Key × V)} {ks : List (List Nat × Nat)}, Paired (OptMv ms H0 H) kk ks → kk.map (·.1) = ks.map fun q => mkey q.1 q.2
  | _, _, .nil => rfl
  | _, _, .cons h t => by rw [List.map_cons, List.map_cons, h.1, optK t]
theorem newK {H0 H : Hp} : ∀ {kk : List (List Key × V)} {ms : List Mv}, Paired (MvNew H0 H) kk ms → kk.map (·.1) = ms.map Mv.key
  | _, _, .nil => rfl
  | _, _, .cons h t => by rw [List.map_cons, List.map_cons, h.1, newK t]
theorem mkeys_nd {ks : List (List Nat × Nat)} (h : ks.Nodup) : (ks.map fun q => mkey q.1 q.2).Nodup :=
  List.Pairwise.map _ (fun a b hab z => hab (by obtain ⟨e1, e2⟩ := mkey_inj z; exact Prod.ext e1 e2)) h
def spMovesOf (C : Addr) : Sp := fun vs H Q _ => ∃ (p : Addr) (L B : List Nat) (places : List (List Nat)) (ms : List Mv) (es : Fil), vs = [.ref p] ∧ PrAt C H p L B places ms es ∧ places.length ≤ 50 ∧ L.length ≤ 26 ∧ places.Nodup ∧ L.Nodup ∧
  ∀ D kk H', Same H H' → H D = none → H' D = some (.dT kk) → Paired (MvNew H H') kk (ordM places L ms) → Q (.ref D) H'
theorem ok_movesOf {f C : Addr} {fd : FuncData} {k : Nat} (F : Fun K "moves_of" "moves_of" sMovesOf f fd) (T : PrTxt K mg C) (DP : Prp P w K mg base C (k + 1) "places" (getSp C "_places")) (DL : Prp P w K mg base C (k + 1) "letters" (getSp C "_letters")) (DM : Mth P w K mg base C (k + 1) "move" ["place", "letter"] (spMove C)) :
    FnOk P w K mg base CX0 (k + 3) f fd ["program"] (spMovesOf C) := by
  refine F.ok scMo (fun vs H Q E h => ?_) (fun cdv A outer s H vs Q E hr h => ?_)
  · obtain ⟨p, L, B, places, ms, es, rfl, _⟩ := h
    rfl
  · obtain ⟨p, L, B, places, ms, es, rfl, hp, lp, lL, nP, nL, q⟩ := h
    have hu := hu_of hr
    have hu0 := Nat.lt_of_succ_lt hu
    refine ⟨_, pss_cons (ps_setLc2 (i := 1) (own := [("place", 3), ("letter", 4)]) (vs1 := [4]) (g := gName 3) (tt := tYes) (wi1 := iStr (tProp C (getSp C "_letters") [] E0 (tVar 0))) (g1 := gName 4) (tt1 := tYes) (te := tTupS (tCons (tVar 3) (tCons (tVar 4) tNil))) rfl scMo.nd rfl rfl (sw_true rfl rfl rfl (by decide +kernel)) (pi_tup (pe_prp DP T.cl hr (pv 0)))
          (blkOk_by (own := [("place", 3), ("letter", 4)]) (N := nMo) (sc := defScope sMovesOf) (by decide +kernel)) (by decide) (fun _ _ _ _ _ => pg_name (i := 3) scMo.nd rfl (.inl rfl)) (fun _ _ _ _ _ => pts_nil) (fun _ _ _ _ _ => pi_str (pe_prp DL T.cl hr (pv 0))) (fun _ _ _ _ _ => pg_name (i := 4) scMo.nd rfl (.inl rfl)) (fun _ _ _ _ _ => pts_nil) (fun _ _ _ _ _ => pe_tupS (pa_cons (pv 3) (pa_cons (pv 4) pa_nil))))
      (pss_cons (ps_setDcT (i := 2) (own := [("place", 3), ("letter", 4)]) (g := gTup K 2 (gCons (gName 3) (gCons (gName 4) gNil))) (tt := tYes) (tk := tTupS (tCons (tVar 3) (tCons (tVar 4) tNil))) (tv := tMeth C "move" (spMove C) [] E0 (tVar 0) (tCons (tVar 3) (tCons (tVar 4) tNil))) hu0 rfl scMo.nd rfl rfl (sw_trueD rfl rfl rfl (by decide +kernel)) (pi_list (pv 1))
          (blkOk_by (own := [("place", 3), ("letter", 4)]) (N := nMo) (sc := defScope sMovesOf) (by decide +kernel)) ⟨fun _ _ _ _ _ => pg_tup rfl (pgs_cons (pg_name (i := 3) scMo.nd rfl (.inl rfl)) (pgs_cons (pg_name (i := 4) scMo.nd rfl (.inl rfl)) pgs_nil)), fun _ _ _ _ _ => pts_nil, fun _ _ _ _ _ => pe_tupS (pa_cons (pv 3) (pa_cons (pv 4) pa_nil)), fun _ _ _ _ _ => pe_mth DM T.cl hr (pv 0) (pa_cons (pv 3) (pa_cons (pv 4) pa_nil))⟩)
      (pss_one (ps_ret (pe_dcT (own := [("key", 5), ("found", 6)]) (g := gTup K 2 (gCons (gName 5) (gCons (gName 6) gNil))) (tt := tTest (tOp (fun x y H Q => y = .non ∧ Q (.bl (!decide (x = .non))) H) (tVar 6) (tC .non))) (tk := tVar 5) (tv := tVar 6) hu0 rfl scMo.nd (pi_itemsT (pe_lockR (pv 2))) (blkOk_by (own := [("key", 5), ("found", 6)]) (N := nMo) (sc := defScope sMovesOf) (by decide +kernel))
          ⟨fun _ _ _ _ _ => pg_tup rfl (pgs_cons (pg_name (i := 5) scMo.nd rfl (.inl rfl)) (pgs_cons (pg_name (i := 6) scMo.nd rfl (.inl rfl)) pgs_nil)), fun _ _ _ _ _ => pts_one (pt_cmpR op_notN (pv 6) pe_non (nomark _)), fun _ _ _ _ _ => pv 5, fun _ _ _ _ _ => pv 6⟩)))), ?_⟩
    obtain ⟨dx, pl, mv, en, kk0, h1, h2, h3, h4, h5⟩ := id hp.ob
    have big : (10000 : Nat) < sizeLine := by decide
    have lks : (keysP places L).length ≤ 1300 := by
      rw [keysP_len]
      exact Nat.mul_le_mul lp lL
    -- the keys
    refine ⟨_, rfl, p, dx, _, rfl, h1, p, dx, _, _, rfl, h1, fl_p _ _ _ _ _, pl, rfl, ⟨_, SqT.of h2⟩, fun D nD => ?_⟩
    have okp : ∀ {x : List Nat} {i : Nat}, places[i]? = some x → keysP (places.take (i + 1)) L = keysP (places.take i) L ++ L.map fun a => (x, a) := fun {x i} hx => by
      have et : places.take (i + 1) = places.take i ++ [x] := by
        rw [List.take_add_one, hx]
        rfl
      unfold keysP
      rw [et, List.flatMap_append]
      simp
    have lkt : ∀ i, (keysP (places.take i) L).length ≤ 1300 := fun i => by
      rw [keysP_len, List.length_take]
      exact Nat.le_trans (Nat.mul_le_mul (Nat.le_trans (Nat.min_le_right _ _) lp) lL) (by decide)
    refine lc2_out (walk_tup (K := K) (a := pl) (xs := txs places)) (fun i H' => Same H H' ∧ ∃ ts : List Addr, H' D = some (.lst (ts.map V.ref)) ∧ Paired (KeyAt H') ts (keysP (places.take i) L)) ⟨same_upd nD, [], upd_same, .nil⟩ (fun i H' _ h => SqT.of (h.1 _ _ h2)) ?_ ?_
    · rintro i x H2 H2' hi ⟨s2, ts, eD, hts⟩ ⟨rfl, hx⟩
      obtain ⟨pl', hpl, rfl⟩ : ∃ pl', places[i]? = some pl' ∧ x = .str (S pl') := by
        unfold txs at hx
        rw [List.getElem?_map] at hx
        cases z : places[i]? with
        | none => rw [z] at hx; cases hx
        | some c => rw [z] at hx; exact ⟨c, rfl, (Option.some.inj hx).symm⟩
      refine ⟨rfl, tYes_if ⟨_, rfl, p, dx, _, rfl, s2 _ _ h1, p, dx, _, _, rfl, s2 _ _ h1, fl_l _ _ _ _ _, S L, rfl, ?_⟩⟩
      refine lc2_in (walk_str (z := S L)) (fun j H' => Same H H' ∧ ∃ ts : List Addr, H' D = some (.lst (ts.map V.ref)) ∧ Paired (KeyAt H') ts (keysP (places.take i) L ++ (L.take j).map fun a => (pl', a))) ⟨s2, ts, eD, by simpa using hts⟩ (fun _ _ _ _ => trivial) ?_ ?_
      · rintro j y H3 H3' hj ⟨s3, ts3, eD3, hts3⟩ ⟨rfl, a, ha, rfl⟩
        have ha' : L[j]? = some a := by
          rw [show (S L).cps = L.toArray from rfl, List.getElem?_toArray] at ha
          exact ha
        have et : L.take (j + 1) = L.take j ++ [a] := by
          rw [List.take_add_one, ha']
          rfl
        refine ⟨rfl, tYes_if ⟨_, rfl, _, rfl, by show 2 ≤ sizeLine; decide, fun t H4 s4 n4 e4 => ⟨_, s4 _ _ eD3, ?_, ?_, ts3 ++ [t], ?_, ?_⟩⟩⟩
        · have l3 := Paired.length hts3
          rw [List.length_append, List.length_map, List.length_take] at l3
          have l4 := lkt i
          rw [List.length_map]
          omega
        · intro b o eb
          rw [upd_ne (ne_of_none eb nD)]
          exact s4 _ _ (s3 _ _ eb)
        · rw [upd_same, List.map_append]
          rfl
        · rw [et, List.map_append, ← List.append_assoc]
          have keepD : ∀ {b : Addr} {xs : List V}, H4 b = some (.tup xs) → (upd H4 D (.lst (ts3.map V.ref ++ [V.ref t]))) b = some (.tup xs) := fun {b xs} e => by
            rw [upd_ne (ne_of e (s4 _ _ eD3) (by intro z; cases z))]
            exact e
          exact (Paired.mono (fun t' q' z => keepD (s4 _ _ z)) hts3).snoc (keepD e4)
      · rintro H3 ⟨s3, ts3, eD3, hts3⟩
        have lz : (S L).cps.size = L.length := rfl
        rw [lz, List.take_length, ← okp hpl] at hts3
        exact ⟨s3, ts3, eD3, hts3⟩
    rintro H2 ⟨s2, ts, eD, hts⟩
    have lx : (txs places).length = places.length := List.length_map _
    rw [lx, List.take_length] at hts
    have lts : ts.length ≤ 1300 := by
      rw [Paired.length hts]
      exact lks
    -- the moves, None among them
    refine ⟨_, rfl, D, rfl, ⟨_, SqL.of eD⟩, fun D2 nD2 => dcT_it (walk_list (K := K) (a := D) (xs := ts.map V.ref)) (fun i H' => Same H2 H' ∧ ∃ kk, H' D2 = some (.dT kk) ∧ Paired (OptMv ms H H') kk ((keysP places L).take i)) ⟨same_upd nD2, [], upd_same, .nil⟩ (fun i H' _ h => SqL.of (h.1 _ _ eD)) ?_ ?_⟩
    · rintro i x H3 H3' hi ⟨s3, kk, eD2, hkk⟩ ⟨rfl, hx⟩
      obtain ⟨t, ht, rfl⟩ : ∃ t, ts[i]? = some t ∧ x = .ref t := by
        rw [List.getElem?_map] at hx
        cases z : ts[i]? with
        | none => rw [z] at hx; cases hx
        | some c => rw [z] at hx; exact ⟨c, rfl, (Option.some.inj hx).symm⟩
      obtain ⟨kq, hkq, hkey⟩ := paired_get2 hts ht
      have hkey : H2 t = some (.tup [.str (S kq.1), .str (S [kq.2])]) := hkey
      have et : (keysP places L).take (i + 1) = (keysP places L).take i ++ [kq] := by
        rw [List.take_add_one, hkq]
        rfl
      have lkk : kk.length < sizeLine := by
        rw [Paired.length hkk, List.length_take]
        omega
      have hnew : mkey kq.1 kq.2 ∉ kk.map (·.1) := fun z => by
        rw [optK hkk] at z
        have h6 : (((keysP places L).take (i + 1)).map fun q => mkey q.1 q.2).Nodup := mkeys_nd ((List.take_sublist _ _).nodup (keysP_nd nP nL))
        rw [et, List.map_append, List.nodup_append] at h6
        exact h6.2.2 _ z _ (List.mem_singleton.mpr rfl) rfl
      refine ⟨t, _, rfl, SqT.of (s3 _ _ hkey), rfl, _, _, rfl, _, _, rfl, rfl, rfl, tYes_if ⟨_, rfl, _, rfl, by show 2 ≤ sizeLine; decide, fun kt H4 s4 n4 e4 => ?_⟩⟩
      have e4' : H4 kt = some (.tup ((mkey kq.1 kq.2).map kV)) := e4
      have s04 : Same H H4 := (s2.trans s3).trans s4
      have put : ∀ (v : V) (H5 : Hp), Same H4 H5 → OptMv ms H H5 (mkey kq.1 kq.2, v) kq → ∃ kvs k' kt', V.ref kt = .ref kt' ∧ H5 kt' = some (.tup (k'.map kV)) ∧ H5 D2 = some (.dT kvs) ∧ kvs.length < sizeLine ∧ Same H2 (upd H5 D2 (.dT (putK kvs k' v))) ∧ ∃ kk', (upd H5 D2 (.dT (putK kvs k' v))) D2 = some (.dT kk') ∧ Paired (OptMv ms H (upd H5 D2 (.dT (putK kvs k' v)))) kk' ((keysP places L).take (i + 1)) := by
        intro v H5 s5 hv
        have eD5 : H5 D2 = some (.dT kk) := s5 _ _ (s4 _ _ eD2)
        refine ⟨kk, mkey kq.1 kq.2, kt, rfl, s5 _ _ e4', eD5, lkk, fun b o eb => ?_, _, upd_same, ?_⟩
        · rw [upd_ne (ne_of_none eb nD2)]
          exact s5 _ _ (s4 _ _ (s3 _ _ eb))
        · rw [putK_end _ hnew, et]
          have kp : ∀ b o, H5 b = some o → (∀ kvs, o ≠ .dT kvs) → (upd H5 D2 (.dT (kk ++ [(mkey kq.1 kq.2, v)]))) b = some o := fun b o e no => by
            rw [upd_ne (ne_of e eD5 (no _))]
            exact e
          exact (Paired.mono (fun kv q' z => (z.keep fun b o e _ => s5 _ _ (s4 _ _ e)).keep kp) hkk).snoc (hv.keep kp)
      refine ⟨_, rfl, p, dx, _, rfl, s04 _ _ h1, fl_no _ _ _ _ _ (by decide +kernel), _, rfl, _, rfl, p, kq.1, kq.2, L, B, places, ms, es, rfl, hp.same s04, ?_⟩
      cases hf : findM ms kq.1 kq.2 with
      | none => exact fun H5 s5 => put .non H5 s5 ⟨rfl, by rw [hf]⟩
      | some m => exact fun t' d' H5 s5 n5 n6 e5 e6 => put (.ref t') H5 s5 ⟨rfl, by rw [hf]; exact ⟨t', d', rfl, e5, e6, s04.free n6⟩⟩
    rintro H3 ⟨s3, kk, eD2, hkk⟩
    have lx2 : (ts.map V.ref).length = (keysP places L).length := by
      rw [List.length_map]
      exact Paired.length hts
    rw [lx2, List.take_length] at hkk
    -- those that are there
    refine ⟨_, rfl, D2, _, rfl, eD2, trivial, fun od => ⟨D2, od, kk, rfl, upd_same, fun D3 nD3 => ?_⟩⟩
    have nHD2 : H D2 = none := s2.free nD2
    have sl : Same H (upd H3 D2 (.frz od (.dT kk))) := fun b o eb => by
      rw [upd_ne (ne_of_none eb nHD2)]
      exact s3 _ _ (s2 _ _ eb)
    have kp0 : ∀ b o, H3 b = some o → (∀ kvs, o ≠ .dT kvs) → (upd H3 D2 (.frz od (.dT kk))) b = some o := fun b o e no => by
      rw [upd_ne (ne_of e eD2 (no _))]
      exact e
    have hkl : Paired (OptMv ms H (upd H3 D2 (.frz od (.dT kk)))) kk (keysP places L) := Paired.mono (fun kv q' z => z.keep kp0) hkk
    have efz : (upd H3 D2 (.frz od (.dT kk))) D2 = some (.frz od (.dT kk)) := upd_same
    generalize upd H3 D2 (.frz od (.dT kk)) = Hl at nD3 sl hkl efz
    have nHD3 : H D3 = none := sl.free nD3
    refine dcT_it walk_itemsT (fun i H' => Same Hl H' ∧ ∃ k3, H' D3 = some (.dT k3) ∧ Paired (MvNew H H') k3 (((keysP places L).take i).filterMap fun q => findM ms q.1 q.2)) ⟨same_upd nD3, [], upd_same, .nil⟩ (fun i H' _ h => h.1 _ _ efz) ?_ ?_
    · rintro i x H4 H4' hi ⟨s4, k3, eD3, hk3⟩ ⟨T1, kx, v, kq, hkv, hq, rfl, nT, rfl⟩
      obtain ⟨q', hq', hopt⟩ := paired_get2 hkl hkv
      have et : (keysP places L).take (i + 1) = (keysP places L).take i ++ [q'] := by
        rw [List.take_add_one, hq']
        rfl
      have sm := same_upd (o := .tup [.ref kq, v]) nT
      have nT3 : T1 ≠ D3 := fun z => by rw [z, eD3] at nT; cases nT
      have eD3' := sm _ _ eD3
      have hq3 := sm _ _ hq
      have eT : (upd H4 T1 (.tup [.ref kq, v])) T1 = some (.tup [.ref kq, v]) := upd_same
      have s4m := s4.trans sm
      have hk3m : Paired (MvNew H (upd H4 T1 (.tup [.ref kq, v]))) k3 (((keysP places L).take i).filterMap fun q => findM ms q.1 q.2) := Paired.mono (fun kv m z => z.keep fun b o e _ => sm _ _ e) hk3
      refine ⟨T1, _, rfl, SqT.of eT, rfl, _, _, rfl, _, _, rfl, rfl, rfl, _, rfl, rfl, _, rfl, ?_⟩
      generalize upd H4 T1 (.tup [.ref kq, v]) = H5 at sm eD3' hq3 eT s4m hk3m
      obtain ⟨ek, hopt2⟩ := hopt
      have ek : kx = mkey q'.1 q'.2 := ek
      subst ek
      rw [et, List.filterMap_append]
      cases hf : findM ms q'.1 q'.2 with
      | none =>
        rw [hf] at hopt2
        have hopt2 : v = .non := hopt2
        subst hopt2
        have e0 : [q'].filterMap (fun q => findM ms q.1 q.2) = [] := by simp [hf]
        rw [e0, List.append_nil]
        exact iteF ⟨s4m, k3, eD3', hk3m⟩
      | some m =>
        rw [hf] at hopt2
        obtain ⟨t', d', ev, ht', hd', n'⟩ := hopt2
        have ev : v = .ref t' := ev
        subst ev
        obtain ⟨_, em1, em2⟩ := findM_key hf
        have e0 : [q'].filterMap (fun q => findM ms q.1 q.2) = [m] := by simp [hf]
        rw [e0]
        refine iteT ⟨_, rfl, _, rfl, k3, mkey q'.1 q'.2, kq, rfl, hq3, eD3', ?_, fun b o eb => ?_, _, upd_same, ?_⟩
        · rw [Paired.length hk3]
          have := List.length_filterMap_le (fun q => findM ms q.1 q.2) ((keysP places L).take i)
          rw [List.length_take] at this
          omega
        · rw [upd_ne (ne_of_none eb nD3)]
          exact s4m _ _ eb
        · have hnew : mkey q'.1 q'.2 ∉ k3.map (·.1) := fun z => by
            rw [newK hk3m] at z
            obtain ⟨m', hm', e'⟩ := List.mem_map.mp z
            obtain ⟨q2, hq2, hf2⟩ := List.mem_filterMap.mp hm'
            obtain ⟨_, f1, f2⟩ := findM_key hf2
            obtain ⟨g1, g2⟩ := mkey_inj (show mkey m'.pl m'.lt = mkey q'.1 q'.2 from e')
            have h6 : ((keysP places L).take (i + 1)).Nodup := (List.take_sublist _ _).nodup (keysP_nd nP nL)
            rw [et, List.nodup_append] at h6
            exact h6.2.2 q2 hq2 q' (List.mem_singleton.mpr rfl) (Prod.ext (by rw [← f1, g1]) (by rw [← f2, g2]))
          have kp : ∀ b o, H5 b = some o → (∀ kvs, o ≠ .dT kvs) → (upd H5 D3 (.dT (putK k3 (mkey q'.1 q'.2) (.ref t')))) b = some o := fun b o e no => by
            rw [upd_ne (ne_of e eD3' (no _))]
            exact e
          rw [putK_end _ hnew]
          rw [putK_end _ hnew] at kp
          refine (Paired.mono (fun kv m z => z.keep kp) hk3m).snoc ⟨?_, t', d', rfl, kp _ _ (s4m _ _ ht') (by intro _ z; cases z), kp _ _ (s4m _ _ hd') (by intro _ z; cases z), n'⟩
          show mkey q'.1 q'.2 = mkey m.pl m.lt
          rw [em1, em2]
    · rintro H4 ⟨s4, k3, eD3, hk3⟩
      have lk : kk.length = (keysP places L).length := Paired.length hkl
      rw [lk, List.take_length] at hk3
      exact q D3 k3 H4 (sl.trans s4) nHD3 eD3 hk3
end
end Tb

set_option Elab.async false
set_option linter.all false
set_option maxRecDepth 100000
set_option maxHeartbeats 4000000
namespace Tb
open PySem PySem.Spec PyProof.Rows L2 TL
section
variable {P : Program} {w : World} {K : PySem.W.Frag} {mg : Str → Option Value} {base : Heap}
abbrev nEn : List Str := ["program", "ends", "place", "end"]
theorem scEn : FnScope nEn ["program"] (defScope sEndsOf) := ⟨rfl, rfl, rfl, by decide +kernel, rfl, by decide +kernel, by decide +kernel⟩
def endOV (es : Fil) : V → V := fun v => match v with | .str x => (match getF es (tl x) with | none => .non | some f => .str (S f)) | _ => .non
def spEndsOf (C : Addr) : Sp := fun vs H Q _ => ∃ (p : Addr) (L B : List Nat) (places : List (List Nat)) (ms : List Mv) (es : Fil), vs = [.ref p] ∧ PrAt C H p L B places ms es ∧ places.length ≤ 50 ∧ places.Nodup ∧
  ∀ D H', Same H H' → H D = none → H' D = some (.dK (fkv (ordE places es))) → Q (.ref D) H'
theorem keys_txs {places : List (List Nat)} (nd : places.Nodup) : ((txs places).map keyV).Nodup := by
  unfold txs
  rw [List.map_map]
  exact List.Pairwise.map _ (fun a b hab z => hab (key_S.mp z)) nd
theorem ok_endsOf {f C : Addr} {fd : FuncData} {k : Nat} (F : Fun K "ends_of" "ends_of" sEndsOf f fd) (T : PrTxt K mg C) (DP : Prp P w K mg base C (k + 1) "places" (getSp C "_places")) (DE : Mth P w K mg base C (k + 1) "end" ["place"] (spEnd C)) :
    FnOk P w K mg base CX0 (k + 3) f fd ["program"] (spEndsOf C) := by
  refine F.ok scEn (fun vs H Q E h => ?_) (fun cdv A outer s H vs Q E hr h => ?_)
  · obtain ⟨p, L, B, places, ms, es, rfl, _⟩ := h
    rfl
  · obtain ⟨p, L, B, places, ms, es, rfl, hp, lp, nP, q⟩ := h
    have hu := hu_of hr
    refine ⟨_, pss_cons (ps_setDc (i := 1) (own := [("place", 2)]) (g := gName 2) (tt := tYes) (tk := tVar 2) (tv := tMeth C "end" (spEnd C) [] E0 (tVar 0) (tCons (tVar 2) tNil)) rfl scEn.nd rfl rfl (sw_trueD rfl rfl rfl (by decide +kernel)) (pi_tup (pe_prp DP T.cl hr (pv 0)))
          (blkOk_by (own := [("place", 2)]) (N := nEn) (sc := defScope sEndsOf) (by decide +kernel)) (fun _ _ _ _ _ => pg_name (i := 2) scEn.nd rfl (.inl rfl)) (fun _ _ _ _ _ => pts_nil) (fun _ _ _ _ _ => pv 2) (fun _ _ _ _ _ => pe_mth DE T.cl hr (pv 0) (pa_cons (pv 2) pa_nil)))
      (pss_one (ps_ret (pe_dc (own := [("place", 2), ("end", 3)]) (g := gTup K 2 (gCons (gName 2) (gCons (gName 3) gNil))) (tt := tTest (tOp (fun x y H Q => y = .non ∧ Q (.bl (!decide (x = .non))) H) (tVar 3) (tC .non))) (tk := tVar 2) (tv := tVar 3) rfl scEn.nd (pi_items (pe_lockR (pv 1))) (blkOk_by (own := [("place", 2), ("end", 3)]) (N := nEn) (sc := defScope sEndsOf) (by decide +kernel))
          (fun _ _ _ _ _ => pg_tup rfl (pgs_cons (pg_name (i := 2) scEn.nd rfl (.inl rfl)) (pgs_cons (pg_name (i := 3) scEn.nd rfl (.inl rfl)) pgs_nil))) (fun _ _ _ _ _ => pts_one (pt_cmpR op_notN (pv 3) pe_non (nomark _))) (fun _ _ _ _ _ => pv 2) (fun _ _ _ _ _ => pv 3)))), ?_⟩
    obtain ⟨dx, pl, mv, en, kk0, h1, h2, h3, h4, h5⟩ := id hp.ob
    refine ⟨_, rfl, p, dx, _, rfl, h1, p, dx, _, _, rfl, h1, fl_p _ _ _ _ _, pl, rfl, ⟨_, SqT.of h2⟩, fun D nD => ?_⟩
    refine dc_mapW (xs := txs places) (fun _ => true) keyV (endOV es) walk_tup rfl (fun i H x H' y => ⟨y.1, y.2⟩) (fun H' s' => SqT.of (s' _ _ h2)) nD ?_ (by rw [List.filter_eq_self.mpr (fun _ _ => rfl)]; exact keys_txs nP) (fun x hx H' R s' r => r) ?_ ?_ ?_
    · unfold txs
      rw [List.length_map]
      exact small1000 (by omega)
    · intro x hx _ H' R s' r'
      obtain ⟨c, hc, rfl⟩ := List.mem_map.mp hx
      exact ⟨_, rfl, r'⟩
    · intro x hx _ H' R s' r'
      obtain ⟨c, hc, rfl⟩ := List.mem_map.mp hx
      exact ⟨_, rfl, p, dx, _, rfl, s' _ _ h1, fl_no _ _ _ _ _ (by decide +kernel), _, rfl, p, c, L, B, places, ms, es, rfl, hp.same s', r' H' (fun _ _ e => e)⟩
    intro H2 s2 eD
    rw [List.filter_eq_self.mpr (fun _ _ => rfl)] at eD
    refine ⟨_, rfl, D, _, rfl, eD, trivial, fun od => ⟨D, od, _, rfl, upd_same, fun D3 nD3 => ?_⟩⟩
    have sl : Same H (upd H2 D (.frz od (.dK ((txs places).map fun x => (keyV x, endOV es x))))) := fun b o eb => by
      rw [upd_ne (ne_of_none eb nD)]
      exact s2 _ _ eb
    have efz : (upd H2 D (.frz od (.dK ((txs places).map fun x => (keyV x, endOV es x))))) D = some (.frz od (.dK ((txs places).map fun x => (keyV x, endOV es x)))) := upd_same
    generalize upd H2 D (.frz od (.dK ((txs places).map fun x => (keyV x, endOV es x)))) = Hl at nD3 sl efz
    have lkv : ((txs places).map fun x => (keyV x, endOV es x)).length = places.length := by
      unfold txs
      rw [List.length_map, List.length_map]
    refine dc_it walk_items (fun i H' => Same Hl H' ∧ H' D3 = some (.dK (fkv (ordE (places.take i) es)))) ⟨same_upd nD3, upd_same⟩ (fun i H' _ h => h.1 _ _ efz) ?_ ?_
    · rintro i x H4 H4' hi ⟨s4, eD3⟩ ⟨T1, x1, x2, rfl, nT, rfl, hx1, hx2⟩
      have hi' : i < places.length := by rw [← lkv]; exact hi
      obtain ⟨c, hc⟩ : ∃ c, places[i]? = some c := ⟨_, List.getElem?_eq_getElem hi'⟩
      have hkv : ((txs places).map fun x => (keyV x, endOV es x))[i]? = some (Sum.inr (S c), endOV es (.str (S c))) := by
        unfold txs
        rw [List.getElem?_map, List.getElem?_map, hc]
        rfl
      have hx1 : (((txs places).map fun x => (keyV x, endOV es x))[i]?.map fun z => kV z.1) = some x1 := hx1
      have hx2 : ((txs places).map fun x => (keyV x, endOV es x))[i]?.map Prod.snd = some x2 := hx2
      rw [hkv] at hx1 hx2
      have e1 : x1 = .str (S c) := (Option.some.inj hx1).symm
      have e2 : x2 = endOV es (.str (S c)) := (Option.some.inj hx2).symm
      subst e1 e2
      have sm := same_upd (o := .tup [.str (S c), endOV es (.str (S c))]) nT
      have eD3' := sm _ _ eD3
      have s4m := s4.trans sm
      have et : places.take (i + 1) = places.take i ++ [c] := by
        rw [List.take_add_one, hc]
        rfl
      refine ⟨T1, _, rfl, SqT.of upd_same, rfl, _, _, rfl, _, _, rfl, rfl, rfl, _, rfl, rfl, _, rfl, ?_⟩
      generalize upd H4 T1 (.tup [.str (S c), endOV es (.str (S c))]) = H5 at sm eD3' s4m
      have eo : ordE (places.take (i + 1)) es = ordE (places.take i) es ++ [c].filterMap (fun p => (getF es p).map fun f => (p, f)) := by
        unfold ordE
        rw [et, List.filterMap_append]
      rw [eo]
      show if (!decide ((match getF es c with | none => V.non | some f => .str (S f)) = V.non)) = true then _ else _
      cases hg : getF es c with
      | none =>
        have e0 : [c].filterMap (fun p => (getF es p).map fun f => (p, f)) = [] := by simp [hg]
        rw [e0, List.append_nil]
        exact iteF ⟨s4m, eD3'⟩
      | some f =>
        have e0 : [c].filterMap (fun p => (getF es p).map fun f => (p, f)) = [(c, f)] := by simp [hg]
        rw [e0]
        have ev : endOV es (.str (S c)) = .str (S f) := by
          show (match getF es c with | none => V.non | some f => .str (S f)) = _
          rw [hg]
        refine iteT ⟨_, rfl, _, rfl, fkv (ordE (places.take i) es), Sum.inr (S c), rfl, eD3', ?_, fun b o eb => ?_, ?_⟩
        · unfold fkv
          rw [List.length_map]
          have := List.length_filterMap_le (fun p => (getF es p).map fun f => (p, f)) (places.take i)
          rw [List.length_take] at this
          exact small1000 (Nat.le_trans this (by omega))
        · rw [upd_ne (ne_of_none eb nD3)]
          exact s4m _ _ eb
        · rw [upd_same, ev, fkv_put]
          intro z
          unfold ordE at z
          rw [ordE_keys] at z
          have z2 := (List.mem_filter.mp z).1
          have h6 : (places.take (i + 1)).Nodup := (List.take_sublist _ _).nodup nP
          rw [et, List.nodup_append] at h6
          exact h6.2.2 _ z2 _ (List.mem_singleton.mpr rfl) rfl
    · rintro H4 ⟨s4, eD3⟩
      rw [lkv, List.take_length] at eD3
      exact q D3 H4 (sl.trans s4) (sl.free nD3) eD3
end
end Tb

set_option Elab.async false
set_option linter.all false
set_option maxRecDepth 100000
set_option maxHeartbeats 4000000
namespace Tb
abbrev sNeeded : PySem.Stmt := topS 30
abbrev sCleared : PySem.Stmt := topS 31
abbrev sPutBy : PySem.Stmt := topS 32
abbrev sLAll : PySem.Stmt := topS 48
abbrev sLNeed : PySem.Stmt := topS 49
abbrev sLClr : PySem.Stmt := topS 50
open PySem PySem.Spec PyProof.Rows L2 TL
theorem inj_on_of_nodup_map' {α β : Type} {f : α → β} : ∀ {l : List α}, (l.map f).Nodup → ∀ {a b : α}, a ∈ l → b ∈ l → f a = f b → a = b
  | x :: r, nd, a, b, ha, hb, e => by
    rw [List.map_cons, List.nodup_cons] at nd
    rcases List.mem_cons.mp ha with h1 | h1 <;> rcases List.mem_cons.mp hb with h2 | h2
    · rw [h1, h2]
    · exact absurd (List.mem_map.mpr ⟨b, h2, by rw [← e, h1]⟩) nd.1
    · exact absurd (List.mem_map.mpr ⟨a, h1, by rw [e, h2]⟩) nd.1
    · exact inj_on_of_nodup_map' nd.2 h1 h2 e
theorem paired_app {α β : Type} {F : α → β → Prop} : ∀ {a c : List α} {b d : List β}, Paired F a b → Paired F c d → Paired F (a ++ c) (b ++ d)
  | _, _, _, _, .nil, h => h
  | _, _, _, _, .cons h t, k => .cons h (paired_app t k)
/-! ### which boxes put which in front of others: a dict of lists -/
abbrev Nd := List Nat × Nat
abbrev Adj := List (Nd × Addr × List Nd)
def edF (pl to : List Nat) (B : List Nat) (q : List Nat × List Nat) : List (Nd × Nd) := (B.filter fun o => decide (o ∈ q.2)).map fun o => ((to, q.1.headD 0), (pl, o))
def edM (B : List Nat) (m : Mv) : List (Nd × Nd) := m.fl.flatMap (edF m.pl m.to B)
def edges (B : List Nat) (ms : List Mv) : List (Nd × Nd) := ms.flatMap (edM B)
def kvA (ad : Adj) : List (List Key × V) := ad.map fun e => (mkey e.1.1 e.1.2, V.ref e.2.1)
def LsAt (H : Hp) (a : Addr) (l : List Nd) : Prop := ∃ ts : List Addr, H a = some (.lst (ts.map V.ref)) ∧ Paired (KeyAt H) ts l
theorem LsAt.but {H H' : Hp} {a p : Addr} {l : List Nd} {o : HO} (hp : H p = some o) (no : ∀ xs, o ≠ .tup xs) (na : a ≠ p) (b : But p H H') (h : LsAt H a l) : LsAt H' a l := by
  obtain ⟨ts, e, k⟩ := h
  exact ⟨ts, b _ _ e na, Paired.mono (fun t q z => b _ _ z (ne_of z hp (by intro z; exact no _ z.symm))) k⟩
theorem LsAt.same {H H' : Hp} {a : Addr} {l : List Nd} (s : Same H H') (h : LsAt H a l) : LsAt H' a l := by
  obtain ⟨ts, e, k⟩ := h
  exact ⟨ts, s _ _ e, Paired.mono (fun t q z => s _ _ z) k⟩
structure AdAt (Hl H : Hp) (D : Addr) (ad : Adj) (E : List (Nd × Nd)) (n : Nat) : Prop where
  d : H D = some (.dT (kvA ad))
  nk : (ad.map (·.1)).Nodup
  na : (ad.map (·.2.1)).Nodup
  ls : ∀ e ∈ ad, LsAt H e.2.1 e.2.2 ∧ Hl e.2.1 = none ∧ e.2.2.length ≤ 26 * n
  ln : ad.length ≤ n
  ed : ∀ k q, (k, q) ∈ E ↔ ∃ e ∈ ad, e.1 = k ∧ q ∈ e.2.2
theorem AdAt.same {Hl H H' : Hp} {D : Addr} {ad : Adj} {E : List (Nd × Nd)} {n : Nat} (s : Same H H') (h : AdAt Hl H D ad E n) : AdAt Hl H' D ad E n :=
  ⟨s _ _ h.d, h.nk, h.na, fun e he => ⟨(h.ls e he).1.same s, (h.ls e he).2⟩, h.ln, h.ed⟩
theorem AdAt.keep {Hl H H' : Hp} {D : Addr} {ad : Adj} {E : List (Nd × Nd)} {n : Nat} (s : ∀ b o, H b = some o → (∀ kvs, o ≠ .dK kvs) → (∀ a u, o ≠ .frz a u) → H' b = some o) (h : AdAt Hl H D ad E n) : AdAt Hl H' D ad E n :=
  ⟨s _ _ h.d (by intro _ z; cases z) (by intro _ _ z; cases z), h.nk, h.na, fun e he => by
    obtain ⟨⟨ts, l1, l1'⟩, l2⟩ := h.ls e he
    exact ⟨⟨ts, s _ _ l1 (by intro _ z; cases z) (by intro _ _ z; cases z), Paired.mono (fun t q z => s _ _ z (by intro _ z; cases z) (by intro _ _ z; cases z)) l1'⟩, l2⟩, h.ln, h.ed⟩
theorem fkv_item {fl : Fil} {j : Nat} {x1 x2 : V} (h1 : ((fkv fl)[j]?.map fun kv => kV kv.1) = some x1) (h2 : (fkv fl)[j]?.map Prod.snd = some x2) : ∃ c, fl[j]? = some c ∧ x1 = .str (S c.1) ∧ x2 = .str (S c.2) := by
  unfold fkv at h1 h2
  rw [List.getElem?_map] at h1 h2
  cases z : fl[j]? with
  | none => rw [z] at h1; cases h1
  | some c =>
    rw [z] at h1 h2
    exact ⟨c, rfl, (Option.some.inj h1).symm, (Option.some.inj h2).symm⟩
theorem kvA_keys (ad : Adj) : (kvA ad).map (·.1) = (ad.map (·.1)).map fun k => mkey k.1 k.2 := by
  unfold kvA
  rw [List.map_map, List.map_map]
  rfl
theorem kvA_mem {ad : Adj} {k : Nd} : mkey k.1 k.2 ∈ (kvA ad).map (·.1) ↔ k ∈ ad.map (·.1) := by
  rw [kvA_keys, List.mem_map]
  constructor
  · rintro ⟨q, hq, e⟩
    obtain ⟨e1, e2⟩ := mkey_inj e
    rwa [show q = k from Prod.ext e1 e2] at hq
  · exact fun h => ⟨k, h, rfl⟩
theorem kvA_none {ad : Adj} {k : Nd} (h : valV (kvA ad) (mkey k.1 k.2) = none) : k ∉ ad.map (·.1) := fun z => by
  obtain ⟨e, he, rfl⟩ := List.mem_map.mp z
  induction ad with
  | nil => exact nomatch he
  | cons x r ih =>
    by_cases c : mkey x.1.1 x.1.2 = mkey e.1.1 e.1.2
    · rw [show kvA (x :: r) = (mkey x.1.1 x.1.2, V.ref x.2.1) :: kvA r from rfl, valV_pos c] at h
      cases h
    · rw [show kvA (x :: r) = (mkey x.1.1 x.1.2, V.ref x.2.1) :: kvA r from rfl, valV_neg c] at h
      rcases List.mem_cons.mp he with e' | e'
      · exact c (by rw [e'])
      · exact ih e' h (List.mem_map.mpr ⟨e, e', rfl⟩)
theorem kvA_some {ad : Adj} {k : Nd} {v : V} (h : valV (kvA ad) (mkey k.1 k.2) = some v) : ∃ e ∈ ad, e.1 = k ∧ v = .ref e.2.1 := by
  induction ad with
  | nil => cases h
  | cons x r ih =>
    by_cases c : mkey x.1.1 x.1.2 = mkey k.1 k.2
    · rw [show kvA (x :: r) = (mkey x.1.1 x.1.2, V.ref x.2.1) :: kvA r from rfl, valV_pos c] at h
      obtain ⟨e1, e2⟩ := mkey_inj c
      exact ⟨x, List.mem_cons_self, Prod.ext e1 e2, (Option.some.inj h).symm⟩
    · rw [show kvA (x :: r) = (mkey x.1.1 x.1.2, V.ref x.2.1) :: kvA r from rfl, valV_neg c] at h
      obtain ⟨e, he, z⟩ := ih h
      exact ⟨e, List.mem_cons_of_mem _ he, z⟩
/-- a list that is there grows -/
theorem AdAt.grow {Hl H H' : Hp} {D : Addr} {ad : Adj} {E : List (Nd × Nd)} {n : Nat} (h : AdAt Hl H D ad E n) {x : Nd × Addr × List Nd} (hx : x ∈ ad) {ts us : List Addr} {new : List Nd} (ex : H x.2.1 = some (.lst (ts.map V.ref))) (hus : Paired (KeyAt H) us new) (hts : Paired (KeyAt H) ts x.2.2) (ln : new.length ≤ 26)
    (eH : H' = upd H x.2.1 (.lst (ts.map V.ref ++ us.map V.ref))) : ∃ ad', AdAt Hl H' D ad' (E ++ new.map fun q => (x.1, q)) (n + 1) := by
  subst eH
  refine ⟨ad.map fun e => if e.1 = x.1 then (e.1, e.2.1, e.2.2 ++ new) else e, ?_⟩
  have m1 : ∀ e : Nd × Addr × List Nd, (if e.1 = x.1 then (e.1, e.2.1, e.2.2 ++ new) else e).1 = e.1 := fun e => by split <;> rfl
  have m2 : ∀ e : Nd × Addr × List Nd, (if e.1 = x.1 then (e.1, e.2.1, e.2.2 ++ new) else e).2.1 = e.2.1 := fun e => by split <;> rfl
  have k1 : (ad.map fun e => if e.1 = x.1 then (e.1, e.2.1, e.2.2 ++ new) else e).map (·.1) = ad.map (·.1) := by
    rw [List.map_map]
    exact List.map_congr_left fun e _ => m1 e
  have k2 : (ad.map fun e => if e.1 = x.1 then (e.1, e.2.1, e.2.2 ++ new) else e).map (·.2.1) = ad.map (·.2.1) := by
    rw [List.map_map]
    exact List.map_congr_left fun e _ => m2 e
  have uniq : ∀ e ∈ ad, e.1 = x.1 → e = x := fun e he c => by
    have := h.nk
    exact inj_on_of_nodup_map' this he hx c
  have keep : ∀ {t : Addr} {q : Nd}, KeyAt H t q → KeyAt (upd H x.2.1 (.lst (ts.map V.ref ++ us.map V.ref))) t q := fun {t q} z => by
    show _ = _
    rw [upd_ne (ne_of z ex (by intro z; cases z))]
    exact z
  refine ⟨?_, by rw [k1]; exact h.nk, by rw [k2]; exact h.na, fun e' he' => ?_, by rw [List.length_map]; exact Nat.le_succ_of_le h.ln, fun k q => ?_⟩
  · rw [upd_ne (fun z => by rw [← z, h.d] at ex; cases ex), h.d]
    unfold kvA
    rw [List.map_map]
    congr 2
    refine List.map_congr_left fun e _ => ?_
    show _ = (mkey (if e.1 = x.1 then (e.1, e.2.1, e.2.2 ++ new) else e).1.1 (if e.1 = x.1 then (e.1, e.2.1, e.2.2 ++ new) else e).1.2, V.ref (if e.1 = x.1 then (e.1, e.2.1, e.2.2 ++ new) else e).2.1)
    rw [m1, m2]
  · obtain ⟨e, he, rfl⟩ := List.mem_map.mp he'
    obtain ⟨l1, l2, l3⟩ := h.ls e he
    by_cases c : e.1 = x.1
    · have : e = x := uniq e he c
      subst this
      rw [if_pos rfl]
      refine ⟨⟨ts ++ us, by rw [upd_same, List.map_append], ?_⟩, l2, ?_⟩
      · exact paired_app (Paired.mono (fun t q z => keep z) hts) (Paired.mono (fun t q z => keep z) hus)
      · show (e.2.2 ++ new).length ≤ 26 * (n + 1)
        rw [List.length_append]
        omega
    · rw [if_neg c]
      refine ⟨?_, l2, by omega⟩
      have ne : e.2.1 ≠ x.2.1 := fun z => c (by rw [inj_on_of_nodup_map' h.na he hx z])
      exact LsAt.but ex (by intro _ z; cases z) ne (But.upd _ _ _) l1
  · rw [List.mem_append, h.ed]
    constructor
    · rintro (⟨e, he, e1, hq⟩ | hm)
      · refine ⟨_, List.mem_map.mpr ⟨e, he, rfl⟩, by rw [m1]; exact e1, ?_⟩
        split
        · exact List.mem_append_left _ hq
        · exact hq
      · obtain ⟨q', hq', e'⟩ := List.mem_map.mp hm
        injection e' with e1 e2
        subst e1 e2
        refine ⟨_, List.mem_map.mpr ⟨x, hx, rfl⟩, by rw [m1], ?_⟩
        rw [if_pos rfl]
        exact List.mem_append_right _ hq'
    · rintro ⟨e', he', e1, hq⟩
      obtain ⟨e, he, rfl⟩ := List.mem_map.mp he'
      rw [m1] at e1
      by_cases c : e.1 = x.1
      · rw [if_pos c] at hq
        rcases List.mem_append.mp hq with z | z
        · exact .inl ⟨e, he, e1, z⟩
        · exact .inr (List.mem_map.mpr ⟨q, z, by rw [← e1, c]⟩)
      · rw [if_neg c] at hq
        exact .inl ⟨e, he, e1, hq⟩
/-- a key more, its list new -/
theorem AdAt.put {Hl H H' : Hp} {D z : Addr} {ad : Adj} {E : List (Nd × Nd)} {n : Nat} {k : Nd} (h : AdAt Hl H D ad E n) (hk : k ∉ ad.map (·.1)) {us : List Addr} {new : List Nd} (nz : ∀ e ∈ ad, e.2.1 ≠ z) (ez : H z = some (.lst [])) (nl : Hl z = none) (hus : Paired (KeyAt H) us new) (ln : new.length ≤ 26)
    (eH : H' = upd (upd H D (.dT (putK (kvA ad) (mkey k.1 k.2) (.ref z)))) z (.lst ([] ++ us.map V.ref))) : ∃ ad', AdAt Hl H' D ad' (E ++ new.map fun q => (k, q)) (n + 1) := by
  subst eH
  have zD : D ≠ z := fun e => by rw [← e, h.d] at ez; cases ez
  have keep : ∀ {b : Addr} {o : HO}, H b = some o → b ≠ D → b ≠ z → (upd (upd H D (.dT (putK (kvA ad) (mkey k.1 k.2) (.ref z)))) z (.lst ([] ++ us.map V.ref))) b = some o := fun {b o} e n1 n2 => by
    rw [upd_ne n2, upd_ne n1]
    exact e
  have keepK : ∀ {t : Addr} {q : Nd}, KeyAt H t q → KeyAt (upd (upd H D (.dT (putK (kvA ad) (mkey k.1 k.2) (.ref z)))) z (.lst ([] ++ us.map V.ref))) t q := fun {t q} e => keep e (ne_of e h.d (by intro z; cases z)) (ne_of e ez (by intro z; cases z))
  refine ⟨ad ++ [(k, z, new)], ?_, ?_, ?_, fun e he => ?_, ?_, fun k' q => ?_⟩
  · rw [upd_ne zD, upd_same, putK_end _ (fun c => hk (kvA_mem.mp c))]
    unfold kvA
    rw [List.map_append]
    rfl
  · rw [List.map_append, List.nodup_append]
    exact ⟨h.nk, List.nodup_cons.mpr ⟨List.not_mem_nil, List.nodup_nil⟩, fun a ha b hb e => hk (by have hb' : b = k := List.mem_singleton.mp hb; rw [← hb', ← e]; exact ha)⟩
  · rw [List.map_append, List.nodup_append]
    refine ⟨h.na, List.nodup_cons.mpr ⟨List.not_mem_nil, List.nodup_nil⟩, fun a ha b hb e => ?_⟩
    obtain ⟨x, hx, rfl⟩ := List.mem_map.mp ha
    exact nz x hx (e.trans (List.mem_singleton.mp hb))
  · rcases List.mem_append.mp he with he | he
    · obtain ⟨⟨ts, l1, l1'⟩, l2, l3⟩ := h.ls e he
      exact ⟨⟨ts, keep l1 (fun c => by rw [c, h.d] at l1; cases l1) (nz e he), Paired.mono (fun t q c => keepK c) l1'⟩, l2, by omega⟩
    · rw [List.mem_singleton.mp he]
      exact ⟨⟨us, by rw [upd_same]; rfl, Paired.mono (fun t q c => keepK c) hus⟩, nl, by show new.length ≤ _; omega⟩
  · rw [List.length_append]
    have := h.ln
    show _ + 1 ≤ _
    omega
  · rw [List.mem_append, h.ed]
    constructor
    · rintro (⟨e, he, c⟩ | hm)
      · exact ⟨e, List.mem_append_left _ he, c⟩
      · obtain ⟨q', hq', e'⟩ := List.mem_map.mp hm
        injection e' with e1 e2
        subst e1 e2
        exact ⟨_, List.mem_append_right _ (List.mem_singleton.mpr rfl), rfl, hq'⟩
    · rintro ⟨e, he, c1, c2⟩
      rcases List.mem_append.mp he with he | he
      · exact .inl ⟨e, he, c1, c2⟩
      · have := List.mem_singleton.mp he
        subst this
        exact .inr (List.mem_map.mpr ⟨q, c2, by rw [← c1]⟩)
end Tb

set_option Elab.async false
set_option linter.all false
set_option maxRecDepth 100000
set_option maxHeartbeats 4000000
namespace Tb
open PySem PySem.Spec PyProof.Rows L2 TL
section
variable {P : Program} {w : World} {K : PySem.W.Frag} {mg : Str → Option Value} {base : Heap}
abbrev nPb : List Str := ["program", "found", "place", "_", "target", "fillings", "box", "filling", "ahead", "one"]
theorem scPb : FnScope nPb ["program"] (defScope sPutBy) := ⟨rfl, rfl, rfl, by decide +kernel, rfl, by decide +kernel, by decide +kernel⟩
def spPutBy (C : Addr) : Sp := fun vs H Q _ => ∃ (p : Addr) (L B : List Nat) (places : List (List Nat)) (ms : List Mv) (es : Fil), vs = [.ref p] ∧ PrAt C H p L B places ms es ∧ places.length ≤ 50 ∧ L.length ≤ 26 ∧ places.Nodup ∧ L.Nodup ∧ B.length ≤ 26 ∧ (ordM places L ms).length ≤ 250 ∧ (∀ m ∈ ordM places L ms, Ones m.fl ∧ m.fl.length ≤ 26) ∧
  ∀ D ad H', Same H H' → H D = none → AdAt H H' D ad (edges B (ordM places L ms)) 10000 → Q (.ref D) H'
theorem ok_putBy {f C : Addr} {fd : FuncData} {k : Nat} (F : Fun K "_put_by_moves" "_put_by_moves" sPutBy f fd) (T : PrTxt K mg C) (DM : Df P w K mg base (k + 3) "moves_of" ["program"] (spMovesOf C)) (DB : Prp P w K mg base C (k + 1) "boxes" (getSp C "_boxes")) :
    FnOk P w K mg base CX0 (k + 4) f fd ["program"] (spPutBy C) := by
  refine F.ok scPb (fun vs H Q E h => ?_) (fun cdv A outer s H vs Q E hr h => ?_)
  · obtain ⟨p, L, B, places, ms, es, rfl, _⟩ := h
    rfl
  · obtain ⟨p, L, B, places, ms, es, rfl, hp, lp, lL, nP, nL, lB, lM, hM, q⟩ := h
    have hu := hu_of hr
    refine ⟨_, pss_cons (ps_set (i := 1) scPb.nd rfl (.inl rfl) pe_newT)
      (pss_cons (ps_for PassesOwn.never rfl (pi_itemsT (pe_lockR (pe_df DM hr (pa_cons (pv 0) pa_nil)))) (pg_tup rfl (pgs_cons (pg_tup rfl (pgs_cons (pg_name (i := 2) scPb.nd rfl (.inr rfl)) (pgs_cons (pg_name (i := 3) scPb.nd rfl (.inl rfl)) pgs_nil))) (pgs_cons (pg_tup rfl (pgs_cons (pg_name (i := 4) scPb.nd rfl (.inl rfl)) (pgs_cons (pg_name (i := 5) scPb.nd rfl (.inl rfl)) pgs_nil))) pgs_nil)))
        (pss_one (ps_lock (ps_for PassesOwn.never rfl (pi_items (pv 5)) (pg_tup rfl (pgs_cons (pg_name (i := 6) scPb.nd rfl (.inl rfl)) (pgs_cons (pg_name (i := 7) scPb.nd rfl (.inr rfl)) pgs_nil)))
          (pss_cons (ps_setLc (i := 8) (own := [("one", 9)]) (g := gName 9) (tt := tTest (tOp (fun x y H Q => ∃ (c : Nat) (z : Str), x = .str ⟨#[c]⟩ ∧ y = .str z ∧ Q (.bl (decide (c ∈ z.cps.toList))) H) (tVar 9) (tVar 7))) (te := tTupS (tCons (tVar 2) (tCons (tVar 9) tNil))) rfl scPb.nd rfl rfl (sw_true rfl rfl rfl (by decide +kernel)) (pi_str (pe_prp DB T.cl hr (pv 0)))
              (blkOk_by (own := [("one", 9)]) (N := nPb) (sc := defScope sPutBy) (by decide +kernel)) (fun _ _ _ _ _ => pg_name (i := 9) scPb.nd rfl (.inl rfl)) (fun _ _ _ _ _ => pts_one (pt_cmpR op_in_sign (pv 9) (pv 7) (by rfl))) (fun _ _ _ _ _ => pe_tupS (pa_cons (pv 2) (pa_cons (pv 9) pa_nil))))
          (pss_one (ps_expr (pe_bm PySem.F.plainAttrs_list PySem.F.slot_list_extend PySem.F.type_list_extend mt_extend (pe_sdT hu (pv 1) (pe_tupS (pa_cons (pv 4) (pa_cons (pv 6) pa_nil))) (pe_lstS pa_nil) ⟨rfl, rfl, rfl, rfl⟩) (pa_cons (pv 8) pa_nil)))))))))
      (pss_one (ps_ret (pv 1)))), ?_⟩
    intro D H1 s1 n1 e1
    obtain ⟨dx, pl, mv, en, kk0, h1, h2, h3, h4, h5⟩ := id hp.ob
    refine ⟨_, rfl, p, L, B, places, ms, es, rfl, hp.same s1, lp, lL, nP, nL, fun Dm kk H2 s2 n2 e2 hkk => ⟨Dm, _, rfl, e2, trivial, fun od => ⟨Dm, od, kk, rfl, upd_same, ?_⟩⟩⟩
    have nHm : H Dm = none := s1.free n2
    have sl : Same H1 (upd H2 Dm (.frz od (.dT kk))) := fun b o eb => by
      rw [upd_ne (ne_of_none eb n2)]
      exact s2 _ _ eb
    have kp0 : ∀ b o, H2 b = some o → (∀ kvs, o ≠ .dT kvs) → (upd H2 Dm (.frz od (.dT kk))) b = some o := fun b o e no => by
      rw [upd_ne (ne_of e e2 (no _))]
      exact e
    have hkl : Paired (MvNew H1 (upd H2 Dm (.frz od (.dT kk)))) kk (ordM places L ms) := Paired.mono (fun kv m z => z.keep kp0) hkk
    have efz : (upd H2 Dm (.frz od (.dT kk))) Dm = some (.frz od (.dT kk)) := upd_same
    generalize upd H2 Dm (.frz od (.dT kk)) = Hl at sl hkl efz
    have nDm : Dm ≠ D := fun z => by rw [z, e1] at n2; cases n2
    have lkk : kk.length = (ordM places L ms).length := Paired.length hkl
    refine for_it walk_itemsT (fun i σ H' => ∃ v2 v3 v4 v5 v6 v7 v8 ad n, σ = [some (.ref p), some (.ref D), v2, v3, v4, v5, v6, v7, v8, none] ∧ But D Hl H' ∧ AdAt Hl H' D ad (edges B ((ordM places L ms).take i)) n ∧ n ≤ 26 * i)
      ⟨none, none, none, none, none, none, none, [], 0, rfl, But.refl _ _, ⟨sl _ _ e1, List.nodup_nil, List.nodup_nil, fun e he => (nomatch he), Nat.le_refl _, fun k q => ⟨fun z => (nomatch z), fun ⟨e, he, _⟩ => (nomatch he)⟩⟩, Nat.zero_le _⟩ (fun i σ H' _ ⟨_, _, _, _, _, _, _, _, _, _, b, _⟩ => b _ _ efz nDm) ?_ ?_
    · rintro i x σ H3 H3' hi ⟨v2, v3, v4, v5, v6, v7, v8, ad, n, rfl, b3, had, hn⟩ ⟨T1, kx, v, kq, hkv, hq, rfl, nT, rfl⟩
      obtain ⟨m, hm, hin⟩ := paired_get2 hkl hkv
      obtain ⟨ek, t, d, ev, ht, hd, _⟩ := hin
      have ek' : kx = mkey m.pl m.lt := ek
      have ev' : v = .ref t := ev
      subst ek' ev'
      obtain ⟨mon, m26⟩ := hM m (List.mem_of_getElem? hm)
      have sm := same_upd (o := .tup [.ref kq, .ref t]) nT
      have ntD : t ≠ D := ne_of ht (sl _ _ e1) (by intro z; cases z)
      have ndD : d ≠ D := ne_of hd (sl _ _ e1) (by intro z; cases z)
      have b3' := b3.trans (Same.but sm D)
      have hq3 : (upd H3 T1 (.tup [.ref kq, .ref t])) kq = some (.tup [.str (S m.pl), .str (S [m.lt])]) := sm _ _ hq
      have ht3 := b3' _ _ ht ntD
      have hd3 := b3' _ _ hd ndD
      refine ⟨T1, [.ref kq, .ref t], rfl, SqT.of upd_same, rfl, _, _, rfl, ⟨kq, _, rfl, SqT.of hq3, rfl, _, _, rfl, _, _, rfl, rfl, _, _, rfl, t, _, rfl, SqT.of ht3, rfl, _, _, rfl, _, _, rfl, rfl, rfl, ?_⟩⟩
      have had3 := had.same sm
      generalize upd H3 T1 (.tup [.ref kq, .ref t]) = H4 at b3' hd3 had3
      refine ⟨d, _, hd3, trivial, fun od2 => ⟨_, rfl, d, od2, fkv m.fl, rfl, upd_same, ?_⟩⟩
      have b4 : ∀ b o, Hl b = some o → b ≠ D → b ≠ d → (upd H4 d (.frz od2 (.dK (fkv m.fl)))) b = some o := fun b o e n1 n2 => by
        rw [upd_ne n2]
        exact b3' _ _ e n1
      have had4 : AdAt Hl (upd H4 d (.frz od2 (.dK (fkv m.fl)))) D ad (edges B ((ordM places L ms).take i)) n := had3.keep fun b o e no _ => by
        rw [upd_ne (ne_of e hd3 (no _))]
        exact e
      have efd : (upd H4 d (.frz od2 (.dK (fkv m.fl)))) d = some (.frz od2 (.dK (fkv m.fl))) := upd_same
      have back : ∀ H', But D (upd Hl d (.frz od2 (.dK (fkv m.fl)))) H' → But D Hl (upd H' d (.dK (fkv m.fl))) := fun H' b' b o e nD => by
        by_cases c : b = d
        · rw [c, hd] at e
          cases e
          rw [c, upd_same]
        · rw [upd_ne c]
          exact b' _ _ (by rw [upd_ne c]; exact e) nD
      generalize upd H4 d (.frz od2 (.dK (fkv m.fl))) = H5 at b4 had4 efd
      have b5 : But D (upd Hl d (.frz od2 (.dK (fkv m.fl)))) H5 := fun b o e nD => by
        by_cases c : b = d
        · rw [c, upd_same] at e
          rw [c, efd]
          exact e
        · rw [upd_ne c] at e
          exact b4 _ _ e nD c
      have efd5 : (upd Hl d (.frz od2 (.dK (fkv m.fl)))) d = some (.frz od2 (.dK (fkv m.fl))) := upd_same
      have nfr : ∀ {x : Addr}, Hl x = none → (upd Hl d (.frz od2 (.dK (fkv m.fl)))) x = none := fun {x} e => by
        rw [upd_ne (fun z => by rw [z, hd] at e; cases e)]
        exact e
      have p1 : (upd Hl d (.frz od2 (.dK (fkv m.fl)))) p = some (.ins C dx (flds L B pl mv en)) := by
        rw [upd_ne (ne_of (sl _ _ (s1 _ _ h1)) hd (by intro z; cases z))]
        exact sl _ _ (s1 _ _ h1)
      have pD1 : (upd Hl d (.frz od2 (.dK (fkv m.fl)))) D = some (.dT []) := by
        rw [upd_ne ndD.symm]
        exact sl _ _ e1
      have b4n : ∀ {x : Addr} {o : HO}, Hl x = some o → x ≠ D → x ≠ d → (upd Hl d (.frz od2 (.dK (fkv m.fl)))) x ≠ none := fun {x o} e _ n2 => by
        rw [upd_ne n2, e]
        intro z
        cases z
      generalize upd Hl d (.frz od2 (.dK (fkv m.fl))) = Hd at b4n back b5 efd5 nfr p1 pD1
      have npD : p ≠ D := ne_of (s1 _ _ h1) e1 (by intro z; cases z)
      have et : (ordM places L ms).take (i + 1) = (ordM places L ms).take i ++ [m] := by
        rw [List.take_add_one, hm]
        rfl
      refine for_it walk_items (fun j σ H' => ∃ v6 v7 v8 ad n, σ = [some (.ref p), some (.ref D), some (.str (S m.pl)), some (.str (S [m.lt])), some (.str (S m.to)), some (.ref d), v6, v7, v8, none] ∧ But D Hd H' ∧ AdAt Hl H' D ad (edges B ((ordM places L ms).take i) ++ (m.fl.take j).flatMap (edF m.pl m.to B)) n ∧ n ≤ 26 * i + j)
        ⟨v6, v7, v8, ad, n, rfl, b5, by simpa using had4, hn⟩ (fun j σ H' _ ⟨_, _, _, _, _, _, b, _⟩ => b _ _ efd5 ndD) ?_ ?_
      · rintro j x σ H6 H6' hj ⟨w6, w7, w8, ad6, n6, rfl, b6, had6, hn6⟩ ⟨T2, x1, x2, rfl, nT2, rfl, hx1, hx2⟩
        obtain ⟨c, hc, rfl, rfl⟩ := fkv_item hx1 hx2
        have sm6 := same_upd (o := .tup [.str (S c.1), .str (S c.2)]) nT2
        have b6' := b6.trans (Same.but sm6 D)
        have had6' := had6.same sm6
        refine ⟨T2, [.str (S c.1), .str (S c.2)], rfl, SqT.of upd_same, rfl, _, _, rfl, _, _, rfl, rfl, ?_⟩
        generalize upd H6 T2 (.tup [.str (S c.1), .str (S c.2)]) = H7 at b6' had6'
        have p7 := b6' _ _ p1 npD
        refine ⟨_, rfl, p, dx, _, rfl, p7, p, dx, _, _, rfl, p7, fl_b _ _ _ _ _, S B, rfl, fun Da nDa => ?_⟩
        refine lc_it walk_str (fun u H' => Same H7 H' ∧ ∃ ts : List Addr, H' Da = some (.lst (ts.map V.ref)) ∧ Paired (KeyAt H') ts (((B.take u).filter fun o => decide (o ∈ c.2)).map fun o => (m.pl, o))) ⟨same_upd nDa, [], upd_same, .nil⟩ (fun _ _ _ _ => trivial) ?_ ?_
        · rintro u y H8 H8' hu8 ⟨s8, ts, eDa, hts⟩ ⟨rfl, o, ho, rfl⟩
          have ho' : B[u]? = some o := by
            rw [show (S B).cps = B.toArray from rfl, List.getElem?_toArray] at ho
            exact ho
          have eu : B.take (u + 1) = B.take u ++ [o] := by
            rw [List.take_add_one, ho']
            rfl
          refine ⟨rfl, _, rfl, _, rfl, o, _, rfl, rfl, _, rfl, ?_⟩
          have em : decide (o ∈ (S c.2).cps.toList) = decide (o ∈ c.2) := rfl
          rw [em]
          by_cases hoc : o ∈ c.2
          · rw [decide_eq_true hoc]
            refine iteT ⟨_, rfl, _, rfl, by show 2 ≤ sizeLine; decide, fun t9 H9 s9 n9 e9 => ⟨_, s9 _ _ eDa, ?_, ?_, ts ++ [t9], ?_, ?_⟩⟩
            · have l3 := Paired.length hts
              rw [List.length_map] at l3
              have l4 := List.length_filter_le (fun o => decide (o ∈ c.2)) (B.take u)
              rw [List.length_take] at l4
              rw [List.length_map]
              exact small1000 (by omega)
            · intro b o eb
              rw [upd_ne (ne_of_none eb nDa)]
              exact s9 _ _ (s8 _ _ eb)
            · rw [upd_same, List.map_append]
              rfl
            · rw [eu, List.filter_append, List.map_append]
              have keepD : ∀ {b : Addr} {xs : List V}, H9 b = some (.tup xs) → (upd H9 Da (.lst (ts.map V.ref ++ [V.ref t9]))) b = some (.tup xs) := fun {b xs} e => by
                rw [upd_ne (ne_of e (s9 _ _ eDa) (by intro z; cases z))]
                exact e
              have ef : [o].filter (fun o => decide (o ∈ c.2)) = [o] := by simp [hoc]
              rw [ef]
              exact (Paired.mono (fun t' q' z => keepD (s9 _ _ z)) hts).snoc (keepD e9)
          · rw [decide_eq_false hoc]
            refine iteF ⟨s8, ts, eDa, ?_⟩
            have ef : [o].filter (fun o => decide (o ∈ c.2)) = [] := by simp [hoc]
            rw [eu, List.filter_append, ef, List.append_nil]
            exact hts
        · rintro H8 ⟨s8, ts, eDa, hts⟩
          rw [show (S B).cps.size = B.length from len_S _, List.take_length] at hts
          obtain ⟨b1, hb1⟩ := mon c (List.mem_of_getElem? hc)
          have ej : m.fl.take (j + 1) = m.fl.take j ++ [c] := by
            rw [List.take_add_one, hc]
            rfl
          have had8 := had6'.same s8
          refine ⟨_, rfl, D, rfl, ⟨_, had8.d⟩, _, rfl, _, rfl, by show 2 ≤ sizeLine; decide, fun kt H9 s9 n9 e9 => ⟨Nat.zero_le _, fun z H10 s10 n10 e10 => ?_⟩⟩
          have had10 := had8.same (s9.trans s10)
          have ekt : H10 kt = some (.tup ((mkey m.to b1).map kV)) := by
            rw [s10 _ _ e9]
            show _ = some (HO.tup [V.str (S m.to), V.str (S [b1])])
            rw [hb1]
          have eDa10 := s10 _ _ (s9 _ _ eDa)
          have hts10 : Paired (KeyAt H10) ts ((B.filter fun o => decide (o ∈ c.2)).map fun o => (m.pl, o)) := Paired.mono (fun t q z => s10 _ _ (s9 _ _ z)) hts
          have lnw : ((B.filter fun o => decide (o ∈ c.2)).map fun o => (m.pl, o)).length ≤ 26 := by
            rw [List.length_map]
            exact Nat.le_trans (List.length_filter_le _ _) lB
          have lts : (ts.map V.ref).length ≤ 26 := by
            rw [List.length_map, Paired.length hts10]
            exact lnw
          have b10 : But D Hd H10 := (b6'.trans (Same.but s8 D)).trans (Same.but (s9.trans s10) D)
          have eE : edges B ((ordM places L ms).take i) ++ (m.fl.take (j + 1)).flatMap (edF m.pl m.to B) = (edges B ((ordM places L ms).take i) ++ (m.fl.take j).flatMap (edF m.pl m.to B)) ++ ((B.filter fun o => decide (o ∈ c.2)).map fun o => (m.pl, o)).map fun q => ((m.to, b1), q) := by
            rw [ej, List.flatMap_append, List.append_assoc]
            congr 2
            show edF m.pl m.to B c ++ [] = _
            rw [List.append_nil, List.map_map]
            unfold edF
            rw [hb1]
            rfl
          have ln6 := had10.ln
          have hi2 : i < 250 := by omega
          have hj2 : j < 26 := by
            have := (List.getElem?_eq_some_iff.mp hc).1
            omega
          have big : (1000000 : Nat) < sizeLine := by rw [sizeLine_eq]; decide
          refine ⟨kvA ad6, mkey m.to b1, kt, had10.d, rfl, ekt, ?_, fun v hv => ?_, fun hv => ?_⟩
          · unfold kvA
            rw [List.length_map]
            omega
          · obtain ⟨x, hx, ex, rfl⟩ := kvA_some (k := (m.to, b1)) hv
            obtain ⟨⟨us, l1, l1'⟩, l2, l3⟩ := had10.ls x hx
            obtain ⟨ad', hA⟩ := had10.grow hx l1 hts10 l1' lnw rfl
            refine ⟨.inl ⟨rfl, _, SqL.of l1⟩, _, rfl, _, Da, _, _, rfl, rfl, l1, eDa10, ?_, _, _, _, ad', n6 + 1, rfl, ?_, ?_, by omega⟩
            · rw [List.length_map, Paired.length l1']
              omega
            · intro b o e nD
              rw [upd_ne (fun z => by rw [z, nfr l2] at e; cases e)]
              exact b10 _ _ e nD
            · rw [eE, ← ex]
              exact hA
          · have nx := kvA_none (k := (m.to, b1)) hv
            have nzD : z ≠ D := fun c => by rw [c, (had8.same s9).d] at n10; cases n10
            have nz : ∀ e ∈ ad6, e.2.1 ≠ z := fun e he c => by
              obtain ⟨⟨us, l1, _⟩, _⟩ := (had8.same s9).ls e he
              rw [c, n10] at l1
              cases l1
            have nHd : Hd z = none := by
              cases c : Hd z with
              | none => rfl
              | some o =>
                have := (b6'.trans (Same.but s8 D)).trans (Same.but s9 D) z o c nzD
                rw [n10] at this
                cases this
            have nHl : Hl z = none := by
              cases c : Hl z with
              | none => rfl
              | some o =>
                by_cases cd : z = d
                · rw [cd, efd5] at nHd
                  cases nHd
                · exact absurd nHd (b4n c nzD cd)
            obtain ⟨ad', hA⟩ := had10.put (k := (m.to, b1)) nx nz e10 nHl hts10 lnw rfl
            have ez : (upd H10 D (.dT (putK (kvA ad6) (mkey m.to b1) (.ref z)))) z = some (.lst []) := by
              rw [upd_ne nzD]
              exact e10
            have eDa11 : (upd H10 D (.dT (putK (kvA ad6) (mkey m.to b1) (.ref z)))) Da = some (.lst (ts.map V.ref)) := by
              rw [upd_ne (ne_of eDa10 had10.d (by intro z; cases z))]
              exact eDa10
            refine ⟨.inl ⟨rfl, _, SqL.of ez⟩, _, rfl, z, Da, _, _, rfl, rfl, ez, eDa11, ?_, _, _, _, ad', n6 + 1, rfl, ?_, ?_, by omega⟩
            · show 0 + _ ≤ _
              omega
            · intro b o e nD
              rw [upd_ne (fun c => by rw [c, nHd] at e; cases e), upd_ne nD]
              exact b10 _ _ e nD
            · rw [eE]
              exact hA
      · rintro σ H6 ⟨w6, w7, w8, ad6, n6, rfl, b6, had6, hn6⟩
        have lf : (fkv m.fl).length = m.fl.length := by
          unfold fkv
          rw [List.length_map]
        rw [lf] at had6 hn6
        rw [List.take_length] at had6
        refine ⟨b6 _ _ efd5 ndD, _, _, _, _, _, _, _, ad6, n6, rfl, back _ b6, ?_, by omega⟩
        rw [et]
        have e7 : edges B ((ordM places L ms).take i ++ [m]) = edges B ((ordM places L ms).take i) ++ m.fl.flatMap (edF m.pl m.to B) := by
          unfold edges edM
          rw [List.flatMap_append]
          simp
        rw [e7]
        exact had6.keep fun b o e _ no => by
          rw [upd_ne (ne_of e (b6 _ _ efd5 ndD) (no _ _))]
          exact e
    · rintro σ H3 ⟨v2, v3, v4, v5, v6, v7, v8, ad, n, rfl, b3, had, hn⟩
      rw [lkk, List.take_length] at had
      rw [lkk] at hn
      refine ⟨_, rfl, ?_⟩
      refine q D ad H3 (fun b o e => b3 _ _ (sl _ _ (s1 _ _ e)) (fun z => by rw [z, n1] at e; cases e)) n1 ⟨had.d, had.nk, had.na, fun e he => ?_, by have := had.ln; omega, had.ed⟩
      obtain ⟨l1, l2, l3⟩ := had.ls e he
      exact ⟨l1, s1.free (sl.free l2), by omega⟩
end
end Tb

set_option Elab.async false
set_option linter.all false
set_option maxRecDepth 100000
set_option maxHeartbeats 4000000
namespace Tb
open PySem PySem.Spec PyProof.Rows L2 TL
/-! ### a list comprehension with a test over anything that is walked -/
section
variable {te : TE} {tt : TT} {vs : List Nat} {σ : L2.St} {H1 : Hp} {D : Addr} {Qd : Hp → Prop} {sl : Nat} {J : It} {n : Nat} {G : Hp → Prop} {Y : Nat → Hp → V → Hp → Prop}
theorem lc_filtW {xs : List V} (keep : V → Bool) (g : V → V) (w : Walk J n G Y) (hn : n = xs.length) (hY : ∀ i H x H', Y i H x H' → H' = H ∧ xs[i]? = some x) (hG : ∀ H', Same H1 H' → G H') (nD : H1 D = none) (hl : xs.length < sizeLine)
    (ht : ∀ x ∈ xs, ∀ H' (R : Bool → Hp → Prop), Same H1 H' → R (keep x) H' → tt ((wipe σ vs).set sl (some x)) H' R)
    (he : ∀ x ∈ xs, keep x = true → ∀ H' (R : VK), Same H1 H' → (∀ H'', Same H' H'' → R (g x) H'') → te ((wipe σ vs).set sl (some x)) H' R)
    (hd : ∀ H', Same H1 H' → H' D = some (.lst ((xs.filter keep).map g)) → Qd H') (hw : ∀ x, wipe ((wipe σ vs).set sl (some x)) vs = wipe σ vs := by intro _; rfl) :
    ∃ W : Nat → Nat → Hp → Prop, (∃ m, W 0 m (upd H1 D (.lst []))) ∧ ∀ i m H, W i m H →
      (J.stop i H ∧ Qd H) ∨ (J.go i H ∧ ∃ Nx : Hp → Prop, (∀ H', Nx H' → ∃ m', m' < m ∧ W (i + 1) m' H') ∧ ∀ x H', J.yld i H x H' → gName sl x (wipe σ vs) H' fun σ2 H2 => wipe σ2 vs = wipe σ vs ∧ tt σ2 H2 fun b H3 =>
        if b = true then te σ2 H3 fun y H4 => ∃ acc, H4 D = some (.lst acc) ∧ acc.length < sizeLine ∧ Nx (upd H4 D (.lst (acc ++ [y]))) else Nx H3) := by
  refine lc_it w (fun i H => Same H1 H ∧ H D = some (.lst (((xs.take i).filter keep).map g))) ⟨same_upd nD, upd_same⟩ (fun i H _ h => hG H h.1) ?_ ?_
  · rintro i x H H' hi ⟨s, e⟩ y
    obtain ⟨rfl, hx⟩ := hY _ _ _ _ y
    have hm := List.mem_of_getElem? hx
    have et : xs.take (i + 1) = xs.take i ++ [x] := by
      rw [List.take_add_one, hx]
      rfl
    refine ⟨hw _, tif (k := keep x) (fun R r => ht x hm _ R s r) (fun hk => he x hm hk _ _ s fun H2 s2 => ⟨_, s2 _ _ e, ?_, fun b o eb => ?_, ?_⟩) (fun hk => ⟨s, ?_⟩)⟩
    · rw [List.length_map]
      refine Nat.lt_of_le_of_lt (List.length_filter_le _ _) ?_
      rw [List.length_take]
      exact Nat.lt_of_le_of_lt (Nat.min_le_right _ _) hl
    · rw [upd_ne (ne_of_none eb nD)]
      exact s2 _ _ (s _ _ eb)
    · rw [upd_same, et, List.filter_append, List.map_append]
      simp only [List.filter_cons, hk, if_true, List.filter_nil]
      rfl
    · rw [e, et, List.filter_append]
      simp [List.filter_cons, hk]
  · rintro H ⟨s, e⟩
    subst hn
    rw [List.take_length] at e
    exact hd H s e
end
end Tb

set_option Elab.async false
set_option linter.all false
set_option maxRecDepth 100000
set_option maxHeartbeats 4000000
namespace Tb
open PySem PySem.Spec PyProof.Rows L2 TL
/-! ### what is reached -/
inductive Rch (E : List (Nd × Nd)) (Sd : List Nd) : Nd → Prop
  | base {q : Nd} : q ∈ Sd → Rch E Sd q
  | step {k q : Nd} : Rch E Sd k → (k, q) ∈ E → Rch E Sd q
theorem Rch.closed {E : List (Nd × Nd)} {Sd fd : List Nd} (h1 : ∀ q ∈ Sd, q ∈ fd) (h2 : ∀ k q, (k, q) ∈ E → k ∈ fd → q ∈ fd) {q : Nd} (h : Rch E Sd q) : q ∈ fd := by
  induction h with
  | base h => exact h1 _ h
  | step _ e ih => exact h2 _ _ e ih
def seeds (B : List Nat) (es : Fil) : List Nd := es.flatMap fun q => (B.filter fun b => decide (b ∈ q.2)).map fun b => (q.1, b)
def kvT (fd : List Nd) : List (List Key × V) := fd.map fun q => (mkey q.1 q.2, V.bl true)
theorem kvT_isSome {fd : List Nd} {q : Nd} : (valV (kvT fd) (mkey q.1 q.2)).isSome = decide (q ∈ fd) := by
  induction fd with
  | nil => rfl
  | cons x r ih =>
    show (valV ((mkey x.1 x.2, V.bl true) :: kvT r) _).isSome = _
    by_cases c : mkey x.1 x.2 = mkey q.1 q.2
    · obtain ⟨e1, e2⟩ := mkey_inj c
      rw [valV_pos c, decide_eq_true (by rw [Prod.ext e1 e2]; exact List.mem_cons_self)]
      rfl
    · rw [valV_neg c, ih, decide_eq_decide]
      exact ⟨fun h => List.mem_cons_of_mem _ h, fun h => (List.mem_cons.mp h).resolve_left fun e => c (by rw [e])⟩
theorem kvT_put {fd : List Nd} {q : Nd} (h : q ∉ fd) : putK (kvT fd) (mkey q.1 q.2) (.bl true) = kvT (fd ++ [q]) := by
  rw [putK_end]
  · unfold kvT
    rw [List.map_append]
    rfl
  · intro z
    unfold kvT at z
    rw [List.map_map] at z
    obtain ⟨x, hx, e⟩ := List.mem_map.mp z
    obtain ⟨e1, e2⟩ := mkey_inj (show mkey x.1 x.2 = mkey q.1 q.2 from e)
    rw [Prod.ext e1 e2] at hx
    exact h hx
theorem kvT_old {fd : List Nd} {q : Nd} (h : q ∈ fd) : putK (kvT fd) (mkey q.1 q.2) (.bl true) = kvT fd := by
  unfold putK kvT
  rw [if_pos (List.any_eq_true.mpr ⟨(mkey q.1 q.2, V.bl true), List.mem_map.mpr ⟨q, h, rfl⟩, decide_eq_true rfl⟩)]
  rw [List.map_map]
  refine List.map_congr_left fun x _ => ?_
  show (if mkey x.1 x.2 = mkey q.1 q.2 then (mkey x.1 x.2, V.bl true) else (mkey x.1 x.2, V.bl true)) = _
  split <;> rfl
theorem paired_unsnoc {α β : Type} {F : α → β → Prop} : ∀ {a : List α} {b : List β} {x : α} {y : β}, Paired F (a ++ [x]) (b ++ [y]) → Paired F a b ∧ F x y
  | [], [], _, _, .cons h _ => ⟨.nil, h⟩
  | [], _ :: b, _, _, .cons _ t => by
    have := Paired.length t
    simp at this
  | _ :: a, [], _, _, .cons _ t => by
    have := Paired.length t
    simp at this
  | _ :: as, _ :: bs, _, _, .cons h t => ⟨.cons h (paired_unsnoc t).1, (paired_unsnoc t).2⟩
theorem while_N {c : TT} {tb : TS} {D : Ends} {σ : L2.St} {H : Hp} (W : Nat → L2.St → Hp → Prop) (h0 : ∃ m, W m σ H)
    (hs : ∀ m σ H, W m σ H → c σ H fun b H1 => if b = true then tb { D with nx := fun σ' H' => ∃ m', m' < m ∧ W m' σ' H', ct := fun σ' H' => ∃ m', m' < m ∧ W m' σ' H', bk := D.nx } σ H1 else D.nx σ H1)
    (mono : ∀ σ H Q Q', (∀ b H1, Q b H1 → Q' b H1) → c σ H Q → c σ H Q') : tWhile c tb D σ H := by
  refine ⟨W, h0, fun m σ H w => mono σ H _ _ (fun b H1 q => ?_) (hs m σ H w)⟩
  cases b with
  | true => exact ⟨_, fun σ' H' z => z, q⟩
  | false => exact q
theorem snoc_or {α : Type} : ∀ l : List α, l = [] ∨ ∃ a x, l = a ++ [x]
  | [] => .inl rfl
  | y :: r => .inr (by
    rcases snoc_or r with e | ⟨a, x, e⟩
    · exact ⟨[], y, by rw [e]; rfl⟩
    · exact ⟨y :: a, x, by rw [e]; rfl⟩)
theorem sub_len {fd U : List Nd} (nd : fd.Nodup) (h : ∀ q ∈ fd, q ∈ U) : fd.length ≤ U.length := List.Nodup.length_le_of_subset nd h
theorem edges_in {B : List Nat} {places : List (List Nat)} {L : List Nat} {ms : List Mv} {k q : Nd} (h : (k, q) ∈ edges B (ordM places L ms)) : q ∈ keysP places B := by
  unfold edges edM at h
  obtain ⟨m, hm, h⟩ := List.mem_flatMap.mp h
  obtain ⟨c, hc, h⟩ := List.mem_flatMap.mp h
  unfold edF at h
  obtain ⟨o, ho, e⟩ := List.mem_map.mp h
  injection e with _ e2
  unfold ordM at hm
  obtain ⟨r, hr, hf⟩ := List.mem_filterMap.mp hm
  obtain ⟨_, f1, _⟩ := findM_key hf
  rw [← e2]
  exact mem_keysP.mpr ⟨by rw [show (m.pl, o).1 = r.1 from f1]; exact (mem_keysP.mp hr).1, (List.mem_filter.mp ho).1⟩
theorem seeds_in {B : List Nat} {places : List (List Nat)} {es : Fil} {q : Nd} (h : q ∈ seeds B (ordE places es)) : q ∈ keysP places B := by
  unfold seeds at h
  obtain ⟨c, hc, h⟩ := List.mem_flatMap.mp h
  obtain ⟨b, hb, e⟩ := List.mem_map.mp h
  unfold ordE at hc
  obtain ⟨p, hp, hf⟩ := List.mem_filterMap.mp hc
  obtain ⟨f, _, e2⟩ := Option.map_eq_some_iff.mp hf
  rw [← e]
  refine mem_keysP.mpr ⟨?_, (List.mem_filter.mp hb).1⟩
  show c.1 ∈ places
  rw [← e2]
  exact hp
theorem seeds_len (B : List Nat) (es : Fil) : (seeds B es).length ≤ es.length * B.length := by
  unfold seeds
  induction es with
  | nil => simp
  | cons x r ih =>
    rw [List.flatMap_cons, List.length_append, List.length_map, List.length_cons, Nat.succ_mul]
    have := List.length_filter_le (fun b => decide (b ∈ x.2)) B
    omega
def needD (B : List Nat) (places : List (List Nat)) (fd : List Nd) : Fil := places.map fun p => (p, B.filter fun b => decide ((p, b) ∈ fd))
section
variable {P : Program} {w : World} {K : PySem.W.Frag} {mg : Str → Option Value} {base : Heap}
abbrev nNd : List Str := ["program", "ahead", "waiting", "one", "found", "place", "end", "box"]
theorem scNd : FnScope nNd ["program"] (defScope sNeeded) := ⟨rfl, rfl, rfl, by decide +kernel, rfl, by decide +kernel, by decide +kernel⟩
abbrev blkN : Scope := { kind := ScopeKind.function, names := [(Str.ofString ".0", NameKind.local), (Str.ofString "place", NameKind.cell), (Str.ofString "found", NameKind.cell), (Str.ofString "program", NameKind.cell)], isGenerator := false, isCoroutine := false }
def spNeeded (C : Addr) : Sp := fun vs H Q _ => ∃ (p : Addr) (L B : List Nat) (places : List (List Nat)) (ms : List Mv) (es : Fil), vs = [.ref p] ∧ PrAt C H p L B places ms es ∧ places.length ≤ 50 ∧ L.length ≤ 26 ∧ places.Nodup ∧ L.Nodup ∧ B.length ≤ 26 ∧ B.Nodup ∧ (ordM places L ms).length ≤ 250 ∧ (∀ m ∈ ordM places L ms, Ones m.fl ∧ m.fl.length ≤ 26) ∧
  ∀ D fd H', Same H H' → H D = none → (∀ q, q ∈ fd ↔ Rch (edges B (ordM places L ms)) (seeds B (ordE places es)) q) → H' D = some (.dK (fkv (needD B places fd))) → Q (.ref D) H'
theorem ok_needed {f C : Addr} {fd : FuncData} {k : Nat} (F : Fun K "needed" "needed" sNeeded f fd) (T : PrTxt K mg C) (DM : Df P w K mg base (k + 4) "_put_by_moves" ["program"] (spPutBy C)) (DE : Df P w K mg base (k + 3) "ends_of" ["program"] (spEndsOf C)) (DB : Prp P w K mg base C (k + 1) "boxes" (getSp C "_boxes")) (DP : Prp P w K mg base C (k + 1) "places" (getSp C "_places")) :
    FnOk P w K mg base CX0 (k + 5) f fd ["program"] (spNeeded C) := by
  refine F.ok scNd (fun vs H Q E h => ?_) (fun cdv A outer s H vs Q E hr h => ?_)
  · obtain ⟨p, L, B, places, ms, es, rfl, _⟩ := h
    rfl
  · obtain ⟨p, L, B, places, ms, es, rfl, hp, lp, lL, nP, nL, lB, nB, lM, hM, q⟩ := h
    have hu := hu_of hr
    have hu0 := Nat.lt_of_succ_lt hu
    refine ⟨_, pss_cons (ps_set (i := 1) scNd.nd rfl (.inl rfl) (pe_df DM hr (pa_cons (pv 0) pa_nil)))
      (pss_cons (ps_setLc2 (i := 2) (own := [("place", 5), ("end", 6), ("box", 7)]) (vs1 := [7]) (g := gTup K 2 (gCons (gName 5) (gCons (gName 6) gNil))) (tt := tYes) (wi1 := iStr (tProp C (getSp C "_boxes") [] E0 (tVar 0))) (g1 := gName 7) (tt1 := tTest (tOp (fun x y H Q => ∃ (c : Nat) (z : Str), x = .str ⟨#[c]⟩ ∧ y = .str z ∧ Q (.bl (decide (c ∈ z.cps.toList))) H) (tVar 7) (tVar 6))) (te := tTupS (tCons (tVar 5) (tCons (tVar 7) tNil))) rfl scNd.nd rfl rfl (sw_true rfl rfl rfl (by decide +kernel)) (pi_items (pe_lockR (pe_df DE hr (pa_cons (pv 0) pa_nil))))
          (blkOk_by (own := [("place", 5), ("end", 6), ("box", 7)]) (N := nNd) (sc := defScope sNeeded) (by decide +kernel)) (by decide) (fun _ _ _ _ _ => pg_tup rfl (pgs_cons (pg_name (i := 5) scNd.nd rfl (.inl rfl)) (pgs_cons (pg_name (i := 6) scNd.nd rfl (.inl rfl)) pgs_nil))) (fun _ _ _ _ _ => pts_nil) (fun _ _ _ _ _ => pi_str (pe_prp DB T.cl hr (pv 0))) (fun _ _ _ _ _ => pg_name (i := 7) scNd.nd rfl (.inl rfl)) (fun _ _ _ _ _ => pts_one (pt_cmpR op_in_sign (pv 7) (pv 6) (by rfl))) (fun _ _ _ _ _ => pe_tupS (pa_cons (pv 5) (pa_cons (pv 7) pa_nil))))
      (pss_cons (ps_set (i := 4) scNd.nd rfl (.inr rfl) (pe_dcT (own := [("one", 3)]) (g := gName 3) (tt := tYes) (tk := tVar 3) (tv := tC (.bl true)) hu0 rfl scNd.nd (pi_list (pv 2)) (blkOk_by (own := [("one", 3)]) (N := nNd) (sc := defScope sNeeded) (by decide +kernel))
          ⟨fun _ _ _ _ _ => pg_name (i := 3) scNd.nd rfl (.inl rfl), fun _ _ _ _ _ => pts_nil, fun _ _ _ _ _ => pv 3, fun _ _ _ _ _ => pe_bl⟩))
      (pss_cons (ps_while PassesOwn.never (pt_truth (pv 2) (fun _ => rfl))
        (pss_one (ps_for PassesOwn.never rfl (pi_list (pe_dget2 hu (pv 1) (pe_bm0 PySem.F.plainAttrs_list PySem.F.slot_list_pop PySem.F.type_list_pop mt_pop (pv 2)) (pe_lstS pa_nil) ⟨rfl, rfl, rfl, rfl⟩)) (pg_name (i := 3) scNd.nd rfl (.inl rfl))
          (pss_one (ps_if (pt_cmp (pc_dnotin hu (pv 3) (pv 4))) (pss_cons (ps_dput hu (pv 4) (pv 3) pe_bl rfl) (pss_one (ps_expr (pe_bm PySem.F.plainAttrs_list PySem.F.slot_list_append PySem.F.type_list_append mt_append (pv 2) (pa_cons (pv 3) pa_nil))))) pss_nil)))))
      (pss_one (ps_ret (pe_dc (own := [("place", 5)]) (g := gName 5) (tt := tYes) (tk := tVar 5) (tv := tM1 (fun x xs H Q => ∃ a p, ∃ ys : List Str, x = .str a ∧ xs = [.ref p] ∧ (SqL K H p (ys.map V.str) ∨ SqT K H p (ys.map V.str)) ∧ (ys.map (·.length)).sum + ys.length * a.length ≤ 16777216 ∧ Q (.str (Txt.join a ys)) H) (tC (.str "")) (tLc (iStr (tProp C (getSp C "_boxes") [] E0 (tVar 0))) (gName 7) (tB (tDIn (tTupS (tCons (tVar 5) (tCons (tVar 7) tNil))) (tVar 4))) (tVar 7) [7])) rfl scNd.nd (pi_tup (pe_prp DP T.cl hr (pv 0))) (blkOk_by (own := [("place", 5)]) (N := nNd) (sc := defScope sNeeded) (by decide +kernel)) (fun _ _ _ _ _ => pg_name (i := 5) scNd.nd rfl (.inr rfl)) (fun _ _ _ _ _ => pts_nil) (fun _ _ _ _ _ => pv 5)
          (fun _ _ _ _ _ => pe_join pe_str (pe_lc (own := [("box", 7)]) (g := gName 7) (tt := tB (tDIn (tTupS (tCons (tVar 5) (tCons (tVar 7) tNil))) (tVar 4))) (te := tVar 7) rfl scNd.nd (pi_str (pe_prp DB T.cl hr (pv 0))) (blkOk_by (own := [("box", 7)]) (N := nNd) (sc := blkN) (by decide +kernel)) (fun _ _ _ _ _ => pg_name (i := 7) scNd.nd rfl (.inl rfl)) (fun _ _ _ _ _ => pts_one (pt_cmp (pc_din hu (pe_tupS (pa_cons (pv 5) (pa_cons (pv 7) pa_nil))) (pv 4)))) (fun _ _ _ _ _ => pv 7))))))))), ?_⟩
    obtain ⟨dx, pl, mv, en, kk0, h1, h2, h3, h4, h5⟩ := id hp.ob
    have big : (1000000 : Nat) < sizeLine := by rw [sizeLine_eq]; decide
    refine ⟨_, rfl, p, L, B, places, ms, es, rfl, hp, lp, lL, nP, nL, lB, lM, hM, fun A1 ad H1 s1 n1 hA => ?_⟩
    refine ⟨_, rfl, p, L, B, places, ms, es, rfl, hp.same s1, lp, nP, fun De H2 s2 n2 e2 => ⟨De, _, rfl, e2, trivial, fun od => ⟨De, od, _, rfl, upd_same, fun W nW => ?_⟩⟩⟩
    have sl : Same H1 (upd H2 De (.frz od (.dK (fkv (ordE places es))))) := fun b o eb => by
      rw [upd_ne (ne_of_none eb n2)]
      exact s2 _ _ eb
    have efz : (upd H2 De (.frz od (.dK (fkv (ordE places es))))) De = some (.frz od (.dK (fkv (ordE places es)))) := upd_same
    generalize upd H2 De (.frz od (.dK (fkv (ordE places es)))) = Hl at nW sl efz
    have leo : (ordE places es).length ≤ 50 := Nat.le_trans (by unfold ordE; exact List.length_filterMap_le _ _) lp
    have lsd : ∀ i, (seeds B ((ordE places es).take i)).length ≤ 1300 := fun i => by
      refine Nat.le_trans (seeds_len _ _) ?_
      rw [List.length_take]
      exact Nat.mul_le_mul (Nat.le_trans (Nat.min_le_right _ _) leo) lB
    have lfe : (fkv (ordE places es)).length = (ordE places es).length := by
      unfold fkv
      rw [List.length_map]
    have sH : Same H Hl := s1.trans sl
    have nH1W : H1 W = none := sl.free nW
    refine lc2_out walk_items (fun i H' => Same Hl H' ∧ ∃ ts : List Addr, H' W = some (.lst (ts.map V.ref)) ∧ Paired (KeyAt H') ts (seeds B ((ordE places es).take i))) ⟨same_upd nW, [], upd_same, .nil⟩ (fun i H' _ h => h.1 _ _ efz) ?_ ?_
    · rintro i x H3 H3' hi ⟨s3, ts, eW, hts⟩ ⟨T1, x1, x2, rfl, nT, rfl, hx1, hx2⟩
      obtain ⟨c, hc, rfl, rfl⟩ := fkv_item hx1 hx2
      have sm := same_upd (o := .tup [.str (S c.1), .str (S c.2)]) nT
      have s3' := s3.trans sm
      have eW' := sm _ _ eW
      have hts' : Paired (KeyAt (upd H3 T1 (.tup [.str (S c.1), .str (S c.2)]))) ts (seeds B ((ordE places es).take i)) := Paired.mono (fun t q z => sm _ _ z) hts
      refine ⟨T1, [.str (S c.1), .str (S c.2)], rfl, SqT.of upd_same, rfl, _, _, rfl, _, _, rfl, rfl, rfl, ?_⟩
      generalize upd H3 T1 (.tup [.str (S c.1), .str (S c.2)]) = H4 at s3' eW' hts'
      have et : (ordE places es).take (i + 1) = (ordE places es).take i ++ [c] := by
        rw [List.take_add_one, hc]
        rfl
      have p4 := s3' _ _ (sH _ _ h1)
      refine tYes_if ⟨_, rfl, p, dx, _, rfl, p4, p, dx, _, _, rfl, p4, fl_b _ _ _ _ _, S B, rfl, ?_⟩
      refine lc2_in (walk_str (z := S B)) (fun j H' => Same Hl H' ∧ ∃ ts : List Addr, H' W = some (.lst (ts.map V.ref)) ∧ Paired (KeyAt H') ts (seeds B ((ordE places es).take i) ++ (((B.take j).filter fun b => decide (b ∈ c.2)).map fun b => (c.1, b)))) ⟨s3', ts, eW', by simpa using hts'⟩ (fun _ _ _ _ => trivial) ?_ ?_
      · rintro j y H5 H5' hj ⟨s5, ts5, eW5, hts5⟩ ⟨rfl, o, ho, rfl⟩
        have ho' : B[j]? = some o := by
          rw [show (S B).cps = B.toArray from rfl, List.getElem?_toArray] at ho
          exact ho
        have eu : B.take (j + 1) = B.take j ++ [o] := by
          rw [List.take_add_one, ho']
          rfl
        refine ⟨rfl, _, rfl, _, rfl, o, _, rfl, rfl, _, rfl, ?_⟩
        rw [show decide (o ∈ (S c.2).cps.toList) = decide (o ∈ c.2) from rfl]
        by_cases hoc : o ∈ c.2
        · rw [decide_eq_true hoc]
          refine iteT ⟨_, rfl, _, rfl, by show 2 ≤ sizeLine; decide, fun t9 H9 s9 n9 e9 => ⟨_, s9 _ _ eW5, ?_, ?_, ts5 ++ [t9], ?_, ?_⟩⟩
          · have l3 := Paired.length hts5
            rw [List.length_append, List.length_map] at l3
            have l4 := List.length_filter_le (fun o => decide (o ∈ c.2)) (B.take j)
            rw [List.length_take] at l4
            have l5 := lsd i
            rw [List.length_map]
            omega
          · intro b o eb
            rw [upd_ne (ne_of_none eb nW)]
            exact s9 _ _ (s5 _ _ eb)
          · rw [upd_same, List.map_append]
            rfl
          · rw [eu, List.filter_append, List.map_append, ← List.append_assoc]
            have keepD : ∀ {b : Addr} {xs : List V}, H9 b = some (.tup xs) → (upd H9 W (.lst (ts5.map V.ref ++ [V.ref t9]))) b = some (.tup xs) := fun {b xs} e => by
              rw [upd_ne (ne_of e (s9 _ _ eW5) (by intro z; cases z))]
              exact e
            have ef : [o].filter (fun o => decide (o ∈ c.2)) = [o] := by simp [hoc]
            rw [ef]
            exact (Paired.mono (fun t' q' z => keepD (s9 _ _ z)) hts5).snoc (keepD e9)
        · rw [decide_eq_false hoc]
          refine iteF ⟨s5, ts5, eW5, ?_⟩
          have ef : [o].filter (fun o => decide (o ∈ c.2)) = [] := by simp [hoc]
          rw [eu, List.filter_append, ef, List.append_nil]
          exact hts5
      · rintro H5 ⟨s5, ts5, eW5, hts5⟩
        rw [show (S B).cps.size = B.length from len_S _, List.take_length] at hts5
        refine ⟨s5, ts5, eW5, ?_⟩
        have e7 : seeds B ((ordE places es).take (i + 1)) = seeds B ((ordE places es).take i) ++ ((B.filter fun b => decide (b ∈ c.2)).map fun b => (c.1, b)) := by
          unfold seeds
          rw [et, List.flatMap_append]
          simp
        rw [e7]
        exact hts5
    rintro H3 ⟨s3, ts, eW, hts⟩
    rw [lfe, List.take_length] at hts
    -- found
    have lts := Paired.length hts
    have ls := lsd (ordE places es).length
    rw [List.take_length] at ls
    refine ⟨_, rfl, W, rfl, ⟨_, SqL.of eW⟩, fun F nF => dcT_it (walk_list (K := K) (a := W) (xs := ts.map V.ref)) (fun i H' => Same H3 H' ∧ ∃ fd : List Nd, H' F = some (.dT (kvT fd)) ∧ fd.Nodup ∧ ∀ q, q ∈ fd ↔ q ∈ (seeds B (ordE places es)).take i) ⟨same_upd nF, [], upd_same, List.nodup_nil, fun q => Iff.rfl⟩ (fun i H' _ h => SqL.of (h.1 _ _ eW)) ?_ ?_⟩
    · rintro i x H4 H4' hi ⟨s4, fd, eF, ndf, hfd⟩ ⟨rfl, hx⟩
      have hx : (ts.map V.ref)[i]? = some x := hx
      obtain ⟨t, ht, rfl⟩ : ∃ t, ts[i]? = some t ∧ x = .ref t := by
        rw [List.getElem?_map] at hx
        cases z : ts[i]? with
        | none => rw [z] at hx; cases hx
        | some c => rw [z] at hx; exact ⟨c, rfl, (Option.some.inj hx).symm⟩
      obtain ⟨q1, hq1, hkey⟩ := paired_get2 hts ht
      have hkey4 : H4' t = some (.tup ((mkey q1.1 q1.2).map kV)) := s4 _ _ hkey
      have et : (seeds B (ordE places es)).take (i + 1) = (seeds B (ordE places es)).take i ++ [q1] := by
        rw [List.take_add_one, hq1]
        rfl
      have lfd : fd.length ≤ 1300 := by
        have := List.Nodup.length_le_of_subset ndf (fun q hq => (List.take_sublist _ _).subset ((hfd q).mp hq))
        omega
      refine ⟨rfl, tYes_if ⟨_, rfl, kvT fd, mkey q1.1 q1.2, t, rfl, hkey4, eF, ?_, fun b o eb => ?_, ?_⟩⟩
      · unfold kvT
        rw [List.length_map]
        omega
      · rw [upd_ne (ne_of_none eb nF)]
        exact s4 _ _ eb
      · by_cases hq : q1 ∈ fd
        · rw [kvT_old hq]
          refine ⟨fd, upd_same, ndf, fun q => ?_⟩
          rw [et, List.mem_append, hfd]
          exact ⟨.inl, fun z => z.elim id fun z => by rw [List.mem_singleton.mp z]; exact (hfd q1).mp hq⟩
        · rw [kvT_put hq]
          refine ⟨fd ++ [q1], upd_same, ?_, fun q => ?_⟩
          · rw [List.nodup_append]
            exact ⟨ndf, List.nodup_cons.mpr ⟨List.not_mem_nil, List.nodup_nil⟩, fun a ha b hb e => hq (by rw [← List.mem_singleton.mp hb, ← e]; exact ha)⟩
          · rw [et, List.mem_append, List.mem_append, hfd]
    rintro H4 ⟨s4, fd0, eF, ndf0, hfd0⟩
    have lx2 : (ts.map V.ref).length = (seeds B (ordE places es)).length := by
      rw [List.length_map]
      exact lts
    rw [lx2, List.take_length] at hfd0
    have sH4 : Same H1 H4 := (sl.trans s3).trans s4
    have nH1F : H1 F = none := sl.free (s3.free nF)
    have eW4 := s4 _ _ eW
    have hts4 : Paired (KeyAt H4) ts (seeds B (ordE places es)) := Paired.mono (fun t q z => s4 _ _ z) hts
    have nWF : W ≠ F := fun z => by rw [z, nF] at eW; cases eW
    obtain ⟨U, eU⟩ : ∃ U, U = keysP places B := ⟨_, rfl⟩
    have lU : U.length ≤ 1300 := by
      rw [eU, keysP_len]
      exact Nat.mul_le_mul lp lB
    have inU : ∀ k q, (k, q) ∈ edges B (ordM places L ms) → q ∈ U := fun k q h => by rw [eU]; exact edges_in h
    have inU0 : ∀ q ∈ seeds B (ordE places es), q ∈ U := fun q h => by rw [eU]; exact seeds_in h
    generalize hE : edges B (ordM places L ms) = E at hA inU q
    generalize hSd : seeds B (ordE places es) = Sd at hts4 hfd0 inU0 q ls lts lx2
    show tWhile (fun σ H0 Q => tVar 2 σ H0 fun x H' => ∃ k, TruV K x H' k ∧ Q k H') _ _ [some (.ref p), some (.ref A1), some (.ref W), none, some (.ref F), none, none, none] H4
    refine while_N (fun m σ H' => ∃ v3 ts wl fd, σ = [some (.ref p), some (.ref A1), some (.ref W), v3, some (.ref F), none, none, none] ∧ Same H1 H' ∧ H' W = some (.lst (ts.map V.ref)) ∧ Paired (KeyAt H') ts wl ∧ H' F = some (.dT (kvT fd)) ∧ fd.Nodup ∧ (∀ q ∈ fd, q ∈ U) ∧ (∀ q ∈ wl, q ∈ fd) ∧ (∀ q ∈ fd, Rch E Sd q) ∧ (∀ q ∈ Sd, q ∈ fd) ∧ (∀ k q, (k, q) ∈ E → k ∈ fd → k ∉ wl → q ∈ fd) ∧ m = U.length - fd.length + wl.length ∧ m ≤ 2600)
      ⟨_, none, ts, Sd, fd0, rfl, sH4, eW4, hts4, eF, ndf0, fun q h => inU0 q ((hfd0 q).mp h), fun q h => (hfd0 q).mpr h, fun q h => .base ((hfd0 q).mp h), fun q h => (hfd0 q).mpr h, fun k q _ h1 h2 => absurd ((hfd0 k).mp h1) h2, rfl, by omega⟩ ?_ (fun σ H Q Q' m ⟨v, e, k, t, q⟩ => ⟨v, e, k, t, m _ _ q⟩)
    rintro m σ H5 ⟨v3, ts5, wl, fd, rfl, s5, eW5, hts5, eF5, ndf, hU, hwl, hR, hS, hC, hm, hm2⟩
    rcases snoc_or ts5 with e | ⟨ts6, t, e⟩
    · subst e
      refine ⟨_, rfl, false, .inl ⟨_, SqL.of eW5, rfl⟩, iteF ?_⟩
      have ewl : wl = [] := by
        have := Paired.length hts5
        exact List.eq_nil_of_length_eq_zero this.symm
      subst ewl
      have p5 := s5 _ _ (s1 _ _ h1)
      have pl5 := s5 _ _ (s1 _ _ h2)
      have hfd : ∀ q, q ∈ fd ↔ Rch E Sd q := fun q => ⟨hR q, fun h => h.closed hS fun k q e hk => hC k q e hk (List.not_mem_nil)⟩
      refine ⟨_, rfl, p, dx, _, rfl, p5, p, dx, _, _, rfl, p5, fl_p _ _ _ _ _, pl, rfl, ⟨_, SqT.of pl5⟩, fun D nD => ?_⟩
      refine dc_it (walk_tup (K := K) (a := pl) (xs := txs places)) (fun i H' => Same H5 H' ∧ H' D = some (.dK (fkv (needD B (places.take i) fd)))) ⟨same_upd nD, upd_same⟩ (fun i H' _ h => SqT.of (h.1 _ _ pl5)) ?_ ?_
      · rintro i x H6 H6' hi ⟨s6, eD⟩ ⟨rfl, hx⟩
        obtain ⟨pl', hpl, rfl⟩ : ∃ pl', places[i]? = some pl' ∧ x = .str (S pl') := by
          unfold txs at hx
          rw [List.getElem?_map] at hx
          cases z : places[i]? with
          | none => rw [z] at hx; cases hx
          | some c => rw [z] at hx; exact ⟨c, rfl, (Option.some.inj hx).symm⟩
        have et : places.take (i + 1) = places.take i ++ [pl'] := by
          rw [List.take_add_one, hpl]
          rfl
        have p6 := s6 _ _ p5
        refine ⟨rfl, tYes_if ⟨_, rfl, ⟨_, rfl⟩, _, rfl, p, dx, _, rfl, p6, p, dx, _, _, rfl, p6, fl_b _ _ _ _ _, S B, rfl, fun Dl nDl => ?_⟩⟩
        refine lc_it walk_str (fun u H' => Same H6' H' ∧ H' Dl = some (.lst (sgs ((B.take u).filter fun b => decide ((pl', b) ∈ fd))))) ⟨same_upd nDl, upd_same⟩ (fun _ _ _ _ => trivial) ?_ ?_
        · rintro u y H7 H7' hu7 ⟨s7, eDl⟩ ⟨rfl, o, ho, rfl⟩
          have ho' : B[u]? = some o := by
            rw [show (S B).cps = B.toArray from rfl, List.getElem?_toArray] at ho
            exact ho
          have eu : B.take (u + 1) = B.take u ++ [o] := by
            rw [List.take_add_one, ho']
            rfl
          refine ⟨rfl, _, rfl, _, rfl, by show 2 ≤ sizeLine; decide, fun kt H8 s8 n8 e8 => ⟨_, rfl, F, _, rfl, DGet.t (k := mkey pl' o) (s8 _ _ (s7 _ _ (s6 _ _ eF5))) e8, _, rfl, ?_⟩⟩
          rw [kvT_isSome (q := (pl', o))]
          have eDl8 := s8 _ _ eDl
          by_cases hoc : (pl', o) ∈ fd
          · rw [decide_eq_true hoc]
            refine iteT ⟨_, rfl, _, eDl8, ?_, ?_, ?_⟩
            · unfold sgs
              rw [List.length_map]
              have l4 := List.length_filter_le (fun b => decide ((pl', b) ∈ fd)) (B.take u)
              rw [List.length_take] at l4
              exact small1000 (by omega)
            · intro b o' eb
              rw [upd_ne (ne_of_none eb nDl)]
              exact s8 _ _ (s7 _ _ eb)
            · rw [upd_same, eu, List.filter_append]
              have ef : [o].filter (fun b => decide ((pl', b) ∈ fd)) = [o] := by simp [hoc]
              rw [ef]
              unfold sgs
              rw [List.map_append]
              rfl
          · rw [decide_eq_false hoc]
            have ef : [o].filter (fun b => decide ((pl', b) ∈ fd)) = [] := by simp [hoc]
            refine iteF ⟨s7.trans s8, ?_⟩
            rw [eDl8, eu, List.filter_append, ef, List.append_nil]
        · rintro H7 ⟨s7, eDl⟩
          rw [show (S B).cps.size = B.length from len_S _, List.take_length] at eDl
          have ey : sgs (B.filter fun b => decide ((pl', b) ∈ fd)) = ((B.filter fun b => decide ((pl', b) ∈ fd)).map fun b => S [b]).map V.str := by
            unfold sgs
            rw [List.map_map]
            rfl
          refine ⟨_, Dl, (B.filter fun b => decide ((pl', b) ∈ fd)).map fun b => S [b], rfl, rfl, .inl (SqL.of (by rw [eDl, ey])), ?_, ?_⟩
          · rw [sum_ones, str_empty, len_S]
            have l4 := List.length_filter_le (fun b => decide ((pl', b) ∈ fd)) B
            show _ + _ * 0 ≤ _
            omega
          · rw [str_empty, join_signs]
            refine ⟨fkv (needD B (places.take i) fd), Sum.inr (S pl'), rfl, s7 _ _ eD, ?_, fun b o eb => ?_, ?_⟩
            · unfold fkv needD
              rw [List.length_map, List.length_map, List.length_take]
              exact small1000 (by omega)
            · rw [upd_ne (ne_of_none eb nD)]
              exact s7 _ _ (s6 _ _ eb)
            · rw [upd_same, fkv_put]
              · unfold needD
                rw [et, List.map_append]
                rfl
              · intro z
                unfold needD at z
                rw [List.map_map] at z
                obtain ⟨p', hp', e'⟩ := List.mem_map.mp z
                have e' : p' = pl' := e'
                rw [e'] at hp'
                have h6 : (places.take (i + 1)).Nodup := (List.take_sublist _ _).nodup nP
                rw [et, List.nodup_append] at h6
                exact h6.2.2 _ hp' _ (List.mem_singleton.mpr rfl) rfl
      · rintro H6 ⟨s6, eD⟩
        have lx : (txs places).length = places.length := by
          unfold txs
          rw [List.length_map]
        rw [lx, List.take_length] at eD
        have sA := (s1.trans s5).trans s6
        exact q D fd H6 sA ((s1.trans s5).free nD) hfd eD
    · subst e
      rcases snoc_or wl with e2' | ⟨wl', k0, e2'⟩
      · subst e2'
        have := Paired.length hts5
        simp at this
      subst e2'
      obtain ⟨hts6, hk0⟩ := paired_unsnoc hts5
      refine ⟨_, rfl, true, .inl ⟨_, SqL.of eW5, by simp⟩, iteT ?_⟩
      have lfd : fd.length ≤ U.length := sub_len ndf hU
      have hA5 := hA.same s5
      have ek0 : H5 t = some (.tup ((mkey k0.1 k0.2).map kV)) := hk0
      have edl : ((ts6 ++ [t]).map V.ref).dropLast = ts6.map V.ref := by
        rw [List.map_append]
        exact List.dropLast_concat
      refine ⟨_, rfl, A1, rfl, .inr ⟨_, .inl hA5.d⟩, _, rfl, .inl ⟨rfl, _, SqL.of eW5⟩, W, _, .ref t, rfl, rfl, eW5, by simp, ?_⟩
      rw [edl]
      have nAW : A1 ≠ W := fun z => by
        have c := hA.d
        rw [z, nH1W] at c
        cases c
      have sW : Same H1 (upd H5 W (.lst (ts6.map V.ref))) := fun b o e => by
        rw [upd_ne (ne_of_none e nH1W)]
        exact s5 _ _ e
      have keepW : ∀ {b : Addr} {xs : List V}, H5 b = some (.tup xs) → (upd H5 W (.lst (ts6.map V.ref))) b = some (.tup xs) := fun {b xs} e => by
        rw [upd_ne (ne_of e eW5 (by intro z; cases z))]
        exact e
      have ek6 := keepW ek0
      have hts6' : Paired (KeyAt (upd H5 W (.lst (ts6.map V.ref)))) ts6 wl' := Paired.mono (fun t q z => keepW z) hts6
      have eF6 : (upd H5 W (.lst (ts6.map V.ref))) F = some (.dT (kvT fd)) := by
        rw [upd_ne nWF.symm]
        exact eF5
      have eW6 : (upd H5 W (.lst (ts6.map V.ref))) W = some (.lst (ts6.map V.ref)) := upd_same
      have hA6 := hA.same sW
      generalize upd H5 W (.lst (ts6.map V.ref)) = H6 at sW ek6 hts6' eF6 eW6 hA6
      refine ⟨Nat.zero_le _, fun z H7 s7 n7 e7 => ⟨_, DGet.t (k := mkey k0.1 k0.2) (s7 _ _ hA6.d) (s7 _ _ ek6), ?_⟩⟩
      obtain ⟨la, us, l, ela, hla, hus, hl, nla1, nla2⟩ : ∃ (la : Addr) (us : List Addr) (l : List Nd), ((valV (kvA ad) (mkey k0.1 k0.2)).getD (.ref z)) = .ref la ∧ H7 la = some (.lst (us.map V.ref)) ∧ Paired (KeyAt H7) us l ∧ (∀ q, (k0, q) ∈ E ↔ q ∈ l) ∧ la ≠ W ∧ la ≠ F := by
        cases hv : valV (kvA ad) (mkey k0.1 k0.2) with
        | some v =>
          obtain ⟨x, hx, ex, rfl⟩ := kvA_some hv
          obtain ⟨⟨us, l1, l1'⟩, l2, l3⟩ := (hA6.same s7).ls x hx
          obtain ⟨⟨us0, l10, _⟩, _, _⟩ := hA.ls x hx
          refine ⟨x.2.1, us, x.2.2, rfl, l1, l1', fun q => ?_, (fun c => by rw [c, nH1W] at l10; cases l10), (fun c => by rw [c, nH1F] at l10; cases l10)⟩
          rw [hA.ed]
          constructor
          · rintro ⟨e, he, c1, c2⟩
            rwa [inj_on_of_nodup_map' hA.nk he hx (c1.trans ex.symm)] at c2
          · exact fun h => ⟨x, hx, ex, h⟩
        | none =>
          refine ⟨z, [], [], rfl, e7, .nil, fun q => ?_, (fun c => by rw [c, eW6] at n7; cases n7), (fun c => by rw [c, eF6] at n7; cases n7)⟩
          rw [hA.ed]
          constructor
          · rintro ⟨e, he, c1, c2⟩
            exact absurd (List.mem_map.mpr ⟨e, he, c1⟩) (kvA_none hv)
          · exact fun h => (nomatch h)
      rw [ela]
      have lwl : (wl' ++ [k0]).length = wl'.length + 1 := by simp
      refine ⟨la, rfl, ⟨_, SqL.of hla⟩, for_list (K := K) (a := la) (xs := us.map V.ref) (fun j σ H' => ∃ v3 ts wl fd, σ = [some (.ref p), some (.ref A1), some (.ref W), v3, some (.ref F), none, none, none] ∧ Same H1 H' ∧ H' la = some (.lst (us.map V.ref)) ∧ Paired (KeyAt H') us l ∧ H' W = some (.lst (ts.map V.ref)) ∧ Paired (KeyAt H') ts wl ∧ H' F = some (.dT (kvT fd)) ∧ fd.Nodup ∧ (∀ q ∈ fd, q ∈ U) ∧ (∀ q ∈ wl, q ∈ fd) ∧ (∀ q ∈ fd, Rch E Sd q) ∧ (∀ q ∈ Sd, q ∈ fd) ∧ (∀ k q, (k, q) ∈ E → k ∈ fd → k ∉ wl → k ≠ k0 → q ∈ fd) ∧ (∀ q ∈ l.take j, q ∈ fd) ∧ k0 ∈ fd ∧ U.length - fd.length + wl.length < m)
        ⟨v3, ts6, wl', fd, rfl, sW.trans s7, hla, hus, s7 _ _ eW6, Paired.mono (fun t q z => s7 _ _ z) hts6', s7 _ _ eF6, ndf, hU, fun q h => hwl q (List.mem_append_left _ h), hR, hS, fun k q e h1 h2 h3 => hC k q e h1 (fun z => (List.mem_append.mp z).elim h2 fun z => h3 (List.mem_singleton.mp z)), fun q h => (nomatch h), hwl k0 (List.mem_append_right _ (List.mem_singleton.mpr rfl)), by rw [hm, lwl]; omega⟩ (fun j σ H' _ ⟨_, _, _, _, _, _, e, _⟩ => SqL.of e) ?_ ?_⟩
      · rintro j y σ H8 hj ⟨w3, ts8, wl8, fd8, rfl, s8, hla8, hus8, eW8, hts8, eF8, nd8, hU8, hwl8, hR8, hS8, hC8, hl8, hk8, hm8⟩
        obtain ⟨u, hu8, rfl⟩ : ∃ u, us[j]? = some u ∧ y = .ref u := by
          rw [List.getElem?_map] at hj
          cases z : us[j]? with
          | none => rw [z] at hj; cases hj
          | some c => rw [z] at hj; exact ⟨c, rfl, (Option.some.inj hj).symm⟩
        obtain ⟨q1, hq1, hku⟩ := paired_get2 hus8 hu8
        have eku : H8 u = some (.tup ((mkey q1.1 q1.2).map kV)) := hku
        have et : l.take (j + 1) = l.take j ++ [q1] := by
          rw [List.take_add_one, hq1]
          rfl
        have hE1 : (k0, q1) ∈ E := (hl q1).mpr (List.mem_of_getElem? hq1)
        have lfd8 : fd8.length ≤ U.length := sub_len nd8 hU8
        refine ⟨_, rfl, _, rfl, F, _, rfl, DGet.t (k := mkey q1.1 q1.2) eF8 eku, _, rfl, ?_⟩
        rw [kvT_isSome]
        by_cases hq : q1 ∈ fd8
        · rw [decide_eq_true hq]
          refine iteF ⟨_, ts8, wl8, fd8, rfl, s8, hla8, hus8, eW8, hts8, eF8, nd8, hU8, hwl8, hR8, hS8, hC8, fun q h => ?_, hk8, hm8⟩
          rw [et] at h
          exact (List.mem_append.mp h).elim (hl8 q) fun z => by rw [List.mem_singleton.mp z]; exact hq
        · rw [decide_eq_false hq]
          have lkv : (kvT fd8).length < sizeLine := by
            unfold kvT
            rw [List.length_map]
            omega
          refine iteT ⟨_, rfl, _, rfl, F, _, rfl, DPut.t (k := mkey q1.1 q1.2) eF8 eku lkv, ?_⟩
          rw [kvT_put hq]
          have nd9 : (fd8 ++ [q1]).Nodup := by
            rw [List.nodup_append]
            exact ⟨nd8, List.nodup_cons.mpr ⟨List.not_mem_nil, List.nodup_nil⟩, fun a ha b hb e => hq (by rw [← List.mem_singleton.mp hb, ← e]; exact ha)⟩
          have hU9 : ∀ q ∈ fd8 ++ [q1], q ∈ U := fun q h => (List.mem_append.mp h).elim (hU8 q) fun z => by rw [List.mem_singleton.mp z]; exact inU _ _ hE1
          have lfd9 := sub_len nd9 hU9
          rw [List.length_append] at lfd9
          have lfd9 : fd8.length + 1 ≤ U.length := lfd9
          have eW9 : (upd H8 F (.dT (kvT (fd8 ++ [q1])))) W = some (.lst (ts8.map V.ref)) := by
            rw [upd_ne nWF]
            exact eW8
          have lts8 := Paired.length hts8
          refine ⟨_, rfl, .inl ⟨rfl, _, SqL.of eW9⟩, _, rfl, W, _, _, rfl, rfl, eW9, by rw [List.length_map]; omega, ?_⟩
          have keep : ∀ {b : Addr} {o : HO}, H8 b = some o → b ≠ W → b ≠ F → (upd (upd H8 F (.dT (kvT (fd8 ++ [q1])))) W (.lst (ts8.map V.ref ++ [V.ref u]))) b = some o := fun {b o} e n1 n2 => by
            rw [upd_ne n1, upd_ne n2]
            exact e
          have keepK : ∀ {t : Addr} {q : Nd}, KeyAt H8 t q → KeyAt (upd (upd H8 F (.dT (kvT (fd8 ++ [q1])))) W (.lst (ts8.map V.ref ++ [V.ref u]))) t q := fun {t q} z => keep z (ne_of z eW8 (by intro z; cases z)) (ne_of z eF8 (by intro z; cases z))
          refine ⟨_, ts8 ++ [u], wl8 ++ [q1], fd8 ++ [q1], rfl, fun b o e => keep (s8 _ _ e) (ne_of_none e nH1W) (ne_of_none e nH1F), keep hla8 nla1 nla2, Paired.mono (fun t q z => keepK z) hus8, ?_, (Paired.mono (fun t q z => keepK z) hts8).snoc (keepK hku), ?_, nd9, hU9, ?_, ?_, fun q h => List.mem_append_left _ (hS8 q h), ?_, ?_, List.mem_append_left _ hk8, ?_⟩
          · rw [upd_same, List.map_append]
            rfl
          · rw [upd_ne nWF.symm, upd_same]
          · exact fun q h => (List.mem_append.mp h).elim (fun z => List.mem_append_left _ (hwl8 q z)) fun z => List.mem_append_right _ z
          · exact fun q h => (List.mem_append.mp h).elim (hR8 q) fun z => by rw [List.mem_singleton.mp z]; exact .step (hR8 k0 hk8) hE1
          · intro k q e h1 h2 h3
            have h2' : k ∉ wl8 := fun z => h2 (List.mem_append_left _ z)
            have h1' : k ∈ fd8 := (List.mem_append.mp h1).resolve_right fun z => h2 (List.mem_append_right _ z)
            exact List.mem_append_left _ (hC8 k q e h1' h2' h3)
          · intro q h
            rw [et] at h
            exact (List.mem_append.mp h).elim (fun z => List.mem_append_left _ (hl8 q z)) fun z => List.mem_append_right _ z
          · rw [List.length_append, List.length_append]
            show U.length - (fd8.length + 1) + (wl8.length + 1) < m
            omega
      · rintro σ H8 ⟨w3, ts8, wl8, fd8, rfl, s8, hla8, hus8, eW8, hts8, eF8, nd8, hU8, hwl8, hR8, hS8, hC8, hl8, hk8, hm8⟩
        have ll : (us.map V.ref).length = l.length := by
          rw [List.length_map]
          exact Paired.length hus
        rw [ll, List.take_length] at hl8
        refine ⟨_, hm8, _, ts8, wl8, fd8, rfl, s8, eW8, hts8, eF8, nd8, hU8, hwl8, hR8, hS8, fun k q e h1 h2 => ?_, rfl, by omega⟩
        by_cases c : k = k0
        · rw [c] at e
          exact hl8 q ((hl q).mp e)
        · exact hC8 k q e h1 h2 c
end
end Tb

set_option Elab.async false
set_option linter.all false
set_option maxRecDepth 100000
set_option maxHeartbeats 4000000
namespace Tb
open PySem PySem.Spec PyProof.Rows L2 TL
/-! ### a program without the boxes that nobody needs -/
def wantB (B : List Nat) (fd : List Nd) (p : List Nat) : List Nat := B.filter fun b => decide ((p, b) ∈ fd)
def clrF (W : List Nat) (fl : Fil) : Fil := fl.filter fun q => decide (q.1.headD 0 ∈ W)
def clrMv (B : List Nat) (fd : List Nd) (m : Mv) : Mv := ⟨m.pl, m.lt, m.to, clrF (wantB B fd m.to) m.fl⟩
def anyB (B : List Nat) (places : List (List Nat)) (fd : List Nd) : List Nat := (places.map (wantB B fd)).flatten
def clrB (B : List Nat) (places : List (List Nat)) (fd : List Nd) : List Nat := B.filter fun b => decide (b ∈ anyB B places fd)
def clrP (L B : List Nat) (places : List (List Nat)) (ms : List Mv) (es : Fil) (fd : List Nd) : Pt := ⟨L, clrB B places fd, places, (ordM places L ms).map (clrMv B fd), ordE places es⟩
theorem mem_wantB {B : List Nat} {fd : List Nd} {p : List Nat} {b : Nat} : b ∈ wantB B fd p ↔ b ∈ B ∧ (p, b) ∈ fd := by
  unfold wantB
  rw [List.mem_filter, decide_eq_true_iff]
theorem mem_anyB {B : List Nat} {places : List (List Nat)} {fd : List Nd} {b : Nat} : b ∈ anyB B places fd ↔ b ∈ B ∧ ∃ p ∈ places, (p, b) ∈ fd := by
  unfold anyB
  rw [List.mem_flatten]
  constructor
  · rintro ⟨l, hl, hb⟩
    obtain ⟨p, hp, rfl⟩ := List.mem_map.mp hl
    exact ⟨(mem_wantB.mp hb).1, p, hp, (mem_wantB.mp hb).2⟩
  · rintro ⟨h1, p, hp, h2⟩
    exact ⟨_, List.mem_map.mpr ⟨p, hp, rfl⟩, mem_wantB.mpr ⟨h1, h2⟩⟩
theorem mem_clrB {B : List Nat} {places : List (List Nat)} {fd : List Nd} {b : Nat} : b ∈ clrB B places fd ↔ b ∈ B ∧ ∃ p ∈ places, (p, b) ∈ fd := by
  unfold clrB
  rw [List.mem_filter, decide_eq_true_iff, mem_anyB]
  exact ⟨fun h => h.2, fun h => ⟨h.1, h⟩⟩
theorem getF_needD {B : List Nat} {fd : List Nd} {p : List Nat} : ∀ {places : List (List Nat)}, p ∈ places → getF (needD B places fd) p = some (wantB B fd p)
  | x :: r, h => by
    show getF ((x, wantB B fd x) :: needD B r fd) p = _
    rw [getF_cons]
    by_cases c : x = p
    · rw [if_pos c, ← c]
    · rw [if_neg c]
      exact getF_needD ((List.mem_cons.mp h).resolve_left fun e => c e.symm)
def keepW (W : List Nat) : V → Bool := fun v => match v with | .str x => decide ((tl x).headD 0 ∈ W) | _ => false
theorem clr_eq {fl : Fil} (nd : (fl.map (·.1)).Nodup) (W : List Nat) : ((txs (fl.map (·.1))).filter (keepW W)).map (fun x => (keyV x, fillV fl x)) = fkv (clrF W fl) := by
  unfold txs fkv clrF
  rw [List.map_map, List.filter_map, List.map_map]
  refine List.map_congr_left fun q hq => ?_
  show (Sum.inr (S q.1), V.str (S ((getF fl q.1).getD []))) = _
  rw [getF_mem nd (List.mem_filter.mp hq).1]
  rfl
theorem isFill_sub {a b : List Nat} {bs : List Nat} (s : List.Sublist a b) (h : isFill b bs = true) : isFill a bs = true := by
  obtain ⟨h1, h2⟩ := isFill_iff.mp h
  exact isFill_iff.mpr ⟨(s.filter _).nodup h1, fun c hc => h2 c ((s.filter _).subset hc)⟩
theorem mem_edges {B : List Nat} {ms : List Mv} {m : Mv} {q : List Nat × List Nat} {o : Nat} (hm : m ∈ ms) (hq : q ∈ m.fl) (ho : o ∈ q.2) (hB : o ∈ B) : ((m.to, q.1.headD 0), (m.pl, o)) ∈ edges B ms :=
  List.mem_flatMap.mpr ⟨m, hm, List.mem_flatMap.mpr ⟨q, hq, List.mem_map.mpr ⟨o, List.mem_filter.mpr ⟨hB, decide_eq_true ho⟩, rfl⟩⟩⟩
theorem mem_seeds {B : List Nat} {es : Fil} {q : List Nat × List Nat} {o : Nat} (hq : q ∈ es) (ho : o ∈ q.2) (hB : o ∈ B) : (q.1, o) ∈ seeds B es :=
  List.mem_flatMap.mpr ⟨q, hq, List.mem_map.mpr ⟨o, List.mem_filter.mpr ⟨hB, decide_eq_true ho⟩, rfl⟩⟩
theorem flat_sub {α β : Type} {f : α → List β} : ∀ {a b : List α}, List.Sublist a b → List.Sublist ((a.map f).flatten) ((b.map f).flatten)
  | _, _, .slnil => List.Sublist.refl _
  | _, _, .cons a s => by
    rw [List.map_cons, List.flatten_cons]
    exact (flat_sub s).trans (List.sublist_append_right _ _)
  | _, _, .cons_cons a s => by
    rw [List.map_cons, List.flatten_cons, List.map_cons, List.flatten_cons]
    exact (List.Sublist.refl _).append (flat_sub s)
theorem caps_of {q : List Nat × List Nat} {fl : Fil} {c : Nat} (hq : q ∈ fl) (hc : c ∈ caps q.2) : c ∈ caps (fl.map (·.2)).flatten :=
  List.mem_filter.mpr ⟨List.mem_flatten.mpr ⟨q.2, List.mem_map.mpr ⟨q, hq, rfl⟩, (List.mem_filter.mp hc).1⟩, (List.mem_filter.mp hc).2⟩
/-- what is left is right -/
theorem clr_parts {L B : List Nat} {places : List (List Nat)} {ms : List Mv} {es : Fil} {fd : List Nd} (g : PartsQ ⟨L, B, places, ms, es⟩) (hfd : ∀ q, q ∈ fd ↔ Rch (edges B (ordM places L ms)) (seeds B (ordE places es)) q) : PartsQ (clrP L B places ms es fd) := by
  have hk : ∀ m ∈ ms, m.pl ∈ places ∧ m.lt ∈ L := fun m hm => ⟨(g.mv m hm).1, (g.mv m hm).2.1⟩
  have hek : ∀ q ∈ es, q.1 ∈ places := fun q hq => (g.en q hq).1
  have hmm : ∀ {m : Mv}, m ∈ ordM places L ms ↔ m ∈ ms := fun {m} => mem_ordM g.ky hk
  have hee : ∀ {q : List Nat × List Nat}, q ∈ ordE places es ↔ q ∈ es := fun {q} => mem_ordE g.ek hek
  have hB := g.bo
  unfold okBoxes at hB
  simp only [Bool.and_eq_true, decide_eq_true_eq, List.all_eq_true] at hB
  have hL := g.le
  unfold okLetters at hL
  simp only [Bool.and_eq_true, decide_eq_true_eq, List.all_eq_true] at hL
  have hP := g.pl
  unfold okPlaces at hP
  simp only [Bool.and_eq_true, decide_eq_true_eq, List.all_eq_true] at hP
  have sB : List.Sublist (clrB B places fd) B := List.filter_sublist
  refine ⟨g.le, ?_, g.pl, ?_, ?_, ?_, ?_⟩
  · show okBoxes (clrB B places fd) = true
    unfold okBoxes
    rw [decide_eq_true (Nat.le_trans sB.length_le hB.1), decide_eq_true (sB.nodup hB.2.2), List.all_eq_true.mpr fun c hc => hB.2.1 c (sB.subset hc)]
    rfl
  · show (((ordM places L ms).map (clrMv B fd)).map fun m => (m.pl, m.lt)).Nodup
    rw [List.map_map]
    exact ordM_nd hP.2.2 hL.2.2.2
  · intro m' hm'
    obtain ⟨m, hm, rfl⟩ := List.mem_map.mp hm'
    obtain ⟨a, b, c, fq⟩ := g.mv m (hmm.mp hm)
    refine ⟨a, b, c, ⟨(List.Sublist.map _ List.filter_sublist).nodup fq.nd, ?_, Nat.le_trans (flat_sub List.filter_sublist).length_le fq.len⟩⟩
    have h := fq.ok
    unfold okFils okKeys at h ⊢
    rw [Bool.and_eq_true, List.all_eq_true] at h ⊢
    obtain ⟨hkeys, hfill⟩ := h
    obtain ⟨f1, f2⟩ := isFill_iff.mp hfill
    have hq : ∀ q ∈ clrF (wantB B fd m.to) m.fl, q ∈ m.fl ∧ (m.to, q.1.headD 0) ∈ fd ∧ ∃ b ∈ B, q.1 = [b] := fun q hq => by
      obtain ⟨h1, h2⟩ := List.mem_filter.mp hq
      obtain ⟨b, hb, e⟩ := List.mem_map.mp (of_decide_eq_true (hkeys _ (List.mem_map.mpr ⟨q, h1, rfl⟩)))
      exact ⟨h1, (mem_wantB.mp (of_decide_eq_true h2)).2, b, hb, e.symm⟩
    refine ⟨fun x hx => ?_, isFill_iff.mpr ⟨((flat_sub List.filter_sublist).filter _).nodup f1, fun x hx => ?_⟩⟩
    · obtain ⟨q, hq1, rfl⟩ := List.mem_map.mp hx
      obtain ⟨h1, h2, b, hb, e⟩ := hq q hq1
      rw [e] at h2
      rw [e]
      exact decide_eq_true (List.mem_map.mpr ⟨b, mem_clrB.mpr ⟨hb, m.to, c, h2⟩, rfl⟩)
    · obtain ⟨hx1, hx2⟩ := List.mem_filter.mp hx
      obtain ⟨f, hf, hxf⟩ := List.mem_flatten.mp hx1
      obtain ⟨q, hq1, rfl⟩ := List.mem_map.mp hf
      obtain ⟨h1, h2, b, hb, e⟩ := hq q hq1
      have xB : x ∈ B := f2 x (caps_of h1 (List.mem_filter.mpr ⟨hxf, hx2⟩))
      exact mem_clrB.mpr ⟨xB, m.pl, a, (hfd _).mpr (.step ((hfd _).mp h2) (mem_edges hm h1 hxf xB))⟩
  · exact ordE_nd es hP.2.2
  · intro q hq
    obtain ⟨a, b, c⟩ := g.en q (hee.mp hq)
    obtain ⟨f1, f2⟩ := isFill_iff.mp b
    refine ⟨a, isFill_iff.mpr ⟨f1, fun x hx => ?_⟩, c⟩
    have xB := f2 x hx
    exact mem_clrB.mpr ⟨xB, q.1, a, (hfd _).mpr (.base (mem_seeds hq (List.mem_filter.mp hx).1 xB))⟩
end Tb

set_option Elab.async false
set_option linter.all false
set_option maxRecDepth 100000
set_option maxHeartbeats 4000000
namespace Tb
open PySem PySem.Spec PyProof.Rows L2 TL
section
variable {P : Program} {w : World} {K : PySem.W.Frag} {mg : Str → Option Value} {base : Heap}
abbrev nClr : List Str := ["program", "wanted", "wanted_anywhere", "boxes", "moves", "key", "target", "fillings", "box"]
theorem scClr : FnScope nClr ["program"] (defScope sCleared) := ⟨rfl, rfl, rfl, by decide +kernel, rfl, by decide +kernel, by decide +kernel⟩
def spCleared (C : Addr) : Sp := fun vs H Q _ => ∃ (p : Addr) (L B : List Nat) (places : List (List Nat)) (ms : List Mv) (es : Fil), vs = [.ref p] ∧ PrAt C H p L B places ms es ∧ PartsQ ⟨L, B, places, ms, es⟩ ∧
  ∀ r fd H', Same H H' → H r = none → (∀ q, q ∈ fd ↔ Rch (edges B (ordM places L ms)) (seeds B (ordE places es)) q) → PrNew C H H' r (sortN L) (sortN (clrB B places fd)) places (((ordM places L ms).map (clrMv B fd)).map keptM) (ordE places es) → Q (.ref r) H'
theorem FilQ.six {bs : List Nat} {fl : Fil} (h : FilQ bs fl) (hb : bs.length ≤ 6) : fl.length ≤ 6 := by
  have h1 := h.ok
  unfold okFils okKeys at h1
  rw [Bool.and_eq_true, List.all_eq_true] at h1
  have h2 : (fl.map (·.1)).length ≤ (bs.map fun b => [b]).length := List.Nodup.length_le_of_subset h.nd fun x hx => of_decide_eq_true (h1.1 x hx)
  rw [List.length_map, List.length_map] at h2
  omega
theorem PartsQ.need {L B : List Nat} {places : List (List Nat)} {ms : List Mv} {es : Fil} (g : PartsQ ⟨L, B, places, ms, es⟩) : places.length ≤ 50 ∧ L.length ≤ 26 ∧ places.Nodup ∧ L.Nodup ∧ B.length ≤ 26 ∧ B.Nodup ∧ (ordM places L ms).length ≤ 250 ∧ (∀ m ∈ ordM places L ms, Ones m.fl ∧ m.fl.length ≤ 26) := by
  have hB := g.bo
  unfold okBoxes at hB
  simp only [Bool.and_eq_true, decide_eq_true_eq, List.all_eq_true] at hB
  have hL := g.le
  unfold okLetters at hL
  simp only [Bool.and_eq_true, decide_eq_true_eq, List.all_eq_true] at hL
  have hP := g.pl
  unfold okPlaces at hP
  simp only [Bool.and_eq_true, decide_eq_true_eq, List.all_eq_true] at hP
  have hmm : ∀ {m : Mv}, m ∈ ordM places L ms ↔ m ∈ ms := fun {m} => mem_ordM g.ky fun m hm => ⟨(g.mv m hm).1, (g.mv m hm).2.1⟩
  refine ⟨hP.1.2, Nat.le_trans hL.2.2.1 (by decide), hP.2.2, hL.2.2.2, Nat.le_trans hB.1 (by decide), hB.2.2, ?_, fun m hm => ?_⟩
  · have h1 : (ordM places L ms).length ≤ (keysP places L).length := by
      unfold ordM
      exact List.length_filterMap_le _ _
    rw [keysP_len] at h1
    have : places.length * L.length ≤ 50 * 5 := Nat.mul_le_mul hP.1.2 hL.2.2.1
    omega
  · obtain ⟨_, _, _, fq⟩ := g.mv m (hmm.mp hm)
    exact ⟨fq.ones, Nat.le_trans (fq.six hB.1) (by decide)⟩
theorem ok_cleared {f C : Addr} {fd : FuncData} {k : Nat} (F : Fun K "cleared" "cleared" sCleared f fd) (T : PrTxt K mg C) (DN : Df P w K mg base (k + 5) "needed" ["program"] (spNeeded C)) (DM : Df P w K mg base (k + 3) "moves_of" ["program"] (spMovesOf C)) (DE : Df P w K mg base (k + 3) "ends_of" ["program"] (spEndsOf C)) (DB : Prp P w K mg base C (k + 1) "boxes" (getSp C "_boxes")) (DP : Prp P w K mg base C (k + 1) "places" (getSp C "_places")) (DL : Prp P w K mg base C (k + 1) "letters" (getSp C "_letters")) (DK : Mkr P w K mg base C (k + 5)) :
    FnOk P w K mg base CX0 (k + 7) f fd ["program"] (spCleared C) := by
  refine F.ok scClr (fun vs H Q E h => ?_) (fun cdv A outer s H vs Q E hr h => ?_)
  · obtain ⟨p, L, B, places, ms, es, rfl, _⟩ := h
    rfl
  · obtain ⟨p, L, B, places, ms, es, rfl, hp, g, q⟩ := h
    obtain ⟨lp, lL, nP, nL, lB, nB, lM, hM⟩ := g.need
    have hu := hu_of hr
    have hu0 := Nat.lt_of_succ_lt hu
    refine ⟨_, pss_cons (ps_set (i := 1) scClr.nd rfl (.inr rfl) (pe_df DN hr (pa_cons (pv 0) pa_nil)))
      (pss_cons (ps_set (i := 2) scClr.nd rfl (.inr rfl) (pe_joinV rfl pe_str (pv 1)))
      (pss_cons (ps_set (i := 3) scClr.nd rfl (.inl rfl) (pe_join pe_str (pe_lc (own := [("box", 8)]) (g := gName 8) (tt := tTest (tOp (fun x y H Q => ∃ (c : Nat) (z : Str), x = .str ⟨#[c]⟩ ∧ y = .str z ∧ Q (.bl (decide (c ∈ z.cps.toList))) H) (tVar 8) (tVar 2))) (te := tVar 8) rfl scClr.nd (pi_str (pe_prp DB T.cl hr (pv 0)))
          (blkOk_by (own := [("box", 8)]) (N := nClr) (sc := defScope sCleared) (by decide +kernel)) (fun _ _ _ _ _ => pg_name (i := 8) scClr.nd rfl (.inl rfl)) (fun _ _ _ _ _ => pts_one (pt_cmpR op_in_sign (pv 8) (pv 2) (by rfl))) (fun _ _ _ _ _ => pv 8))))
      (pss_cons (ps_set (i := 4) scClr.nd rfl (.inl rfl) pe_newT)
      (pss_cons (ps_for PassesOwn.never rfl (pi_itemsT (pe_lockR (pe_df DM hr (pa_cons (pv 0) pa_nil)))) (pg_tup rfl (pgs_cons (pg_name (i := 5) scClr.nd rfl (.inl rfl)) (pgs_cons (pg_tup rfl (pgs_cons (pg_name (i := 6) scClr.nd rfl (.inr rfl)) (pgs_cons (pg_name (i := 7) scClr.nd rfl (.inr rfl)) pgs_nil))) pgs_nil)))
        (pss_one (ps_dput hu (pv 4) (pv 5) (pe_tupS (pa_cons (pv 6) (pa_cons (pe_lock (pe_dc (own := [("box", 8)]) (g := gName 8) (tt := tTest (tOp (fun x y H Q => ∃ (c : Nat) (z : Str), x = .str ⟨#[c]⟩ ∧ y = .str z ∧ Q (.bl (decide (c ∈ z.cps.toList))) H) (tVar 8) (tDGet (tVar 1) (tVar 6)))) (tk := tVar 8) (tv := tDGet (tVar 7) (tVar 8)) rfl scClr.nd (pi_keys (pv 7))
            (blkOk_by (own := [("box", 8)]) (N := nClr) (sc := defScope sCleared) (by decide +kernel)) (fun _ _ _ _ _ => pg_name (i := 8) scClr.nd rfl (.inl rfl)) (fun _ _ _ _ _ => pts_one (pt_cmpR op_in_sign (pv 8) (pe_dget hu (pv 1) (pv 6) (fun _ _ => rfl)) (by rfl))) (fun _ _ _ _ _ => pv 8) (fun _ _ _ _ _ => pe_dget hu (pv 7) (pv 8) (fun _ _ => rfl)))) pa_nil))) rfl)))
      (pss_one (ps_ret (pe_prog DK hr T.mgC (pa_cons (pe_prp DL T.cl hr (pv 0)) (pa_cons (pv 3) (pa_cons (pe_prp DP T.cl hr (pv 0)) (pa_cons (pv 4) (pa_cons (pe_df DE hr (pa_cons (pv 0) pa_nil)) pa_nil)))))))))))), ?_⟩
    obtain ⟨dx, pl, mv, en, kk0, h1, h2, h3, h4, h5⟩ := id hp.ob
    have big : (1000000 : Nat) < sizeLine := by rw [sizeLine_eq]; decide
    refine ⟨_, rfl, p, L, B, places, ms, es, rfl, hp, lp, lL, nP, nL, lB, nB, lM, hM, fun Wd fd H1 s1 n1 hfd e1 => ?_⟩
    have eys : (fkv (needD B places fd)).map Prod.snd = ((places.map (wantB B fd)).map S).map V.str := by
      unfold fkv needD
      rw [List.map_map, List.map_map, List.map_map, List.map_map]
      rfl
    have lany : (anyB B places fd).length ≤ 1300 := by
      unfold anyB
      rw [List.length_flatten, List.map_map]
      have : ∀ l : List (List Nat), (l.map (List.length ∘ wantB B fd)).sum ≤ l.length * 26 := by
        intro l
        induction l with
        | nil => simp
        | cons x r ih =>
          rw [List.map_cons, List.sum_cons, List.length_cons, Nat.succ_mul]
          have h := List.length_filter_le (fun b => decide ((x, b) ∈ fd)) B
          have h' : (List.length ∘ wantB B fd) x ≤ B.length := h
          omega
      have h2 := this places
      omega
    refine ⟨_, rfl, _, rfl, Wd, _, _, rfl, e1, eys, ?_, fun H2 s2 => ?_⟩
    · rw [len_fil, str_empty, len_S]
      show (anyB B places fd).length + _ * 0 ≤ _
      omega
    rw [str_empty, join_fil]
    show gName 2 (.str (S (anyB B places fd))) _ _ _
    have e2 := s2 _ _ e1
    have p2 := s2 _ _ (s1 _ _ h1)
    -- the boxes that are left
    refine ⟨⟨_, rfl⟩, _, rfl, p, dx, _, rfl, p2, p, dx, _, _, rfl, p2, fl_b _ _ _ _ _, S B, rfl, fun D nD => lc_filtW (xs := sgs B) (keepW (anyB B places fd)) id walk_str (by unfold sgs; rw [List.length_map]; rfl) (fun i H x H' y => str_item y) (fun _ _ => trivial) nD ?_ ?_ ?_ ?_⟩
    · unfold sgs
      rw [List.length_map]
      omega
    · intro x hx H' R s' r
      obtain ⟨b, hb, rfl⟩ := List.mem_map.mp hx
      exact ⟨_, rfl, _, rfl, b, _, rfl, rfl, _, rfl, r⟩
    · intro x hx _ H' R s' r
      exact ⟨_, rfl, r H' (fun _ _ e => e)⟩
    intro H3 s3 e3
    have ens : ((sgs B).filter (keepW (anyB B places fd))).map id = ((clrB B places fd).map fun b => S [b]).map V.str := by
      unfold sgs clrB
      rw [List.map_id, List.filter_map, List.map_map]
      rfl
    rw [ens] at e3
    refine ⟨_, D, (clrB B places fd).map fun b => S [b], rfl, rfl, .inl (SqL.of e3), ?_, ?_⟩
    · rw [sum_ones, len_S]
      have l4 : (clrB B places fd).length ≤ B.length := List.length_filter_le _ _
      show _ + _ * 0 ≤ _
      omega
    rw [join_signs]
    -- the moves
    intro Mv H4 s4 n4 e4
    have s14 : Same H1 H4 := (s2.trans s3).trans s4
    have sH4 : Same H H4 := s1.trans s14
    have w4 := s14 _ _ e1
    refine ⟨_, rfl, p, L, B, places, ms, es, rfl, hp.same sH4, lp, lL, nP, nL, fun Dm kk H5 s5 n5 e5 hkk => ⟨Dm, _, rfl, e5, trivial, fun od => ⟨Dm, od, kk, rfl, upd_same, ?_⟩⟩⟩
    have sl : Same H4 (upd H5 Dm (.frz od (.dT kk))) := fun b o eb => by
      rw [upd_ne (ne_of_none eb n5)]
      exact s5 _ _ eb
    have kp0 : ∀ b o, H5 b = some o → (∀ kvs, o ≠ .dT kvs) → (upd H5 Dm (.frz od (.dT kk))) b = some o := fun b o e no => by
      rw [upd_ne (ne_of e e5 (no _))]
      exact e
    have hkl : Paired (MvNew H4 (upd H5 Dm (.frz od (.dT kk)))) kk (ordM places L ms) := Paired.mono (fun kv m z => z.keep kp0) hkk
    have efz : (upd H5 Dm (.frz od (.dT kk))) Dm = some (.frz od (.dT kk)) := upd_same
    generalize upd H5 Dm (.frz od (.dT kk)) = Hl at sl hkl efz
    have nDm : Dm ≠ Mv := fun z => by rw [z, e4] at n5; cases n5
    have lkk : kk.length = (ordM places L ms).length := Paired.length hkl
    have eMl : Hl Mv = some (.dT []) := sl _ _ e4
    have nHMv : H Mv = none := (s1.trans (s2.trans s3)).free n4
    refine for_it walk_itemsT (fun i σ H' => ∃ v5 v6 v7 kk2, σ = [some (.ref p), some (.ref Wd), some (.str (S (anyB B places fd))), some (.str (S (clrB B places fd))), some (.ref Mv), v5, v6, v7, none] ∧ But Mv Hl H' ∧ H' Mv = some (.dT kk2) ∧ Paired (MvNew (fun _ => none) H') kk2 (((ordM places L ms).take i).map (clrMv B fd)))
      ⟨none, none, none, [], rfl, But.refl _ _, eMl, .nil⟩ (fun i σ H' _ ⟨_, _, _, _, _, b, _⟩ => b _ _ efz nDm) ?_ ?_
    · rintro i x σ H6 H6' hi ⟨v5, v6, v7, kk2, rfl, b6, eM6, hk2⟩ ⟨T1, kx, v, kq, hkv, hq, rfl, nT, rfl⟩
      obtain ⟨m, hm, hin⟩ := paired_get2 hkl hkv
      obtain ⟨ek, t, d, ev, ht, hd, nd4⟩ := hin
      have ek' : kx = mkey m.pl m.lt := ek
      have ev' : v = .ref t := ev
      subst ek' ev'
      have hmm := List.mem_of_getElem? hm
      obtain ⟨mon, m26⟩ := hM m hmm
      have hms : m ∈ ms := (mem_ordM g.ky fun m hm => ⟨(g.mv m hm).1, (g.mv m hm).2.1⟩).mp hmm
      obtain ⟨_, _, mto, mfq⟩ := g.mv m hms
      have sm := same_upd (o := .tup [.ref kq, .ref t]) nT
      have ntM : t ≠ Mv := ne_of ht eMl (by intro z; cases z)
      have ndM : d ≠ Mv := ne_of hd eMl (by intro z; cases z)
      have b7 := b6.trans (Same.but sm Mv)
      have hq7 : (upd H6 T1 (.tup [.ref kq, .ref t])) kq = some (.tup [.str (S m.pl), .str (S [m.lt])]) := sm _ _ hq
      have ht7 := b7 _ _ ht ntM
      have hd7 := b7 _ _ hd ndM
      have eM7 := sm _ _ eM6
      have w7 := b7 _ _ (sl _ _ w4) (ne_of (sl _ _ w4) eMl (by intro z; cases z))
      have hk7 : Paired (MvNew (fun _ => none) (upd H6 T1 (.tup [.ref kq, .ref t]))) kk2 (((ordM places L ms).take i).map (clrMv B fd)) := Paired.mono (fun kv m z => z.keep fun b o e _ => sm _ _ e) hk2
      refine ⟨T1, [.ref kq, .ref t], rfl, SqT.of upd_same, rfl, _, _, rfl, _, _, rfl, t, _, rfl, SqT.of ht7, rfl, _, _, rfl, _, _, rfl, rfl, rfl, ?_⟩
      generalize upd H6 T1 (.tup [.ref kq, .ref t]) = H7 at b7 hq7 hd7 eM7 w7 hk7
      refine ⟨_, rfl, d, _, hd7, trivial, fun od2 => ⟨_, rfl, d, od2, rfl, .inl ⟨fkv m.fl, upd_same, fun D2 nD2 => ?_⟩⟩⟩
      have w7' : (upd H7 d (.frz od2 (.dK (fkv m.fl)))) Wd = some (.dK (fkv (needD B places fd))) := by
        rw [upd_ne (fun c => by rw [← c, w4] at nd4; cases nd4)]
        exact w7
      have hgw : valV (fkv (needD B places fd)) (Sum.inr (S m.to)) = some (.str (S (wantB B fd m.to))) := by
        rw [val_fkv, getF_needD mto]
        rfl
      refine dc_mapW (xs := txs (m.fl.map (·.1))) (keepW (wantB B fd m.to)) keyV (fillV m.fl) walk_keys ?_ (fun i H x H' y => ?_) (fun H' s' => s' _ _ upd_same) nD2 ?_ ?_ ?_ ?_ ?_ ?_
      · unfold fkv txs
        rw [List.length_map, List.length_map, List.length_map]
      · obtain ⟨e, k', v', hk', rfl⟩ := y
        refine ⟨e, ?_⟩
        unfold fkv at hk'
        unfold txs
        rw [List.getElem?_map] at hk'
        rw [List.getElem?_map, List.getElem?_map]
        cases z : m.fl[i]? with
        | none => rw [z] at hk'; cases hk'
        | some c =>
          rw [z] at hk'
          have hk' := Option.some.inj hk'
          injection hk' with e1 e2
          rw [← e1]
          rfl
      · unfold txs
        rw [List.length_map, List.length_map]
        exact small1000 (by omega)
      · have h9 : (((txs (m.fl.map (·.1))).filter (keepW (wantB B fd m.to))).map keyV) = (fkv (clrF (wantB B fd m.to) m.fl)).map (·.1) := by
          rw [← clr_eq mfq.nd, List.map_map]
          rfl
        rw [h9]
        exact fkv_nd ((List.Sublist.map _ List.filter_sublist).nodup mfq.nd)
      · intro x hx H8 R s8 r
        obtain ⟨c, hc, rfl⟩ := List.mem_map.mp hx
        obtain ⟨q0, hq0, rfl⟩ := List.mem_map.mp hc
        obtain ⟨b, hb⟩ := mon q0 hq0
        have r' : R (decide (b ∈ wantB B fd m.to)) H8 := by
          have : keepW (wantB B fd m.to) (.str (S q0.1)) = decide (b ∈ wantB B fd m.to) := by
            rw [hb]
            rfl
          rwa [this] at r
        rw [hb]
        exact ⟨_, rfl, _, rfl, _, rfl, Wd, _, rfl, hgw ▸ DGet.k (k := Sum.inr (S m.to)) (s8 _ _ w7'), b, _, rfl, rfl, _, rfl, r'⟩
      · intro x hx _ H8 R s8 r
        obtain ⟨c, hc, rfl⟩ := List.mem_map.mp hx
        exact ⟨_, rfl, r⟩
      · intro x hx _ H8 R s8 r
        obtain ⟨c, hc, rfl⟩ := List.mem_map.mp hx
        obtain ⟨q0, hq0, rfl⟩ := List.mem_map.mp hc
        have hg : valV (fkv m.fl) (Sum.inr (S q0.1)) = some (.str (S q0.2)) := by
          rw [val_fkv, getF_mem mfq.nd hq0]
          rfl
        have r' := r H8 (fun _ _ e => e)
        have e5 : fillV m.fl (.str (S q0.1)) = .str (S q0.2) := by
          show V.str (S ((getF m.fl q0.1).getD [])) = _
          rw [getF_mem mfq.nd hq0]
          rfl
        rw [e5] at r'
        exact ⟨_, rfl, _, rfl, d, _, rfl, hg ▸ dget_kz (k := Sum.inr (S q0.1)) (s8 _ _ upd_same), r'⟩
      intro H8 s8 e8
      rw [clr_eq mfq.nd] at e8
      have sU := same_unlock hd7 s8
      have nDd : D2 ≠ d := fun z => by rw [z, upd_same] at nD2; cases nD2
      have n7D : H7 D2 = none := by
        rw [upd_ne nDd] at nD2
        exact nD2
      have eDu : (upd H8 d (.dK (fkv m.fl))) D2 = some (.dK (fkv (clrF (wantB B fd m.to) m.fl))) := by
        rw [upd_ne nDd]
        exact e8
      refine ⟨s8 _ _ upd_same, by show 2 ≤ sizeLine; decide, fun T2 H9 s9 n9 e9 => ?_⟩
      have sU9 := sU.trans s9
      have eM9 := sU9 _ _ eM7
      have lk2 : kk2.length < sizeLine := by
        rw [Paired.length hk7, List.length_map, List.length_take]
        exact small1000 (by omega)
      have et : (ordM places L ms).take (i + 1) = (ordM places L ms).take i ++ [m] := by
        rw [List.take_add_one, hm]
        rfl
      have hnew : mkey m.pl m.lt ∉ kk2.map (·.1) := fun z => by
        rw [newK hk7, List.map_map] at z
        obtain ⟨m', hm', e'⟩ := List.mem_map.mp z
        have e' : mkey m'.pl m'.lt = mkey m.pl m.lt := e'
        obtain ⟨g1, g2⟩ := mkey_inj e'
        have h6 : (((ordM places L ms).take (i + 1)).map fun m => (m.pl, m.lt)).Nodup := ((List.take_sublist _ _).map _).nodup (ordM_nd nP nL)
        rw [et, List.map_append, List.nodup_append] at h6
        exact h6.2.2 (m'.pl, m'.lt) (List.mem_map.mpr ⟨m', hm', rfl⟩) (m.pl, m.lt) (List.mem_singleton.mpr rfl) (by rw [g1, g2])
      refine ⟨_, rfl, _, rfl, Mv, _, rfl, DPut.t (k := mkey m.pl m.lt) eM9 (sU9 _ _ hq7) lk2, ?_⟩
      refine ⟨_, _, _, _, rfl, (b7.trans (Same.but sU9 Mv)).trans (But.upd Mv H9 _), upd_same, ?_⟩
      rw [putK_end _ hnew, et, List.map_append]
      have nTM : T2 ≠ Mv := fun z => by rw [z, sU _ _ eM7] at n9; cases n9
      have nDM : D2 ≠ Mv := fun z => by rw [z, eM7] at n7D; cases n7D
      refine (Paired.mono (fun kv m z => z.but (p := Mv) eM7 ((Same.but sU9 Mv).trans (But.upd Mv H9 _))) hk7).snoc ⟨rfl, T2, D2, rfl, ?_, ?_, rfl⟩
      · rw [upd_ne nTM]
        exact e9
      · rw [upd_ne nDM]
        exact s9 _ _ eDu
    · rintro σ H6 ⟨v5, v6, v7, kk2, rfl, b6, eM6, hk2⟩
      rw [lkk, List.take_length] at hk2
      have sH6 : Same H H6 := fun b o e => b6 _ _ (sl _ _ (sH4 _ _ e)) (ne_of_none e nHMv)
      have p6 := sH6 _ _ h1
      have gc := clr_parts g hfd
      refine ⟨_, rfl, p, dx, _, rfl, p6, p, dx, _, _, rfl, p6, fl_l _ _ _ _ _, _, rfl, _, rfl, p, dx, _, rfl, p6, p, dx, _, _, rfl, p6, fl_p _ _ _ _ _, _, rfl, _, rfl, p, L, B, places, ms, es, rfl, hp.same sH6, lp, nP, fun De H7 s7 n7 e7 => ?_⟩
      refine ⟨pl, Mv, De, clrP L B places ms es fd, rfl, ⟨.inr (s7 _ _ (sH6 _ _ h2)), ⟨kk2, s7 _ _ eM6, Paired.mono (fun kv m z => ((MvNew.at z).same s7).to_in) hk2⟩, e7⟩, gc, fun r H8 s8 n8 hnew => ?_⟩
      have s08 : Same H H8 := (sH6.trans s7).trans s8
      exact q r fd H8 s08 ((sH6.trans s7).free n8) hfd (hnew.old fun a ha => (sH6.trans s7).free ha)
end
end Tb

set_option Elab.async false
set_option linter.all false
set_option maxRecDepth 100000
set_option maxHeartbeats 4000000
namespace Tb
open PySem PySem.Spec PyProof.Rows L2 TL
section
variable {P : Program} {w : World} {K : PySem.W.Frag} {mg : Str → Option Value} {base : Heap}
abbrev nLAll : List Str := ["_law_letters", "_law_most", "_law_found", "_law_level", "_law_turn", "_law_longer", "_law_text", "_law_letter"]
theorem scLAll : FnScope nLAll ["_law_letters", "_law_most"] (defScope sLAll) := ⟨rfl, rfl, rfl, by decide +kernel, rfl, by decide +kernel, by decide +kernel⟩
def OkTx (cs : List Nat) (n : Nat) (ws : List (List Nat)) : Prop := ∀ x ∈ ws, x.length ≤ n ∧ ∀ c ∈ x, c ∈ cs
/-- all texts of at most four letters -/
def spLAll : Sp := fun vs H Q _ => ∃ cs : List Nat, vs = [.str (S cs), .int 4] ∧ cs.length ≤ 5 ∧ ∀ L ws H', Same H H' → H L = none → H' L = some (.lst (txs ws)) → OkTx cs 4 ws → Q (.ref L) H'
theorem ok_lall {f : Addr} {fd : FuncData} {k : Nat} (F : Fun K "_law_all_texts" "_law_all_texts" sLAll f fd) (mr : mg "range" = none) (ms : mg "sorted" = none) : FnOk P w K mg base CX0 (k + 1) f fd ["_law_letters", "_law_most"] spLAll := by
  refine F.ok scLAll (fun vs H Q E h => ?_) (fun cdv A outer s H vs Q E hr h => ?_)
  · obtain ⟨cs, rfl, _⟩ := h
    rfl
  · obtain ⟨cs, rfl, lc, q⟩ := h
    have hu := hu_of hr
    refine ⟨_, pss_cons (ps_par (i := 2) (j := 3) (by rfl) scLAll.nd rfl rfl (by decide) rfl rfl (pa_cons (pe_lstS (pa_cons pe_str pa_nil)) (pa_cons (pe_lstS (pa_cons pe_str pa_nil)) pa_nil)) (by rfl))
      (pss_cons (ps_for PassesOwn.never rfl (pi_range1 rfl mr (pa_cons (pv 1) pa_nil)) (pg_name (i := 4) scLAll.nd rfl (.inl rfl))
        (pss_cons (ps_set (i := 5) scLAll.nd rfl (.inl rfl) (pe_lstS pa_nil))
        (pss_cons (ps_for PassesOwn.never rfl (pi_list (pv 3)) (pg_name (i := 6) scLAll.nd rfl (.inr rfl))
          (pss_one (ps_expr (pe_bm PySem.F.plainAttrs_list PySem.F.slot_list_extend PySem.F.type_list_extend mt_extend (pv 5) (pa_cons (pe_lc (own := [("_law_letter", 7)]) (g := gName 7) (tt := tYes) (te := tOp (fun x y H Q => ∃ i j, x = .str i ∧ y = .str j ∧ i.length + j.length ≤ sizeLine ∧ Q (.str (i ++ j)) H) (tVar 6) (tVar 7)) rfl scLAll.nd (pi_list (pe_callB (call_sortStr rfl) (by rfl) ms (by decide +kernel) (pa_cons (pv 0) pa_nil)))
              (blkOk_by (own := [("_law_letter", 7)]) (N := nLAll) (sc := defScope sLAll) (by decide +kernel)) (fun _ _ _ _ _ => pg_name (i := 7) scLAll.nd rfl (.inl rfl)) (fun _ _ _ _ _ => pts_nil) (fun _ _ _ _ _ => pe_op op_add_str (pv 6) (pv 7))) pa_nil)))))
        (pss_one (ps_par (i := 2) (j := 3) (by rfl) scLAll.nd rfl rfl (by decide) rfl rfl (pa_cons (pe_op op_catS (pv 2) (pv 5)) (pa_cons (pv 5) pa_nil)) (by rfl))))))
      (pss_one (ps_ret (pv 2)))), ?_⟩
    have big : (1000000 : Nat) < sizeLine := by rw [sizeLine_eq]; decide
    refine ⟨by show 1 ≤ sizeLine; omega, fun a1 H1 s1 n1 e1 => ⟨by show 1 ≤ sizeLine; omega, fun a2 H2 s2 n2 e2 => ⟨_, _, rfl, ?_⟩⟩⟩
    have hempty : ([V.str (Str.ofString "")] : List V) = txs [[]] := by rw [str_empty]; rfl
    rw [hempty] at e1 e2
    refine ⟨_, rfl, 4, rfl, by omega, by omega, for_range (lo := 0) (n := 4) (fun i σ H' => ∃ (v4 v5 v6 : Option V) (p1 p2 : Addr) (w1 w2 : List (List Nat)), σ = [some (.str (S cs)), some (.int 4), some (.ref p1), some (.ref p2), v4, v5, v6, none] ∧ Same H H' ∧ H p1 = none ∧ H' p1 = some (.lst (txs w1)) ∧ H' p2 = some (.lst (txs w2)) ∧ OkTx cs 4 w1 ∧ OkTx cs i w2 ∧ w1.length ≤ 1 + 625 * i ∧ w2.length ≤ 5 ^ i) ?_ ?_ ?_⟩
    · have o0 : OkTx cs 0 [[]] := fun x hx => by
        rw [List.mem_singleton.mp hx]
        exact ⟨Nat.le_refl _, fun c h => (nomatch h)⟩
      exact ⟨none, none, none, a1, a2, [[]], [[]], rfl, s1.trans s2, n1, s2 _ _ e1, e2, fun x hx => ⟨Nat.le_trans (o0 x hx).1 (by decide), (o0 x hx).2⟩, o0, by decide, by decide⟩
    · rintro i σ H3 hi ⟨v4, v5, v6, p1, p2, w1, w2, rfl, s3, np1, ep1, ep2, o1, o2, l1, l2⟩
      refine ⟨Nat.zero_le _, fun D H4 s4 n4 e4 => ?_⟩
      have l625 : 5 ^ i ≤ 125 := by
        have : i = 0 ∨ i = 1 ∨ i = 2 ∨ i = 3 := by omega
        rcases this with rfl | rfl | rfl | rfl <;> decide
      have ep1' := s4 _ _ ep1
      have ep2' := s4 _ _ ep2
      have nD1 : p1 ≠ D := fun z => by rw [← z, ep1] at n4; cases n4
      have nD2 : p2 ≠ D := fun z => by rw [← z, ep2] at n4; cases n4
      have nHD : H D = none := s3.free n4
      refine ⟨_, rfl, p2, rfl, ⟨_, SqL.of ep2'⟩, for_list (K := K) (a := p2) (xs := txs w2) (fun j σ H' => ∃ (v6 : Option V) (w3 : List (List Nat)), σ = [some (.str (S cs)), some (.int 4), some (.ref p1), some (.ref p2), some (.int (0 + i)), some (.ref D), v6, none] ∧ Same H H' ∧ H' p1 = some (.lst (txs w1)) ∧ H' p2 = some (.lst (txs w2)) ∧ H' D = some (.lst (txs w3)) ∧ OkTx cs (i + 1) w3 ∧ w3.length ≤ 5 * j)
        ⟨v6, [], rfl, s3.trans s4, ep1', ep2', e4, fun x hx => (nomatch hx), Nat.zero_le _⟩ (fun j σ H' _ ⟨_, _, _, _, _, e, _⟩ => SqL.of e) ?_ ?_⟩
      · rintro j y σ H5 hj ⟨v6, w3, rfl, s5, ep15, ep25, eD, o3, l3⟩
        obtain ⟨t, ht, rfl⟩ : ∃ t, w2[j]? = some t ∧ y = .str (S t) := by
          unfold txs at hj
          rw [List.getElem?_map] at hj
          cases z : w2[j]? with
          | none => rw [z] at hj; cases hj
          | some x => rw [z] at hj; exact ⟨x, rfl, (Option.some.inj hj).symm⟩
        have hj2 : j < 125 := by
          have := (List.getElem?_eq_some_iff.mp ht).1
          omega
        obtain ⟨lt, mt⟩ := o2 t (List.mem_of_getElem? ht)
        refine ⟨_, rfl, .inl ⟨rfl, _, SqL.of eD⟩, _, rfl, cs, rfl, by omega, fun ys hpm hss Ls H6 s6 n6 e6 => ?_⟩
        have ey := sorted_signs hpm hss
        subst ey
        have e6' : H6 Ls = some (.lst (sgs (sortN cs))) := by
          rw [e6]
          unfold sgs
          rw [List.map_map]
          rfl
        have lsr : (sortN cs).length = cs.length := (sortN_perm _).length_eq
        refine ⟨Ls, rfl, ⟨_, SqL.of e6'⟩, fun D2 nD2' => lc_mapW (xs := sgs (sortN cs)) (fun v => match v with | .str x => .str (S t ++ x) | _ => .non) walk_list rfl (fun i H x H' y => ⟨y.1, y.2⟩) (fun H' s' => SqL.of (s' _ _ e6')) nD2' ?_ ?_ ?_⟩
        · unfold sgs
          rw [List.length_map]
          omega
        · intro x hx H' R s' r
          obtain ⟨c, hc, rfl⟩ := List.mem_map.mp hx
          refine ⟨_, rfl, _, rfl, _, _, rfl, rfl, ?_, r H' (fun _ _ e => e)⟩
          rw [len_S]
          show t.length + 1 ≤ _
          omega
        · intro H7 s7 e7
          have en : (sgs (sortN cs)).map (fun v => match v with | .str x => .str (S t ++ x) | _ => .non) = txs ((sortN cs).map fun c => t ++ [c]) := by
            unfold sgs txs
            rw [List.map_map, List.map_map]
            refine List.map_congr_left fun c _ => ?_
            show V.str (S t ++ S [c]) = _
            rw [S_app]
            rfl
          rw [en] at e7
          have s57 := s6.trans s7
          refine ⟨D, D2, _, _, rfl, rfl, s57 _ _ eD, e7, ?_, _, w3 ++ (sortN cs).map (fun c => t ++ [c]), rfl, fun b o e => ?_, ?_, ?_, ?_, ?_, ?_⟩
          · unfold txs
            rw [List.length_map, List.length_map, List.length_map]
            omega
          · rw [upd_ne (ne_of_none e nHD)]
            exact s57 _ _ (s5 _ _ e)
          · rw [upd_ne nD1]
            exact s57 _ _ ep15
          · rw [upd_ne nD2]
            exact s57 _ _ ep25
          · rw [upd_same]
            unfold txs
            rw [List.map_append]
          · intro x hx
            rcases List.mem_append.mp hx with h | h
            · exact o3 x h
            · obtain ⟨c, hc, rfl⟩ := List.mem_map.mp h
              refine ⟨by rw [List.length_append]; show t.length + 1 ≤ _; omega, fun z hz => ?_⟩
              rcases List.mem_append.mp hz with h | h
              · exact mt z h
              · rw [List.mem_singleton.mp h]
                exact (sortN_perm cs).mem_iff.mp hc
          · rw [List.length_append, List.length_map]
            omega
      · rintro σ H5 ⟨v6, w3, rfl, s5, ep15, ep25, eD, o3, l3⟩
        have lw : (txs w2).length = w2.length := by
          unfold txs
          rw [List.length_map]
        rw [lw] at l3
        refine ⟨_, rfl, _, rfl, p1, D, _, _, _, rfl, rfl, ep15, eD, ?_, rfl, fun p3 H6 s6 n6 e6 => ⟨_, rfl, _, _, rfl, _, _, _, p3, D, w1 ++ w3, w3, rfl, s5.trans s6, s5.free n6, ?_, s6 _ _ eD, ?_, o3, ?_, ?_⟩⟩
        · unfold txs
          rw [List.length_map, List.length_map]
          omega
        · rw [e6]
          unfold txs
          rw [List.map_append]
        · intro x hx
          rcases List.mem_append.mp hx with h | h
          · exact o1 x h
          · exact ⟨Nat.le_trans (o3 x h).1 (by omega), (o3 x h).2⟩
        · rw [List.length_append]
          omega
        · rw [Nat.pow_succ]
          omega
    · rintro σ H3 ⟨v4, v5, v6, p1, p2, w1, w2, rfl, s3, np1, ep1, ep2, o1, o2, l1, l2⟩
      exact ⟨_, rfl, q p1 w1 H3 s3 np1 ep1 o1⟩
end
end Tb

set_option Elab.async false
set_option linter.all false
set_option maxRecDepth 100000
set_option maxHeartbeats 4000000
namespace Tb
open PySem PySem.Spec PyProof.Rows L2 TL
def clrPt (wl : List Nat → List Nat) (pt : Pt) : Pt := ⟨pt.letters, pt.boxes.filter fun b => (pt.places.map fun p => decide (b ∈ wl p)).any id, pt.places, pt.moves.map fun m => ⟨m.pl, m.lt, m.to, clrF (wl m.to) m.fl⟩, pt.ends⟩
section
variable {P : Program} {w : World} {K : PySem.W.Frag} {mg : Str → Option Value} {base : Heap}
abbrev nLClr : List Str := ["_law_parts", "_law_wanted", "_law_boxes", "_law_moves", "_law_key", "_law_to", "_law_fills", "_law_box", "_law_place"]
theorem scLClr : FnScope nLClr ["_law_parts", "_law_wanted"] (defScope sLClr) := ⟨rfl, rfl, rfl, by decide +kernel, rfl, by decide +kernel, by decide +kernel⟩
abbrev blkL : Scope := { kind := ScopeKind.function, names := [(Str.ofString ".0", NameKind.local), (Str.ofString "_law_box", NameKind.cell), (Str.ofString "any", NameKind.globalImplicit), (Str.ofString "_law_parts", NameKind.cell), (Str.ofString "_law_wanted", NameKind.cell)], isGenerator := false, isCoroutine := false }
structure ClrOk (pt : Pt) : Prop where
  b6 : pt.boxes.length ≤ 6
  p50 : pt.places.length ≤ 50
  m250 : pt.moves.length ≤ 250
  ky : (pt.moves.map fun m => (m.pl, m.lt)).Nodup
  mv : ∀ m ∈ pt.moves, m.to ∈ pt.places ∧ Ones m.fl ∧ (m.fl.map (·.1)).Nodup ∧ m.fl.length ≤ 26
def spLClr : Sp := fun vs H Q _ => ∃ (a Wd : Addr) (pt : Pt) (wl : List Nat → List Nat), vs = [.ref a, .ref Wd] ∧ PtAt H a pt ∧ H Wd = some (.dK (fkv (pt.places.map fun p => (p, wl p)))) ∧ ClrOk pt ∧ ∀ r H', Same H H' → H r = none → PtAt H' r (clrPt wl pt) → Q (.ref r) H'
theorem paired_mapR {α β γ : Type} {F : α → γ → Prop} {g : β → γ} : ∀ {l : List α} {m : List β}, Paired (fun x y => F x (g y)) l m → Paired F l (m.map g)
  | _, _, .nil => .nil
  | _, _, .cons h t => .cons h (paired_mapR t)
theorem getF_wl {wl : List Nat → List Nat} {p : List Nat} : ∀ {places : List (List Nat)}, p ∈ places → getF (places.map fun p => (p, wl p)) p = some (wl p)
  | x :: r, h => by
    rw [List.map_cons, getF_cons]
    by_cases c : x = p
    · rw [if_pos c, ← c]
    · rw [if_neg c]
      exact getF_wl ((List.mem_cons.mp h).resolve_left fun e => c e.symm)
theorem mvAt_keys {H : Hp} : ∀ {kvs : List (List Key × V)} {ms : List Mv}, Paired (MvAt H) kvs ms → kvs.map (·.1) = ms.map Mv.key
  | _, _, .nil => rfl
  | _, _, .cons h t => by rw [List.map_cons, List.map_cons, h.1, mvAt_keys t]
theorem keyM_nd {ms : List Mv} (h : (ms.map fun m => (m.pl, m.lt)).Nodup) : (ms.map Mv.key).Nodup := by
  have e : ms.map Mv.key = (ms.map fun m => (m.pl, m.lt)).map fun q => mkey q.1 q.2 := by
    rw [List.map_map]
    rfl
  rw [e]
  exact mkeys_nd h
theorem ok_lclr {f : Addr} {fd : FuncData} {k : Nat} (F : Fun K "_law_cleared" "_law_cleared" sLClr f fd) (ma : mg "any" = none) (md : mg "dict" = none) : FnOk P w K mg base CX0 (k + 1) f fd ["_law_parts", "_law_wanted"] spLClr := by
  refine F.ok scLClr (fun vs H Q E h => ?_) (fun cdv A outer s H vs Q E hr h => ?_)
  · obtain ⟨a, Wd, pt, wl, rfl, _⟩ := h
    rfl
  · obtain ⟨a, Wd, pt, wl, rfl, hp, hW, g, q⟩ := h
    have hu := hu_of hr
    refine ⟨_, pss_cons (ps_setLc (i := 2) (own := [("_law_box", 7)]) (g := gName 7) (tt := tB (tCB (rAny K) (tCons (tLc (iList K (tOp (rIxL K) (tVar 0) (tC (.int 2)))) (gName 8) tYes (tOp (fun x y H Q => ∃ (c : Nat) (z : Str), x = .str ⟨#[c]⟩ ∧ y = .str z ∧ Q (.bl (decide (c ∈ z.cps.toList))) H) (tVar 7) (tDGet (tVar 1) (tVar 8))) [8]) tNil))) (te := tVar 7) rfl scLClr.nd rfl rfl (sw_true rfl rfl rfl (by decide +kernel)) (pi_str (pe_ix ix_list (pv 0) pe_int (fun _ _ => rfl)))
          (blkOk_by (own := [("_law_box", 7)]) (N := nLClr) (sc := defScope sLClr) (by decide +kernel)) (fun _ _ _ _ _ => pg_name (i := 7) scLClr.nd rfl (.inr rfl)) (fun _ _ _ _ _ => pts_one (pt_val (pe_callB (cr_any rfl) (by rfl) ma (by decide +kernel) (pa_cons (pe_lc (own := [("_law_place", 8)]) (g := gName 8) (tt := tYes) (te := tOp (fun x y H Q => ∃ (c : Nat) (z : Str), x = .str ⟨#[c]⟩ ∧ y = .str z ∧ Q (.bl (decide (c ∈ z.cps.toList))) H) (tVar 7) (tDGet (tVar 1) (tVar 8))) rfl scLClr.nd (pi_list (pe_ix ix_list (pv 0) pe_int (fun _ _ => rfl)))
              (blkOk_by (own := [("_law_place", 8)]) (N := nLClr) (sc := blkL) (by decide +kernel)) (fun _ _ _ _ _ => pg_name (i := 8) scLClr.nd rfl (.inl rfl)) (fun _ _ _ _ _ => pts_nil) (fun _ _ _ _ _ => pe_cmpR op_in_sign (pv 7) (pe_dget hu (pv 1) (pv 8) (fun _ _ => rfl)) (by rfl))) pa_nil)))) (fun _ _ _ _ _ => pv 7))
      (pss_cons (ps_set (i := 3) scLClr.nd rfl (.inl rfl) pe_newT)
      (pss_cons (ps_lock (ps_for PassesOwn.never rfl (pi_keys (pe_ix ix_list (pv 0) pe_int (fun _ _ => rfl))) (pg_name (i := 4) scLClr.nd rfl (.inl rfl))
        (pss_cons (ps_asg (pe_dget hu (pe_ix ix_list (pv 0) pe_int (fun _ _ => rfl)) (pv 4) (fun _ _ => rfl)) (pg_tup rfl (pgs_cons (pg_name (i := 5) scLClr.nd rfl (.inr rfl)) (pgs_cons (pg_name (i := 6) scLClr.nd rfl (.inr rfl)) pgs_nil))))
        (pss_one (ps_dput hu (pv 3) (pv 4) (pe_tupS (pa_cons (pv 5) (pa_cons (pe_callTy (call_dictS rfl) (by rfl) md (by decide +kernel) (pa_cons (pe_lock (pe_lc (own := [("_law_box", 7)]) (g := gName 7) (tt := tTest (tOp (fun x y H Q => ∃ (c : Nat) (z : Str), x = .str ⟨#[c]⟩ ∧ y = .str z ∧ Q (.bl (decide (c ∈ z.cps.toList))) H) (tVar 7) (tDGet (tVar 1) (tVar 5)))) (te := tTupS (tCons (tVar 7) (tCons (tDGet (tVar 6) (tVar 7)) tNil))) rfl scLClr.nd (pi_keys (pv 6))
            (blkOk_by (own := [("_law_box", 7)]) (N := nLClr) (sc := defScope sLClr) (by decide +kernel)) (fun _ _ _ _ _ => pg_name (i := 7) scLClr.nd rfl (.inl rfl)) (fun _ _ _ _ _ => pts_one (pt_cmpR op_in_sign (pv 7) (pe_dget hu (pv 1) (pv 5) (fun _ _ => rfl)) (by rfl))) (fun _ _ _ _ _ => pe_tupS (pa_cons (pv 7) (pa_cons (pe_dget hu (pv 6) (pv 7) (fun _ _ => rfl)) pa_nil))))) pa_nil)) pa_nil))) rfl)))))
      (pss_one (ps_ret (pe_lstS (pa_cons (pe_ix ix_list (pv 0) pe_int (fun _ _ => rfl)) (pa_cons (pe_join pe_str (pv 2)) (pa_cons (pe_ix ix_list (pv 0) pe_int (fun _ _ => rfl)) (pa_cons (pv 3) (pa_cons (pe_ix ix_list (pv 0) pe_int (fun _ _ => rfl)) pa_nil)))))))))), ?_⟩
    obtain ⟨tp, tm, te, kvs, hL, hplc, hm, hmv, hte⟩ := id hp.ex
    have big : (1000000 : Nat) < sizeLine := by rw [sizeLine_eq]; decide
    have lws : ((txs pt.places)).length = pt.places.length := by
      unfold txs
      rw [List.length_map]
    have hgW : ∀ p ∈ pt.places, valV (fkv (pt.places.map fun p => (p, wl p))) (Sum.inr (S p)) = some (.str (S (wl p))) := fun p h => by
      rw [val_fkv, getF_wl h]
      rfl
    -- the boxes
    refine ⟨_, rfl, a, _, 1, _, rfl, rfl, SqL.of hL, atI_nat (j := 1) rfl, S pt.boxes, rfl, fun D nD => ?_⟩
    refine lc_it walk_str (fun u H' => Same H H' ∧ H' D = some (.lst (sgs ((pt.boxes.take u).filter fun b => (pt.places.map fun p => decide (b ∈ wl p)).any id)))) ⟨same_upd nD, upd_same⟩ (fun _ _ _ _ => trivial) ?_ ?_
    · rintro u y H1 H1' hu1 ⟨s1, eD⟩ ⟨rfl, o, ho, rfl⟩
      have ho' : pt.boxes[u]? = some o := by
        rw [show (S pt.boxes).cps = pt.boxes.toArray from rfl, List.getElem?_toArray] at ho
        exact ho
      have eu : pt.boxes.take (u + 1) = pt.boxes.take u ++ [o] := by
        rw [List.take_add_one, ho']
        rfl
      have hu6 : u < 6 := by
        have := (List.getElem?_eq_some_iff.mp ho').1
        have := g.b6
        omega
      refine ⟨rfl, _, rfl, a, _, 2, _, rfl, rfl, SqL.of (s1 _ _ hL), atI_nat (j := 2) rfl, tp, rfl, ⟨_, SqL.of (s1 _ _ hplc)⟩, fun D2 nD2 => ?_⟩
      refine lc_mapW (xs := txs pt.places) (fun v => match v with | .str x => .bl (decide (o ∈ wl (tl x))) | _ => .non) walk_list rfl (fun i H x H' y => ⟨y.1, y.2⟩) (fun H' s' => SqL.of (s' _ _ (s1 _ _ hplc))) nD2 (by rw [lws]; have := g.p50; omega) ?_ ?_
      · intro x hx H' R s' r
        obtain ⟨p, hp', rfl⟩ := List.mem_map.mp hx
        exact ⟨_, rfl, _, rfl, _, rfl, Wd, _, rfl, hgW p hp' ▸ DGet.k (k := Sum.inr (S p)) (s' _ _ (s1 _ _ hW)), o, _, rfl, rfl, r H' (fun _ _ e => e)⟩
      · intro H2 s2 e2
        have en : (txs pt.places).map (fun v => match v with | .str x => V.bl (decide (o ∈ wl (tl x))) | _ => .non) = (pt.places.map fun p => decide (o ∈ wl p)).map V.bl := by
          unfold txs
          rw [List.map_map, List.map_map]
          rfl
        rw [en] at e2
        refine ⟨D2, _, rfl, SqL.of e2, _, rfl, ?_⟩
        have eD2 := s2 _ _ eD
        cases hc : (pt.places.map fun p => decide (o ∈ wl p)).any id with
        | true =>
          refine iteT ⟨_, rfl, _, eD2, ?_, fun b o' eb => ?_, ?_⟩
          · unfold sgs
            rw [List.length_map]
            have l4 := List.length_filter_le (fun b => (pt.places.map fun p => decide (b ∈ wl p)).any id) (pt.boxes.take u)
            rw [List.length_take] at l4
            omega
          · rw [upd_ne (ne_of_none eb nD)]
            exact s2 _ _ (s1 _ _ eb)
          · rw [upd_same, eu, List.filter_append]
            have ef : [o].filter (fun b => (pt.places.map fun p => decide (b ∈ wl p)).any id) = [o] := by
              rw [List.filter_cons, hc]
              rfl
            rw [ef]
            unfold sgs
            rw [List.map_append]
            rfl
        | false =>
          refine iteF ⟨s1.trans s2, ?_⟩
          have ef : [o].filter (fun b => (pt.places.map fun p => decide (b ∈ wl p)).any id) = [] := by
            rw [List.filter_cons, hc]
            rfl
          rw [eD2, eu, List.filter_append, ef, List.append_nil]
    rintro H1 ⟨s1, eD⟩
    rw [show (S pt.boxes).cps.size = pt.boxes.length from len_S _, List.take_length] at eD
    intro M H2 s2 n2 e2
    have s02 := s1.trans s2
    have nHM : H M = none := s1.free n2
    have hm2 := s02 _ _ hm
    have ntM : tm ≠ M := fun z => by rw [z, nHM] at hm; cases hm
    have kn : (kvs.map (·.1)).Nodup := by
      rw [mvAt_keys hmv]
      exact keyM_nd g.ky
    have lk : kvs.length = pt.moves.length := Paired.length hmv
    refine ⟨tm, _, hm2, trivial, fun od => ?_⟩
    have kl : ∀ {b : Addr} {o : HO}, H2 b = some o → (∀ ks, o ≠ .dT ks) → (upd H2 tm (.frz od (.dT kvs))) b = some o := fun {b o} e no => by
      rw [upd_ne (ne_of e hm2 (no _))]
      exact e
    have eMl : (upd H2 tm (.frz od (.dT kvs))) M = some (.dT []) := by
      rw [upd_ne ntM.symm]
      exact e2
    have hml : (upd H2 tm (.frz od (.dT kvs))) tm = some (.frz od (.dT kvs)) := upd_same
    have back : ∀ H', But M (upd H2 tm (.frz od (.dT kvs))) H' → Same H (upd H' tm (.dT kvs)) := fun H' b' b o e => by
      by_cases c : b = tm
      · rw [c, hm] at e
        cases e
        rw [c, upd_same]
      · rw [upd_ne c]
        exact b' _ _ (by rw [upd_ne c]; exact s02 _ _ e) (ne_of_none e nHM)
    have hLl := kl (s02 _ _ hL) (by intro _ z; cases z)
    have hDl := kl (s2 _ _ eD) (by intro _ z; cases z)
    have hWl := kl (s02 _ _ hW) (by intro _ z; cases z)
    have hmvl : Paired (MvAt (upd H2 tm (.frz od (.dT kvs)))) kvs pt.moves := Paired.mono (fun kv m z => by
      obtain ⟨e, t, d, a1, a2, a3⟩ := z
      exact ⟨e, t, d, a1, kl (s02 _ _ a2) (by intro _ z; cases z), kl (s02 _ _ a3) (by intro _ z; cases z)⟩) hmv
    generalize upd H2 tm (.frz od (.dT kvs)) = Hl at kl eMl hml back hLl hDl hWl hmvl
    refine ⟨_, rfl, a, _, 3, _, rfl, rfl, SqL.of hLl, atI_nat (j := 3) rfl, tm, od, rfl, .inr ⟨kvs, hml, for_it walk_keysT
      (fun j σ H' => ∃ (v4 v5 v6 : Option V) (k2 : List (List Key × V)), σ = [some (.ref a), some (.ref Wd), some (.ref D), some (.ref M), v4, v5, v6, none, none] ∧ But M Hl H' ∧ H' M = some (.dT k2) ∧ Paired (MvNew (fun _ => none) H') k2 ((pt.moves.take j).map fun m => (⟨m.pl, m.lt, m.to, clrF (wl m.to) m.fl⟩ : Mv)))
      ⟨none, none, none, [], rfl, But.refl _ _, eMl, .nil⟩ (fun j σ H' _ ⟨_, _, _, _, _, b, _⟩ => b _ _ hml ntM) ?_ ?_⟩⟩
    · rintro j x σ H4 H4' hj ⟨v4, v5, v6, k2, rfl, b4, eM, hk2⟩ ⟨rfl, kx, v, kq, hkv, rfl, hq⟩
      obtain ⟨m, hmj, hin⟩ := paired_get2 hmvl hkv
      obtain ⟨ek, t, d, ev, ht, hd⟩ := hin
      have ek : kx = mkey m.pl m.lt := ek
      have ev : v = .ref t := ev
      subst ek ev
      obtain ⟨mto, mon, mnd, m26⟩ := g.mv m (List.mem_of_getElem? hmj)
      have typ : ∀ {b : Addr} {o : HO}, Hl b = some o → (∀ ks, o ≠ .dT ks) → H4' b = some o := fun e no => b4 _ _ e (ne_of e eMl (no _))
      have ht4 := typ ht (by intro _ z; cases z)
      have hd4 := typ hd (by intro _ z; cases z)
      have hL4 := typ hLl (by intro _ z; cases z)
      have hW4 := typ hWl (by intro _ z; cases z)
      have htm4 := b4 _ _ hml ntM
      have hval : valV kvs (mkey m.pl m.lt) = some (.ref t) := valV_of_mem kn (p := (mkey m.pl m.lt, V.ref t)) (List.mem_of_getElem? hkv)
      have hget : DGet H4' tm (.ref kq) (some (.ref t)) := .inr ⟨kvs, mkey m.pl m.lt, kq, .inr ⟨od, htm4⟩, rfl, hq, hval.symm⟩
      refine ⟨_, rfl, a, _, 3, _, rfl, rfl, SqL.of hL4, atI_nat (j := 3) rfl, _, rfl, tm, .ref t, rfl, hget, t, _, rfl, SqT.of ht4, rfl, _, _, rfl, _, _, rfl, rfl, ?_⟩
      refine ⟨_, rfl, d, _, hd4, trivial, fun od2 => ⟨_, rfl, d, od2, rfl, .inl ⟨fkv m.fl, upd_same, fun D3 nD3 => ?_⟩⟩⟩
      have rW : Rd (upd H4' d (.frz od2 (.dK (fkv m.fl)))) Wd (.dK (fkv (pt.places.map fun p => (p, wl p)))) := by
        by_cases c : Wd = d
        · rw [c, hd4] at hW4
          injection hW4 with e
          injection e with e
          rw [c, ← e]
          exact .inr ⟨od2, upd_same⟩
        · exact .inl (by rw [upd_ne c]; exact hW4)
      have nDd : D3 ≠ d := fun z => by rw [z, upd_same] at nD3; cases nD3
      have n4D : H4' D3 = none := by
        rw [upd_ne nDd] at nD3
        exact nD3
      refine lc_it walk_keys (fun i H' => Same (upd H4' d (.frz od2 (.dK (fkv m.fl)))) H' ∧ ∃ ts : List Addr, H' D3 = some (.lst (ts.map V.ref)) ∧ Paired (fun t (q : List Nat × List Nat) => H' t = some (.tup [.str (S q.1), .str (S q.2)])) ts ((m.fl.take i).filter fun q => decide (q.1.headD 0 ∈ wl m.to)))
        ⟨same_upd nD3, [], upd_same, .nil⟩ (fun i H' _ h => h.1 _ _ upd_same) ?_ ?_
      · rintro i x H5 H5' hi ⟨s5, ts, eD3, hts⟩ ⟨rfl, k', v', hk', rfl⟩
        obtain ⟨c, hc, ekc⟩ : ∃ c, m.fl[i]? = some c ∧ k' = Sum.inr (S c.1) := by
          unfold fkv at hk'
          rw [List.getElem?_map] at hk'
          cases z : m.fl[i]? with
          | none => rw [z] at hk'; cases hk'
          | some c =>
            rw [z] at hk'
            have hk' := Option.some.inj hk'
            injection hk' with e1 e2
            exact ⟨c, rfl, e1.symm⟩
        subst ekc
        have hcm := List.mem_of_getElem? hc
        obtain ⟨b, hb⟩ := mon c hcm
        have et : m.fl.take (i + 1) = m.fl.take i ++ [c] := by
          rw [List.take_add_one, hc]
          rfl
        have hg : valV (fkv m.fl) (Sum.inr (S c.1)) = some (.str (S c.2)) := by
          rw [val_fkv, getF_mem mnd hcm]
          rfl
        have hgw : DGet H5' Wd (.str (S m.to)) (some (.str (S (wl m.to)))) := by
          refine .inl ⟨_, Sum.inr (S m.to), ?_, rfl, (hgW _ mto).symm⟩
          exact rW.elim (fun e => .inl (s5 _ _ e)) fun ⟨o, e⟩ => .inr ⟨o, s5 _ _ e⟩
        have i26 : i < 26 := by
          have := (List.getElem?_eq_some_iff.mp hc).1
          omega
        have hx : kV (Sum.inr (S c.1) : Key) = .str (S [b]) := by rw [← hb]; rfl
        rw [hx]
        refine ⟨rfl, _, rfl, _, rfl, _, rfl, Wd, _, rfl, hgw, b, _, rfl, rfl, _, rfl, ?_⟩
        have em : decide (b ∈ (S (wl m.to)).cps.toList) = decide (b ∈ wl m.to) := rfl
        rw [em]
        by_cases hbc : b ∈ wl m.to
        · rw [decide_eq_true hbc]
          have hg' : valV (fkv m.fl) (Sum.inr (S [b])) = some (.str (S c.2)) := by rw [← hb]; exact hg
          refine iteT ⟨_, rfl, _, rfl, _, rfl, d, _, rfl, hg' ▸ dget_kz (k := Sum.inr (S [b])) (s5 _ _ upd_same), by show 2 ≤ sizeLine; decide, fun t9 H9 s9 n9 e9 => ⟨_, s9 _ _ eD3, ?_, fun b' o eb => ?_, ts ++ [t9], ?_, ?_⟩⟩
          · rw [List.length_map, Paired.length hts]
            have l4 := List.length_filter_le (fun q : List Nat × List Nat => decide (q.1.headD 0 ∈ wl m.to)) (m.fl.take i)
            rw [List.length_take] at l4
            omega
          · rw [upd_ne (ne_of_none eb nD3)]
            exact s9 _ _ (s5 _ _ eb)
          · rw [upd_same, List.map_append]
            rfl
          · have ef : [c].filter (fun q => decide (q.1.headD 0 ∈ wl m.to)) = [c] := by
              have : c.1.headD 0 ∈ wl m.to := by rw [hb]; exact hbc
              rw [List.filter_cons, decide_eq_true this]
              rfl
            rw [et, List.filter_append, ef]
            have keepD : ∀ {b : Addr} {xs : List V}, H9 b = some (.tup xs) → (upd H9 D3 (.lst (ts.map V.ref ++ [V.ref t9]))) b = some (.tup xs) := fun {b xs} e => by
              rw [upd_ne (ne_of e (s9 _ _ eD3) (by intro z; cases z))]
              exact e
            exact (Paired.mono (fun t' q' z => keepD (s9 _ _ z)) hts).snoc (keepD (by rw [e9, hb]))
        · rw [decide_eq_false hbc]
          refine iteF ⟨s5, ts, eD3, ?_⟩
          have ef : [c].filter (fun q => decide (q.1.headD 0 ∈ wl m.to)) = [] := by
            have : c.1.headD 0 ∉ wl m.to := by rw [hb]; exact hbc
            rw [List.filter_cons, decide_eq_false this]
            rfl
          rw [et, List.filter_append, ef, List.append_nil]
          exact hts
      · rintro H5 ⟨s5, ts, eD3, hts⟩
        have lf : (fkv m.fl).length = m.fl.length := by
          unfold fkv
          rw [List.length_map]
        rw [lf, List.take_length] at hts
        have sU := same_unlock hd4 s5
        have hd5 := s5 _ _ (upd_same (H := H4') (o := .frz od2 (.dK (fkv m.fl))))
        have ndC : ((clrF (wl m.to) m.fl).map (·.1)).Nodup := (List.Sublist.map _ List.filter_sublist).nodup mnd
        have hpr : Paired (fun p (kv : Key × V) => SqT K (upd H5 d (.dK (fkv m.fl))) p [kV kv.1, kv.2]) ts (fkv (clrF (wl m.to) m.fl)) := by
          have h9 : Paired (fun p (q : List Nat × List Nat) => SqT K (upd H5 d (.dK (fkv m.fl))) p [.str (S q.1), .str (S q.2)]) ts (clrF (wl m.to) m.fl) := Paired.mono (fun t q z => SqT.of (by rw [upd_ne (ne_of z hd5 (by intro z; cases z))]; exact z)) hts
          unfold fkv
          exact paired_mapR h9
        refine ⟨hd5, D3, ts, fkv (clrF (wl m.to) m.fl), rfl, SqL.of (by rw [upd_ne nDd]; exact eD3), hpr, fun dn H9 s9 n9 e9 => ?_⟩
        rw [merge_new _ [] (by rw [List.nil_append]; exact fkv_nd ndC), List.nil_append] at e9
        refine ⟨by show 2 ≤ sizeLine; decide, fun T2 H10 s10 n10 e10 => ?_⟩
        have sU10 := (sU.trans s9).trans s10
        have eM10 := sU10 _ _ eM
        have lk2 : k2.length < sizeLine := by
          rw [Paired.length hk2, List.length_map, List.length_take]
          have := g.m250
          omega
        have et : pt.moves.take (j + 1) = pt.moves.take j ++ [m] := by
          rw [List.take_add_one, hmj]
          rfl
        have hnew : mkey m.pl m.lt ∉ k2.map (·.1) := fun z => by
          rw [newK hk2, List.map_map] at z
          obtain ⟨m', hm', e'⟩ := List.mem_map.mp z
          have e' : mkey m'.pl m'.lt = mkey m.pl m.lt := e'
          obtain ⟨g1, g2⟩ := mkey_inj e'
          have h6 : ((pt.moves.take (j + 1)).map fun m => (m.pl, m.lt)).Nodup := ((List.take_sublist _ _).map _).nodup g.ky
          rw [et, List.map_append, List.nodup_append] at h6
          exact h6.2.2 (m'.pl, m'.lt) (List.mem_map.mpr ⟨m', hm', rfl⟩) (m.pl, m.lt) (List.mem_singleton.mpr rfl) (by rw [g1, g2])
        refine ⟨_, rfl, _, rfl, M, _, rfl, DPut.t (k := mkey m.pl m.lt) eM10 (sU10 _ _ hq) lk2, ?_⟩
        refine ⟨_, _, _, _, rfl, (b4.trans (Same.but sU10 M)).trans (But.upd M H10 _), upd_same, ?_⟩
        rw [putK_end _ hnew, et, List.map_append]
        have nTM : T2 ≠ M := fun z => by rw [z, s9 _ _ (sU _ _ eM)] at n10; cases n10
        have ndM : dn ≠ M := fun z => by rw [z, sU _ _ eM] at n9; cases n9
        refine (Paired.mono (fun kv m z => z.but (p := M) eM ((Same.but sU10 M).trans (But.upd M H10 _))) hk2).snoc ⟨rfl, T2, dn, rfl, ?_, ?_, rfl⟩
        · rw [upd_ne nTM]
          exact e10
        · rw [upd_ne ndM]
          exact s10 _ _ e9
    · rintro σ H4 ⟨v4, v5, v6, k2, rfl, b4, eM, hk2⟩
      rw [lk, List.take_length] at hk2
      have sE := back H4 b4
      have htm4 := b4 _ _ hml ntM
      have hD4 := b4 _ _ hDl (ne_of hDl eMl (by intro z; cases z))
      have lbk : But tm H4 (upd H4 tm (.dT kvs)) := But.upd _ _ _
      have hD5 : (upd H4 tm (.dT kvs)) D = some (.lst (sgs (pt.boxes.filter fun b => (pt.places.map fun p => decide (b ∈ wl p)).any id))) := lbk _ _ hD4 (ne_of hD4 htm4 (by intro z; cases z))
      have hM5 : (upd H4 tm (.dT kvs)) M = some (.dT k2) := lbk _ _ eM ntM.symm
      have hmv5 : Paired (MvAt (upd H4 tm (.dT kvs))) k2 (pt.moves.map fun m => (⟨m.pl, m.lt, m.to, clrF (wl m.to) m.fl⟩ : Mv)) := Paired.mono (fun kv m z => by
        obtain ⟨e, t, d, a1, a2, a3, _⟩ := z
        exact ⟨e, t, d, a1, lbk _ _ a2 (ne_of a2 htm4 (by intro z; cases z)), lbk _ _ a3 (ne_of a3 htm4 (by intro z; cases z))⟩) hk2
      refine ⟨htm4, ?_⟩
      generalize upd H4 tm (.dT kvs) = H5 at sE hD5 hM5 hmv5 ⊢
      have ey : sgs (pt.boxes.filter fun b => (pt.places.map fun p => decide (b ∈ wl p)).any id) = ((pt.boxes.filter fun b => (pt.places.map fun p => decide (b ∈ wl p)).any id).map fun b => S [b]).map V.str := by
        unfold sgs
        rw [List.map_map]
        rfl
      have hL5 := sE _ _ hL
      refine ⟨_, rfl, a, _, 0, _, rfl, rfl, SqL.of hL5, atI_nat (j := 0) rfl, ⟨_, rfl⟩, _, rfl, _, D, _, rfl, rfl, .inl (SqL.of (by rw [hD5, ey])), ?_, _, rfl, a, _, 2, _, rfl, rfl, SqL.of hL5, atI_nat (j := 2) rfl, _, rfl, _, rfl, a, _, 4, _, rfl, rfl, SqL.of hL5, atI_nat (j := 4) rfl, by show 5 ≤ sizeLine; decide, fun r H6 s6 n6 e6 => ?_⟩
      · rw [sum_ones, str_empty, len_S]
        have l4 := List.length_filter_le (fun b => (pt.places.map fun p => decide (b ∈ wl p)).any id) pt.boxes
        have := g.b6
        show _ + _ * 0 ≤ _
        omega
      · rw [str_empty, join_signs] at e6
        exact q r H6 (sE.trans s6) (sE.free n6) ⟨tp, M, te, k2, e6, s6 _ _ (sE _ _ hplc), s6 _ _ hM5, Paired.mono (fun kv m z => z.same s6) hmv5, s6 _ _ (sE _ _ hte)⟩
end
end Tb

set_option Elab.async false
set_option linter.all false
set_option maxRecDepth 100000
set_option maxHeartbeats 4000000
namespace Tb
open PySem PySem.Spec PyProof.Rows L2 TL
/-! ### the law's own going back -/
abbrev Gn := List Nat → List Nat
def upG (g : Gn) (p more : List Nat) : Gn := fun p' => if p' = p then g p ++ more else g p'
def moreG (bs : List Nat) (fl : Fil) (b : Nat) (gp : List Nat) : List Nat := (fil fl b).filter fun o => decide (o ∈ bs ∧ o ∉ gp)
def tot (places : List (List Nat)) (g : Gn) : Nat := (places.map fun p => (g p).length).sum
structure Snd (pt : Pt) (g : Gn) : Prop where
  nd : ∀ p ∈ pt.places, (g p).Nodup
  rc : ∀ p ∈ pt.places, ∀ b ∈ g p, b ∈ pt.boxes ∧ Rch (edges pt.boxes pt.moves) (seeds pt.boxes pt.ends) (p, b)
  sd : ∀ p ∈ pt.places, ∀ o, (p, o) ∈ seeds pt.boxes pt.ends → o ∈ g p
def ClM (bs : List Nat) (g : Gn) (m : Mv) : Prop := ∀ b ∈ g m.to, ∀ o ∈ fil m.fl b, o ∈ bs → o ∈ g m.pl
def Clo (pt : Pt) (g : Gn) : Prop := ∀ m ∈ pt.moves, ClM pt.boxes g m
structure NeedOk (pt : Pt) : Prop where
  b6 : pt.boxes.length ≤ 6
  bn : pt.boxes.Nodup
  p50 : pt.places.length ≤ 50
  pn : pt.places.Nodup
  ky : (pt.moves.map fun m => (m.pl, m.lt)).Nodup
  mv : ∀ m ∈ pt.moves, m.pl ∈ pt.places ∧ m.to ∈ pt.places ∧ (∀ b o, o ∈ pt.boxes → (fil m.fl b).count o ≤ 1) ∧ ∀ b, (fil m.fl b).length ≤ 1000
  ek : (pt.ends.map (·.1)).Nodup
  en : ∀ q ∈ pt.ends, q.1 ∈ pt.places ∧ q.2.length ≤ 1000 ∧ ∀ o ∈ pt.boxes, q.2.count o ≤ 1
theorem Snd.len {pt : Pt} {g : Gn} (h : Snd pt g) (b6 : pt.boxes.length ≤ 6) {p : List Nat} (hp : p ∈ pt.places) : (g p).length ≤ 6 :=
  Nat.le_trans (List.Nodup.length_le_of_subset (h.nd p hp) fun b hb => (h.rc p hp b hb).1) b6
theorem fil_edge {pt : Pt} {m : Mv} {b o : Nat} (hm : m ∈ pt.moves) (ho : o ∈ fil m.fl b) (hB : o ∈ pt.boxes) : ((m.to, b), (m.pl, o)) ∈ edges pt.boxes pt.moves := by
  unfold fil at ho
  cases h : getF m.fl [b] with
  | none => rw [h] at ho; exact nomatch ho
  | some f =>
    rw [h] at ho
    exact mem_edges (q := ([b], f)) hm (getF_in h) ho hB
theorem tot_up {g : Gn} {p more : List Nat} : ∀ {places : List (List Nat)}, places.Nodup → p ∈ places → tot places (upG g p more) = tot places g + more.length
  | x :: r, nd, hp => by
    have n1 := List.nodup_cons.mp nd
    unfold tot
    rw [List.map_cons, List.sum_cons, List.map_cons, List.sum_cons]
    by_cases c : x = p
    · have hr : (r.map fun p' => (upG g p more p').length) = r.map fun p' => (g p').length := List.map_congr_left fun y hy => by
        unfold upG
        rw [if_neg (fun z => n1.1 (by rw [c, ← z]; exact hy))]
      rw [hr]
      unfold upG
      rw [if_pos c, c, List.length_append]
      omega
    · have ih := tot_up (g := g) (more := more) n1.2 ((List.mem_cons.mp hp).resolve_left fun e => c e.symm)
      unfold tot at ih
      rw [ih]
      unfold upG
      rw [if_neg c]
      omega
theorem tot_eq {g g' : Gn} {places : List (List Nat)} (h : ∀ p ∈ places, g p = g' p) : tot places g = tot places g' := by
  unfold tot
  rw [List.map_congr_left fun p hp => by rw [h p hp]]
theorem tot_le {pt : Pt} {g : Gn} (h : Snd pt g) : tot pt.places g ≤ pt.boxes.length * pt.places.length := by
  have key : ∀ l : List (List Nat), (∀ p ∈ l, p ∈ pt.places) → tot l g ≤ pt.boxes.length * l.length := by
    intro l hl
    induction l with
    | nil => exact Nat.zero_le _
    | cons x r ih =>
      have h1 := ih fun p hp => hl p (List.mem_cons_of_mem _ hp)
      have h2 := List.Nodup.length_le_of_subset (h.nd x (hl x List.mem_cons_self)) fun b hb => (h.rc x (hl x List.mem_cons_self) b hb).1
      unfold tot at h1 ⊢
      rw [List.map_cons, List.sum_cons, List.length_cons, Nat.mul_succ]
      omega
  exact key _ fun p hp => hp
theorem mem_more {bs : List Nat} {fl : Fil} {b o : Nat} {gp : List Nat} : o ∈ moreG bs fl b gp ↔ o ∈ fil fl b ∧ o ∈ bs ∧ o ∉ gp := by
  unfold moreG
  rw [List.mem_filter, decide_eq_true_iff]
theorem nodup_count {l : List Nat} (h : ∀ x ∈ l, l.count x ≤ 1) : l.Nodup := List.nodup_iff_count.mpr fun x => by
  by_cases hx : x ∈ l
  · exact h x hx
  · rw [List.count_eq_zero.mpr hx]
    exact Nat.zero_le _
theorem snd0 {pt : Pt} (K : NeedOk pt) {g1 : Gn} (hg1 : g1 = fun p => ((getF pt.ends p).getD []).filter fun b => decide (b ∈ pt.boxes)) : Snd pt g1 := by
  subst hg1
  refine ⟨fun p hp => nodup_count fun x hx => ?_, fun p hp b hb => ?_, fun p hp o ho => ?_⟩
  · obtain ⟨h1, h2⟩ := List.mem_filter.mp hx
    refine Nat.le_trans (List.Sublist.count_le _ List.filter_sublist) ?_
    cases h : getF pt.ends p with
    | none => exact Nat.zero_le _
    | some f => exact (K.en _ (getF_in h)).2.2 x (of_decide_eq_true h2)
  · obtain ⟨h1, h2⟩ := List.mem_filter.mp hb
    refine ⟨of_decide_eq_true h2, .base ?_⟩
    cases h : getF pt.ends p with
    | none => rw [h] at h1; exact nomatch h1
    | some f =>
      rw [h] at h1
      exact mem_seeds (q := (p, f)) (getF_in h) h1 (of_decide_eq_true h2)
  · unfold seeds at ho
    obtain ⟨x, hx, ho⟩ := List.mem_flatMap.mp ho
    obtain ⟨y, hy, e⟩ := List.mem_map.mp ho
    obtain ⟨y1, y2⟩ := List.mem_filter.mp hy
    injection e with e1 e2
    subst e1 e2
    refine List.mem_filter.mpr ⟨?_, decide_eq_true y1⟩
    rw [getF_mem K.ek hx]
    exact of_decide_eq_true y2
/-- one step keeps it sound -/
theorem Snd.up {pt : Pt} {g : Gn} (K : NeedOk pt) (h : Snd pt g) {m : Mv} (hm : m ∈ pt.moves) {b : Nat} (hb : Rch (edges pt.boxes pt.moves) (seeds pt.boxes pt.ends) (m.to, b)) : Snd pt (upG g m.pl (moreG pt.boxes m.fl b (g m.pl))) := by
  obtain ⟨k1, k2, k3, k4⟩ := K.mv m hm
  refine ⟨fun p hp => ?_, fun p hp x hx => ?_, fun p hp o ho => ?_⟩
  · unfold upG
    split
    · rw [List.nodup_append]
      refine ⟨h.nd _ k1, nodup_count fun x hx => ?_, fun x hx y hy e => (mem_more.mp hy).2.2 (by rw [← e]; exact hx)⟩
      exact Nat.le_trans (List.Sublist.count_le _ List.filter_sublist) (k3 b x (mem_more.mp hx).2.1)
    · exact h.nd p hp
  · unfold upG at hx
    split at hx
    · rename_i c
      rcases List.mem_append.mp hx with z | z
      · rw [c]
        exact h.rc _ k1 x z
      · obtain ⟨z1, z2, _⟩ := mem_more.mp z
        rw [c]
        exact ⟨z2, .step hb (fil_edge hm z1 z2)⟩
    · exact h.rc p hp x hx
  · unfold upG
    have := h.sd p hp o ho
    split
    · rename_i c
      rw [← c]
      exact List.mem_append_left _ this
    · exact this
/-- closed and sound: what is reached -/
theorem need_done {pt : Pt} {g : Gn} (K : NeedOk pt) (one : ∀ m ∈ pt.moves, Ones m.fl ∧ (m.fl.map (·.1)).Nodup) (h : Snd pt g) (c : Clo pt g) {p : List Nat} (hp : p ∈ pt.places) {b : Nat} : b ∈ g p ↔ b ∈ pt.boxes ∧ Rch (edges pt.boxes pt.moves) (seeds pt.boxes pt.ends) (p, b) := by
  refine ⟨h.rc p hp b, fun ⟨_, hr⟩ => ?_⟩
  have key : ∀ q, Rch (edges pt.boxes pt.moves) (seeds pt.boxes pt.ends) q → q.1 ∈ pt.places ∧ q.2 ∈ g q.1 := by
    intro q hq
    induction hq with
    | @base q e =>
      have hq1 : q.1 ∈ pt.places := by
        unfold seeds at e
        obtain ⟨x, hx, e⟩ := List.mem_flatMap.mp e
        obtain ⟨y, hy, rfl⟩ := List.mem_map.mp e
        exact (K.en x hx).1
      exact ⟨hq1, h.sd q.1 hq1 q.2 e⟩
    | @step k q _ e ih =>
      unfold edges edM at e
      obtain ⟨m, hm, e⟩ := List.mem_flatMap.mp e
      obtain ⟨x, hx, e⟩ := List.mem_flatMap.mp e
      unfold edF at e
      obtain ⟨o, ho, e⟩ := List.mem_map.mp e
      obtain ⟨ho1, ho2⟩ := List.mem_filter.mp ho
      injection e with e1 e2
      subst e1 e2
      obtain ⟨b', hb'⟩ := (one m hm).1 x hx
      have hf : fil m.fl b' = x.2 := by
        unfold fil
        rw [← hb', getF_mem (one m hm).2 hx]
        rfl
      have ih2 : b' ∈ g m.to := by
        have := ih.2
        rw [hb'] at this
        exact this
      exact ⟨(K.mv m hm).1, c m hm b' ih2 o (by rw [hf]; exact of_decide_eq_true ho2) ho1⟩
  exact (key _ hr).2
def FdAt (H : Hp) (F : Addr) (places : List (List Nat)) (g : Gn) : Prop := ∃ kvs, H F = some (.dK kvs) ∧ Paired (fun (kv : Key × V) p => kv.1 = Sum.inr (S p) ∧ ∃ a, kv.2 = .ref a ∧ H a = some (.lst (sgs (g p)))) kvs places
theorem FdAt.same {H H' : Hp} {F : Addr} {places : List (List Nat)} {g : Gn} (s : Same H H') (h : FdAt H F places g) : FdAt H' F places g := by
  obtain ⟨kvs, e, p⟩ := h
  exact ⟨kvs, s _ _ e, Paired.mono (fun kv p ⟨e1, a, e2, e3⟩ => ⟨e1, a, e2, s _ _ e3⟩) p⟩
theorem FdAt.keep {H H' : Hp} {F : Addr} {places : List (List Nat)} {g : Gn} (s : ∀ b o, H b = some o → (∀ ks, o ≠ .dT ks) → (∀ a u, o ≠ .frz a u) → H' b = some o) (h : FdAt H F places g) : FdAt H' F places g := by
  obtain ⟨kvs, e, p⟩ := h
  exact ⟨kvs, s _ _ e (by intro _ z; cases z) (by intro _ _ z; cases z), Paired.mono (fun kv p ⟨e1, a, e2, e3⟩ => ⟨e1, a, e2, s _ _ e3 (by intro _ z; cases z) (by intro _ _ z; cases z)⟩) p⟩
theorem fd_get {H : Hp} {g : Gn} {p : List Nat} : ∀ {kvs : List (Key × V)} {places : List (List Nat)}, Paired (fun (kv : Key × V) p => kv.1 = Sum.inr (S p) ∧ ∃ a, kv.2 = .ref a ∧ H a = some (.lst (sgs (g p)))) kvs places → p ∈ places → ∃ a, valV kvs (Sum.inr (S p)) = some (.ref a) ∧ H a = some (.lst (sgs (g p)))
  | _, _, .cons (a := kv) (b := x) h t, hp => by
    obtain ⟨e1, a, e2, e3⟩ := h
    by_cases c : x = p
    · refine ⟨a, ?_, by rw [← c]; exact e3⟩
      rw [valV_pos (by rw [e1, c]), e2]
    · obtain ⟨a', h1, h2⟩ := fd_get t ((List.mem_cons.mp hp).resolve_left fun e => c e.symm)
      exact ⟨a', by rw [valV_neg (by rw [e1]; exact fun z => c (key_S.mp z))]; exact h1, h2⟩
end Tb

set_option Elab.async false
set_option linter.all false
set_option maxRecDepth 100000
set_option maxHeartbeats 4000000
namespace Tb
open PySem PySem.Spec PyProof.Rows L2 TL
theorem fd_any {H : Hp} {g : Gn} {p : List Nat} : ∀ {kvs : List (Key × V)} {places : List (List Nat)}, Paired (fun (kv : Key × V) p => kv.1 = Sum.inr (S p) ∧ ∃ a, kv.2 = .ref a ∧ H a = some (.lst (sgs (g p)))) kvs places → p ∈ places → (kvs.any fun kv => decide (kv.1 = Sum.inr (S p))) = true
  | _, _, .cons (a := kv) (b := x) h t, hp => by
    rw [List.any_cons, Bool.or_eq_true]
    rcases List.mem_cons.mp hp with e | e
    · exact .inl (decide_eq_true (by rw [h.1, e]))
    · exact .inr (fd_any t e)
theorem fd_map {H H' : Hp} {g : Gn} {p more : List Nat} {new : Addr} (k : ∀ b xs, H b = some (.lst xs) → H' b = some (.lst xs)) (hn : H' new = some (.lst (sgs (g p ++ more)))) : ∀ {kvs : List (Key × V)} {places : List (List Nat)}, Paired (fun (kv : Key × V) p => kv.1 = Sum.inr (S p) ∧ ∃ a, kv.2 = .ref a ∧ H a = some (.lst (sgs (g p)))) kvs places →
    Paired (fun (kv : Key × V) p' => kv.1 = Sum.inr (S p') ∧ ∃ a, kv.2 = .ref a ∧ H' a = some (.lst (sgs (upG g p more p')))) (kvs.map fun kv => if kv.1 = Sum.inr (S p) then (kv.1, V.ref new) else kv) places
  | _, _, .nil => .nil
  | _, _, .cons (a := kv) (b := x) h t => by
    refine .cons ?_ (fd_map k hn t)
    obtain ⟨e1, a, e2, e3⟩ := h
    dsimp only
    by_cases c : x = p
    · rw [if_pos (by rw [e1, c])]
      refine ⟨e1, new, rfl, ?_⟩
      unfold upG
      rw [if_pos c]
      exact hn
    · rw [if_neg (by rw [e1]; exact fun z => c (key_S.mp z))]
      refine ⟨e1, a, e2, ?_⟩
      unfold upG
      rw [if_neg c]
      exact k _ _ e3
theorem FdAt.put {H : Hp} {F new : Addr} {places : List (List Nat)} {g : Gn} {p more : List Nat} {kvs : List (Key × V)} (e : H F = some (.dK kvs)) (hp : Paired (fun (kv : Key × V) p => kv.1 = Sum.inr (S p) ∧ ∃ a, kv.2 = .ref a ∧ H a = some (.lst (sgs (g p)))) kvs places) (hm : p ∈ places) (hn : H new = some (.lst (sgs (g p ++ more)))) :
    FdAt (upd H F (.dK (putK kvs (Sum.inr (S p)) (.ref new)))) F places (upG g p more) := by
  refine ⟨_, upd_same, ?_⟩
  unfold putK
  rw [if_pos (fd_any hp hm)]
  have k : ∀ b xs, H b = some (.lst xs) → (upd H F (.dK (kvs.map fun kv => if kv.1 = Sum.inr (S p) then (kv.1, V.ref new) else kv))) b = some (.lst xs) := fun b xs z => by
    rw [upd_ne (ne_of z e (by intro z; cases z))]
    exact z
  exact fd_map k (k _ _ hn) hp
theorem tas_pairs {K : PySem.W.Frag} {H : Hp} {g : Gn} : ∀ {tas : List (List Nat × Addr × Addr)}, (∀ e ∈ tas, H e.2.1 = some (.tup [.str (S e.1), .ref e.2.2]) ∧ H e.2.2 = some (.lst (sgs (g e.1)))) → Paired (fun p (kv : Key × V) => SqT K H p [kV kv.1, kv.2]) (tas.map fun e => e.2.1) (tas.map fun e => (Sum.inr (S e.1), V.ref e.2.2))
  | [], _ => .nil
  | e :: r, h => .cons (SqT.of (h e List.mem_cons_self).1) (tas_pairs fun x hx => h x (List.mem_cons_of_mem _ hx))
theorem tas_fd {H : Hp} {g : Gn} : ∀ {tas : List (List Nat × Addr × Addr)}, (∀ e ∈ tas, H e.2.2 = some (.lst (sgs (g e.1)))) → Paired (fun (kv : Key × V) p => kv.1 = Sum.inr (S p) ∧ ∃ a, kv.2 = .ref a ∧ H a = some (.lst (sgs (g p)))) (tas.map fun e => ((Sum.inr (S e.1) : Key), V.ref e.2.2)) (tas.map (·.1))
  | [], _ => .nil
  | e :: r, h => .cons ⟨rfl, _, rfl, h e List.mem_cons_self⟩ (tas_fd fun x hx => h x (List.mem_cons_of_mem _ hx))
section
variable {P : Program} {w : World} {K : PySem.W.Frag} {mg : Str → Option Value} {base : Heap}
abbrev nLNeed : List Str := ["_law_parts", "_law_found", "_law_turn", "_law_key", "_law_to", "_law_fills", "_law_box", "_law_more", "_law_place", "_law_sign"]
theorem scLNeed : FnScope nLNeed ["_law_parts"] (defScope sLNeed) := ⟨rfl, rfl, rfl, by decide +kernel, rfl, by decide +kernel, by decide +kernel⟩
abbrev blkS : Scope := { kind := ScopeKind.function, names := [(Str.ofString ".0", NameKind.local), (Str.ofString "_law_place", NameKind.local), (Str.ofString "_law_parts", NameKind.cell)], isGenerator := false, isCoroutine := false }
def spLNeed : Sp := fun vs H Q _ => ∃ (a : Addr) (pt : Pt), vs = [.ref a] ∧ PtAt H a pt ∧ NeedOk pt ∧ (∀ m ∈ pt.moves, Ones m.fl ∧ (m.fl.map (·.1)).Nodup) ∧ pt.moves.length ≤ 250 ∧
  ∀ D g H', Same H H' → H D = none → H' D = some (.dK (fkv (pt.places.map fun p => (p, sortN (g p))))) → Snd pt g → (∀ p ∈ pt.places, ∀ b, b ∈ g p ↔ b ∈ pt.boxes ∧ Rch (edges pt.boxes pt.moves) (seeds pt.boxes pt.ends) (p, b)) → Q (.ref D) H'
theorem ok_lneed {f : Addr} {fd : FuncData} {k : Nat} (F : Fun K "_law_needed" "_law_needed" sLNeed f fd) (md : mg "dict" = none) (mr : mg "range" = none) (ml : mg "len" = none) (mL : mg "list" = none) (ms : mg "sorted" = none) : FnOk P w K mg base CX0 (k + 1) f fd ["_law_parts"] spLNeed := by
  refine F.ok scLNeed (fun vs H Q E h => ?_) (fun cdv A outer s H vs Q E hr h => ?_)
  · obtain ⟨a, pt, rfl, _⟩ := h
    rfl
  · obtain ⟨a, pt, rfl, hp, g0, hone, lmv, q⟩ := h
    have hu := hu_of hr
    refine ⟨_, pss_cons (ps_set (i := 1) scLNeed.nd rfl (.inr rfl) (pe_callTy (call_dictS rfl) (by rfl) md (by decide +kernel) (pa_cons (pe_lc (own := [("_law_place", 8)]) (g := gName 8) (tt := tYes) (te := tTupS (tCons (tVar 8) (tCons (tLc (iStr (tDGet2 (tOp (rIxL K) (tVar 0) (tC (.int 4))) (tVar 8) (tC (.str "")))) (gName 9) (tTest (tOp (fun x y H Q => ∃ (c : Nat) (z : Str), x = .str ⟨#[c]⟩ ∧ y = .str z ∧ Q (.bl (decide (c ∈ z.cps.toList))) H) (tVar 9) (tOp (rIxL K) (tVar 0) (tC (.int 1))))) (tVar 9) [9]) tNil))) rfl scLNeed.nd (pi_list (pe_ix ix_list (pv 0) pe_int (fun _ _ => rfl)))
          (blkOk_by (own := [("_law_place", 8)]) (N := nLNeed) (sc := defScope sLNeed) (by decide +kernel)) (fun _ _ _ _ _ => pg_name (i := 8) scLNeed.nd rfl (.inl rfl)) (fun _ _ _ _ _ => pts_nil) (fun _ _ _ _ _ => pe_tupS (pa_cons (pv 8) (pa_cons (pe_lc (own := [("_law_sign", 9)]) (g := gName 9) (tt := tTest (tOp (fun x y H Q => ∃ (c : Nat) (z : Str), x = .str ⟨#[c]⟩ ∧ y = .str z ∧ Q (.bl (decide (c ∈ z.cps.toList))) H) (tVar 9) (tOp (rIxL K) (tVar 0) (tC (.int 1))))) (te := tVar 9) rfl scLNeed.nd (pi_str (pe_dget2 hu (pe_ix ix_list (pv 0) pe_int (fun _ _ => rfl)) (pv 8) pe_str ⟨rfl, rfl, rfl, rfl⟩))
              (blkOk_by (own := [("_law_sign", 9)]) (N := nLNeed) (sc := blkS) (by decide +kernel)) (fun _ _ _ _ _ => pg_name (i := 9) scLNeed.nd rfl (.inl rfl)) (fun _ _ _ _ _ => pts_one (pt_cmpR op_in_sign (pv 9) (pe_ix ix_list (pv 0) pe_int (fun _ _ => rfl)) (by rfl))) (fun _ _ _ _ _ => pv 9)) pa_nil)))) pa_nil)))
      (pss_cons (ps_for PassesOwn.never rfl (pi_range1 rfl mr (pa_cons (pe_op op_add (pe_op op_mul (pe_callB call_len_str (by rfl) ml PySem.boot_len (pa_cons (pe_ix ix_list (pv 0) pe_int (fun _ _ => rfl)) pa_nil)) (pe_callB call_lenS (by rfl) ml PySem.boot_len (pa_cons (pe_ix ix_list (pv 0) pe_int (fun _ _ => rfl)) pa_nil))) pe_int) pa_nil)) (pg_name (i := 2) scLNeed.nd rfl (.inl rfl))
        (pss_one (ps_lock (ps_for PassesOwn.never rfl (pi_keys (pe_ix ix_list (pv 0) pe_int (fun _ _ => rfl))) (pg_name (i := 3) scLNeed.nd rfl (.inr rfl))
          (pss_cons (ps_asg (pe_dget hu (pe_ix ix_list (pv 0) pe_int (fun _ _ => rfl)) (pv 3) (fun _ _ => rfl)) (pg_tup rfl (pgs_cons (pg_name (i := 4) scLNeed.nd rfl (.inl rfl)) (pgs_cons (pg_name (i := 5) scLNeed.nd rfl (.inl rfl)) pgs_nil))))
          (pss_one (ps_for PassesOwn.never rfl (pi_list (pe_callTy call_list_of (by rfl) mL (by decide +kernel) (pa_cons (pe_dget hu (pv 1) (pv 4) (fun _ _ => rfl)) pa_nil))) (pg_name (i := 6) scLNeed.nd rfl (.inl rfl))
            (pss_cons (ps_setLc (i := 7) (own := [("_law_sign", 9)]) (g := gName 9) (tt := tAnd (tTest (tOp (fun x y H Q => ∃ (c : Nat) (z : Str), x = .str ⟨#[c]⟩ ∧ y = .str z ∧ Q (.bl (decide (c ∈ z.cps.toList))) H) (tVar 9) (tOp (rIxL K) (tVar 0) (tC (.int 1))))) (tTest (tOp (rIn K true) (tVar 9) (tDGet (tVar 1) (tOp (rIxT K) (tVar 3) (tC (.int 0))))))) (te := tVar 9) rfl scLNeed.nd rfl rfl (sw_true rfl rfl rfl (by decide +kernel)) (pi_str (pe_dget2 hu (pv 5) (pv 6) pe_str ⟨rfl, rfl, rfl, rfl⟩))
                (blkOk_by (own := [("_law_sign", 9)]) (N := nLNeed) (sc := defScope sLNeed) (by decide +kernel)) (fun _ _ _ _ _ => pg_name (i := 9) scLNeed.nd rfl (.inl rfl)) (fun _ _ _ _ _ => pts_one (PW.pt (pw_and (pt_cmpR op_in_sign (pv 9) (pe_ix ix_list (pv 0) pe_int (fun _ _ => rfl)) (by rfl)) (pw_and1 (pt_cmpR op_notIn_seq (pv 9) (pe_dget hu (pv 1) (pe_ix ix_tup (pv 3) pe_int (fun _ _ => rfl)) (fun _ _ => rfl)) (by rfl)))))) (fun _ _ _ _ _ => pv 9))
            (pss_one (ps_dput hu (pv 1) (pe_ix ix_tup (pv 3) pe_int (fun _ _ => rfl)) (pe_op op_catS (pe_dget hu (pv 1) (pe_ix ix_tup (pv 3) pe_int (fun _ _ => rfl)) (fun _ _ => rfl)) (pv 7)) rfl))))))))))
      (pss_one (ps_ret (pe_callTy (call_dictS rfl) (by rfl) md (by decide +kernel) (pa_cons (pe_lc (own := [("_law_place", 8)]) (g := gName 8) (tt := tYes) (te := tTupS (tCons (tVar 8) (tCons (tM1 (fun x xs H Q => ∃ a p, ∃ ys : List Str, x = .str a ∧ xs = [.ref p] ∧ (SqL K H p (ys.map V.str) ∨ SqT K H p (ys.map V.str)) ∧ (ys.map (·.length)).sum + ys.length * a.length ≤ 16777216 ∧ Q (.str (Txt.join a ys)) H) (tC (.str "")) (tCB (rSortedS K) (tCons (tDGet (tVar 1) (tVar 8)) tNil))) tNil))) rfl scLNeed.nd (pi_list (pe_ix ix_list (pv 0) pe_int (fun _ _ => rfl)))
          (blkOk_by (own := [("_law_place", 8)]) (N := nLNeed) (sc := defScope sLNeed) (by decide +kernel)) (fun _ _ _ _ _ => pg_name (i := 8) scLNeed.nd rfl (.inl rfl)) (fun _ _ _ _ _ => pts_nil) (fun _ _ _ _ _ => pe_tupS (pa_cons (pv 8) (pa_cons (pe_join pe_str (pe_callB cr_sortedS (by rfl) ms (by decide +kernel) (pa_cons (pe_dget hu (pv 1) (pv 8) (fun _ _ => rfl)) pa_nil))) pa_nil)))) pa_nil))))), ?_⟩
    obtain ⟨tp, tm, te, kvs, hL, hplc, hm, hmv, hte⟩ := id hp.ex
    have big : (1000000 : Nat) < sizeLine := by rw [sizeLine_eq]; decide
    have lws : (txs pt.places).length = pt.places.length := by
      unfold txs
      rw [List.length_map]
    have l50 := g0.p50
    have l6 := g0.b6
    obtain ⟨g1, hg1⟩ : ∃ g1 : Gn, g1 = fun p => ((getF pt.ends p).getD []).filter fun b => decide (b ∈ pt.boxes) := ⟨_, rfl⟩
    have lf : ∀ p, ((getF pt.ends p).getD []).length ≤ 1000 := fun p => by
      cases h : getF pt.ends p with
      | none => exact Nat.zero_le _
      | some f => exact (g0.en _ (getF_in h)).2.1
    -- the seeds
    refine ⟨_, rfl, a, _, 2, _, rfl, rfl, SqL.of hL, atI_nat (j := 2) rfl, tp, rfl, ⟨_, SqL.of hplc⟩, fun D1 nD1 => ?_⟩
    refine lc_it walk_list (fun i H' => Same H H' ∧ ∃ tas : List (List Nat × Addr × Addr), H' D1 = some (.lst ((tas.map fun e => e.2.1).map V.ref)) ∧ (tas.map (·.1)) = pt.places.take i ∧ ∀ e ∈ tas, H' e.2.1 = some (.tup [.str (S e.1), .ref e.2.2]) ∧ H' e.2.2 = some (.lst (sgs (g1 e.1))) ∧ e.2.2 ≠ D1) ⟨same_upd nD1, [], upd_same, rfl, fun e he => (nomatch he)⟩ (fun i H' _ h => SqL.of (h.1 _ _ hplc)) ?_ ?_
    · rintro i x H1 H1' hi ⟨s1, tas, eD, htas, hall⟩ ⟨rfl, hx⟩
      obtain ⟨p, hp', rfl⟩ : ∃ p, pt.places[i]? = some p ∧ x = .str (S p) := by
        unfold txs at hx
        rw [List.getElem?_map] at hx
        cases z : pt.places[i]? with
        | none => rw [z] at hx; cases hx
        | some c => rw [z] at hx; exact ⟨c, rfl, (Option.some.inj hx).symm⟩
      have et : pt.places.take (i + 1) = pt.places.take i ++ [p] := by
        rw [List.take_add_one, hp']
        rfl
      have hL1 := s1 _ _ hL
      have hte1 := s1 _ _ hte
      refine ⟨rfl, tYes_if ⟨_, rfl, _, rfl, a, _, 4, _, rfl, rfl, SqL.of hL1, atI_nat (j := 4) rfl, te, rfl, .inl ⟨_, .inl hte1⟩, _, rfl, _, DGet.k (k := Sum.inr (S p)) hte1, ?_⟩⟩
      rw [val_fkv]
      have ev : ((getF pt.ends p).map fun f => V.str (S f)).getD (.str (Str.ofString "")) = .str (S ((getF pt.ends p).getD [])) := by
        rw [str_empty]
        cases getF pt.ends p <;> rfl
      rw [ev]
      have lfp := lf p
      generalize hf : (getF pt.ends p).getD [] = f at lfp
      refine ⟨S f, rfl, fun D2 nD2 => lc_filtW (xs := sgs f) (keepW pt.boxes) id walk_str (by unfold sgs; rw [List.length_map]; rfl) (fun i H x H' y => str_item y) (fun _ _ => trivial) nD2 (by unfold sgs; rw [List.length_map]; omega) ?_ ?_ ?_⟩
      · intro x hx H' R s' r
        obtain ⟨b, hb, rfl⟩ := List.mem_map.mp hx
        exact ⟨_, rfl, _, rfl, a, _, 1, _, rfl, rfl, SqL.of (s' _ _ hL1), atI_nat (j := 1) rfl, b, _, rfl, rfl, _, rfl, r⟩
      · intro x hx _ H' R s' r
        exact ⟨_, rfl, r H' (fun _ _ e => e)⟩
      intro H2 s2 e2
      have ens : ((sgs f).filter (keepW pt.boxes)).map id = sgs (g1 p) := by
        rw [hg1]
        show _ = sgs (((getF pt.ends p).getD []).filter fun b => decide (b ∈ pt.boxes))
        rw [hf]
        unfold sgs
        rw [List.map_id, List.filter_map]
        rfl
      rw [ens] at e2
      refine ⟨by show 2 ≤ sizeLine; decide, fun t H3 s3 n3 e3 => ⟨_, s3 _ _ (s2 _ _ eD), ?_, fun b o eb => ?_, tas ++ [(p, t, D2)], ?_, ?_, ?_⟩⟩
      · rw [List.length_map, List.length_map]
        have := congrArg List.length htas
        rw [List.length_map, List.length_take] at this
        omega
      · rw [upd_ne (ne_of_none eb nD1)]
        exact s3 _ _ (s2 _ _ (s1 _ _ eb))
      · rw [upd_same, List.map_append, List.map_append]
        rfl
      · rw [et, List.map_append, htas]
        rfl
      · intro e he
        have eD3 := s3 _ _ (s2 _ _ eD)
        have nD2D : D2 ≠ D1 := fun z => by rw [z, eD] at nD2; cases nD2
        have kp : ∀ {b : Addr} {o : HO}, H3 b = some o → b ≠ D1 → (upd H3 D1 (.lst ((tas.map fun e => e.2.1).map V.ref ++ [V.ref t]))) b = some o := fun {b o} z n => by
          rw [upd_ne n]
          exact z
        rcases List.mem_append.mp he with h | h
        · obtain ⟨a1, a2, a3⟩ := hall e h
          refine ⟨kp (s3 _ _ (s2 _ _ a1)) (ne_of (s3 _ _ (s2 _ _ a1)) eD3 (by intro z; cases z)), kp (s3 _ _ (s2 _ _ a2)) a3, a3⟩
        · have := List.mem_singleton.mp h
          subst this
          exact ⟨kp e3 (ne_of e3 eD3 (by intro z; cases z)), kp (s3 _ _ e2) nD2D, nD2D⟩
    rintro H1 ⟨s1, tas, eD, htas, hall⟩
    rw [lws, List.take_length] at htas
    refine ⟨D1, tas.map (fun e => e.2.1), tas.map (fun e => (Sum.inr (S e.1), V.ref e.2.2)), rfl, SqL.of eD, tas_pairs (g := g1) fun e he => ⟨(hall e he).1, (hall e he).2.1⟩, fun Fd H2 s2 n2 e2 => ?_⟩
    have kn0 : ((tas.map (fun e => ((Sum.inr (S e.1) : Key), V.ref e.2.2))).map (·.1)).Nodup := by
      rw [List.map_map]
      have : tas.map ((fun x : Key × V => x.1) ∘ fun e => (Sum.inr (S e.1), V.ref e.2.2)) = (tas.map (·.1)).map fun c => (Sum.inr (S c) : Key) := by
        rw [List.map_map]
        rfl
      rw [this, htas]
      exact List.Pairwise.map _ (fun a b hab z => hab (key_S.mp z)) g0.pn
    rw [merge_new _ [] (by rw [List.nil_append]; exact kn0), List.nil_append] at e2
    have sH2 := s1.trans s2
    have nHF : H Fd = none := s1.free n2
    have fd2 : FdAt H2 Fd pt.places g1 := by
      refine ⟨_, e2, ?_⟩
      have := tas_fd (g := g1) (H := H2) fun e he => s2 _ _ (hall e he).2.1
      rwa [htas] at this
    have sn1 := snd0 g0 hg1
    have hprod : pt.boxes.length * pt.places.length ≤ 300 := Nat.le_trans (Nat.mul_le_mul l6 l50) (by decide)
    have en : (((S pt.boxes).length : Nat) : Int) * (((txs pt.places).length : Nat) : Int) + 1 = ((pt.boxes.length * pt.places.length + 1 : Nat) : Int) := by
      rw [len_S, lws]
      simp
    have kn : (kvs.map (·.1)).Nodup := by
      rw [mvAt_keys hmv]
      exact keyM_nd g0.ky
    have lk : kvs.length = pt.moves.length := Paired.length hmv
    refine ⟨_, rfl, a, _, 1, _, rfl, rfl, SqL.of (sH2 _ _ hL), atI_nat (j := 1) rfl, S pt.boxes, rfl, by rw [len_S]; omega, _, rfl, a, _, 2, _, rfl, rfl, SqL.of (sH2 _ _ hL), atI_nat (j := 2) rfl, tp, _, rfl, .inl (SqL.of (sH2 _ _ hplc)), _, _, rfl, rfl, .inl ⟨by rw [len_S]; omega, by rw [len_S]; omega⟩, _, _, rfl, rfl, ?_⟩
    refine ⟨((pt.boxes.length * pt.places.length + 1 : Nat) : Int), by rw [← en], by omega, by omega, for_range (lo := 0) (n := ((pt.boxes.length * pt.places.length + 1 : Nat) : Int).toNat) (fun i σ H' => ∃ v2 v3 v4 v5 v6 v7 g, σ = [some (.ref a), some (.ref Fd), v2, v3, v4, v5, v6, v7, none, none] ∧ Same H H' ∧ FdAt H' Fd pt.places g ∧ Snd pt g ∧ (Clo pt g ∨ i ≤ tot pt.places g))
      ⟨none, none, none, none, none, none, g1, rfl, sH2, fd2, sn1, .inr (Nat.zero_le _)⟩ ?_ ?_⟩
    · rintro i σ H3 hi ⟨v2, v3, v4, v5, v6, v7, g, rfl, s3, fd3, sn, hcl⟩
      have hm3 := s3 _ _ hm
      have ntF : tm ≠ Fd := fun z => by rw [z, nHF] at hm; cases hm
      refine ⟨tm, _, hm3, trivial, fun od => ?_⟩
      have kl : ∀ {b : Addr} {o : HO}, H3 b = some o → (∀ ks, o ≠ .dT ks) → (upd H3 tm (.frz od (.dT kvs))) b = some o := fun {b o} e no => by
        rw [upd_ne (ne_of e hm3 (no _))]
        exact e
      have hml : (upd H3 tm (.frz od (.dT kvs))) tm = some (.frz od (.dT kvs)) := upd_same
      have back : ∀ H', But Fd (upd H3 tm (.frz od (.dT kvs))) H' → Same H (upd H' tm (.dT kvs)) := fun H' b' b o e => by
        by_cases c : b = tm
        · rw [c, hm] at e
          cases e
          rw [c, upd_same]
        · rw [upd_ne c]
          exact b' _ _ (by rw [upd_ne c]; exact s3 _ _ e) (ne_of_none e nHF)
      have hLl := kl (s3 _ _ hL) (by intro _ z; cases z)
      have fdl : FdAt (upd H3 tm (.frz od (.dT kvs))) Fd pt.places g := fd3.keep fun b o e no _ => kl e no
      have hmvl : Paired (MvAt (upd H3 tm (.frz od (.dT kvs)))) kvs pt.moves := Paired.mono (fun kv m z => by
        obtain ⟨e, t, d, a1, a2, a3⟩ := z
        exact ⟨e, t, d, a1, kl (s3 _ _ a2) (by intro _ z; cases z), kl (s3 _ _ a3) (by intro _ z; cases z)⟩) hmv
      have nFm : ∀ {b : Addr} {o : HO}, H b = some o → b ≠ Fd := fun e z => by rw [z, nHF] at e; cases e
      have eFl : ∃ ks, (upd H3 tm (.frz od (.dT kvs))) Fd = some (.dK ks) := by
        obtain ⟨ks, e, _⟩ := fdl
        exact ⟨ks, e⟩
      generalize upd H3 tm (.frz od (.dT kvs)) = Hl at kl hml back hLl fdl hmvl eFl
      obtain ⟨ksl, eFl⟩ := eFl
      refine ⟨_, rfl, a, _, 3, _, rfl, rfl, SqL.of hLl, atI_nat (j := 3) rfl, tm, od, rfl, .inr ⟨kvs, hml, for_it walk_keysT
        (fun j σ H' => ∃ (v3 v4 v5 v6 v7 : Option V) (g' : Gn), σ = [some (.ref a), some (.ref Fd), some (.int (0 + i)), v3, v4, v5, v6, v7, none, none] ∧ But Fd Hl H' ∧ FdAt H' Fd pt.places g' ∧ Snd pt g' ∧ (((∀ p ∈ pt.places, g' p = g p) ∧ ∀ m ∈ pt.moves.take j, ClM pt.boxes g m) ∨ (tot pt.places g < tot pt.places g' ∧ ¬ Clo pt g)))
        ⟨v3, v4, v5, v6, v7, g, rfl, But.refl _ _, fdl, sn, .inl ⟨fun _ _ => rfl, fun m hm => (nomatch hm)⟩⟩ (fun j σ H' _ ⟨_, _, _, _, _, _, _, b, _⟩ => b _ _ hml ntF) ?_ ?_⟩⟩
      · rintro j x σ H4 H4' hj ⟨v3, v4, v5, v6, v7, g', rfl, b4, fd4, sn4, hAB⟩ ⟨rfl, kx, v, kq, hkv, rfl, hq⟩
        obtain ⟨m, hmj, hin⟩ := paired_get2 hmvl hkv
        obtain ⟨ek, t, d, ev, ht, hd⟩ := hin
        have ek : kx = mkey m.pl m.lt := ek
        have ev : v = .ref t := ev
        subst ek ev
        have hmm := List.mem_of_getElem? hmj
        obtain ⟨k1, k2, k3, k4⟩ := g0.mv m hmm
        obtain ⟨mon, mnd⟩ := hone m hmm
        have typ : ∀ {b : Addr} {o : HO}, Hl b = some o → (∀ ks, o ≠ .dK ks) → H4' b = some o := fun e no => b4 _ _ e (ne_of e eFl (no _))
        have ndF : d ≠ Fd := fun z => by
          have h1 := Paired.length hmv
          obtain ⟨m', hm', hin'⟩ := paired_get2 hmv hkv
          obtain ⟨_, t', d', e', ht', hd'⟩ := hin'
          have e' : V.ref t = V.ref t' := e'
          injection e' with e'
          subst e'
          have ht3 := kl (s3 _ _ ht') (by intro _ z; cases z)
          rw [ht] at ht3
          injection ht3 with h
          injection h with h
          injection h with _ h
          injection h with h _
          injection h with h
          rw [← h] at hd'
          exact nFm hd' z
        have ht4 := typ ht (by intro _ z; cases z)
        have hd4 := b4 _ _ hd ndF
        have hL4 := typ hLl (by intro _ z; cases z)
        have htm4 := b4 _ _ hml ntF
        have hkq : H4' kq = some (.tup [.str (S m.pl), .str (S [m.lt])]) := hq
        have et : pt.moves.take (j + 1) = pt.moves.take j ++ [m] := by
          rw [List.take_add_one, hmj]
          rfl
        have hval : valV kvs (mkey m.pl m.lt) = some (.ref t) := valV_of_mem kn (p := (mkey m.pl m.lt, V.ref t)) (List.mem_of_getElem? hkv)
        have hget : DGet H4' tm (.ref kq) (some (.ref t)) := .inr ⟨kvs, mkey m.pl m.lt, kq, .inr ⟨od, htm4⟩, rfl, hq, hval.symm⟩
        refine ⟨_, rfl, a, _, 3, _, rfl, rfl, SqL.of hL4, atI_nat (j := 3) rfl, _, rfl, tm, .ref t, rfl, hget, t, _, rfl, SqT.of ht4, rfl, _, _, rfl, _, _, rfl, rfl, ?_⟩
        obtain ⟨kvF, eF4, hpF4⟩ := id fd4
        obtain ⟨la, hv4, hla⟩ := fd_get hpF4 k2
        refine ⟨_, rfl, _, rfl, Fd, _, rfl, hv4 ▸ DGet.k (k := Sum.inr (S m.to)) eF4, la, _, rfl, .inl (SqL.of hla), fun lc hlc => ?_⟩
        have s5 := same_upd (o := .lst (sgs (g' m.to))) hlc
        have elc : (upd H4' lc (.lst (sgs (g' m.to)))) lc = some (.lst (sgs (g' m.to))) := upd_same
        have b5 := b4.trans (Same.but s5 Fd)
        have fd5 := fd4.same s5
        have hkq5 := s5 _ _ hkq
        have hd5 := s5 _ _ hd4
        have hL5 := s5 _ _ hL4
        have nlcF : lc ≠ Fd := fun z => by rw [z, eF4] at hlc; cases hlc
        have nkF : kq ≠ Fd := ne_of hkq eF4 (by intro z; cases z)
        have nLF : a ≠ Fd := ne_of hL4 eF4 (by intro z; cases z)
        generalize upd H4' lc (.lst (sgs (g' m.to))) = H5 at s5 elc b5 fd5 hkq5 hd5 hL5
        have hl0 : ∀ b ∈ g' m.to, Rch (edges pt.boxes pt.moves) (seeds pt.boxes pt.ends) (m.to, b) := fun b hb => (sn4.rc _ k2 b hb).2
        obtain ⟨l0, el0⟩ : ∃ l0, l0 = g' m.to := ⟨_, rfl⟩
        rw [← el0] at elc hl0
        have hAB0 : ((∀ p ∈ pt.places, g' p = g p) ∧ l0 = g m.to ∧ (∀ m ∈ pt.moves.take j, ClM pt.boxes g m)) ∨ (tot pt.places g < tot pt.places g' ∧ ¬ Clo pt g) := hAB.imp (fun ⟨h1, h2⟩ => ⟨h1, by rw [el0, h1 _ k2], h2⟩) id
        refine ⟨lc, rfl, ⟨_, SqL.of elc⟩, for_list (K := K) (a := lc) (xs := sgs l0) (fun u σ H' => ∃ (v6 v7 : Option V) (g2 : Gn), σ = [some (.ref a), some (.ref Fd), some (.int (0 + i)), some (.ref kq), some (.str (S m.to)), some (.ref d), v6, v7, none, none] ∧ But Fd H5 H' ∧ FdAt H' Fd pt.places g2 ∧ Snd pt g2 ∧ (((∀ p ∈ pt.places, g2 p = g p) ∧ l0 = g m.to ∧ (∀ m ∈ pt.moves.take j, ClM pt.boxes g m) ∧ ∀ b ∈ l0.take u, ∀ o ∈ fil m.fl b, o ∈ pt.boxes → o ∈ g m.pl) ∨ (tot pt.places g < tot pt.places g2 ∧ ¬ Clo pt g)))
          ⟨v6, v7, g', rfl, But.refl _ _, fd5, sn4, hAB0.imp (fun ⟨h1, h2, h3⟩ => ⟨h1, h2, h3, fun b hb => (nomatch hb)⟩) id⟩ (fun u σ H' _ ⟨_, _, _, _, b, _⟩ => SqL.of (b _ _ elc nlcF)) ?_ ?_⟩
        · rintro u y σ H6 hu6 ⟨w6, w7, g2, rfl, b6, fd6, sn6, hAB6⟩
          obtain ⟨b, hb, rfl⟩ : ∃ b, l0[u]? = some b ∧ y = .str (S [b]) := by
            unfold sgs at hu6
            rw [List.getElem?_map] at hu6
            cases z : l0[u]? with
            | none => rw [z] at hu6; cases hu6
            | some c => rw [z] at hu6; exact ⟨c, rfl, (Option.some.inj hu6).symm⟩
          have hbm := List.mem_of_getElem? hb
          have eu : l0.take (u + 1) = l0.take u ++ [b] := by
            rw [List.take_add_one, hb]
            rfl
          have hd6 := b6 _ _ hd5 ndF
          have hkq6 := b6 _ _ hkq5 nkF
          have hL6 := b6 _ _ hL5 nLF
          obtain ⟨kvG, eF6, hpF6⟩ := id fd6
          obtain ⟨lb, hv6, hlb⟩ := fd_get hpF6 k1
          refine ⟨_, rfl, d, rfl, .inl ⟨_, .inl hd6⟩, _, rfl, _, DGet.k (k := Sum.inr (S [b])) hd6, ?_⟩
          rw [val_fkv]
          have ev : ((getF m.fl [b]).map fun f => V.str (S f)).getD (.str (Str.ofString "")) = .str (S (fil m.fl b)) := by
            unfold fil
            rw [str_empty]
            cases getF m.fl [b] <;> rfl
          rw [ev]
          have lfb := k4 b
          refine ⟨S (fil m.fl b), rfl, fun D3 nD3 => lc_filtW (xs := sgs (fil m.fl b)) (fun v => match v with | .str x => decide ((tl x).headD 0 ∈ pt.boxes ∧ (tl x).headD 0 ∉ g2 m.pl) | _ => false) id walk_str (by unfold sgs; rw [List.length_map]; rfl) (fun i H x H' y => str_item y) (fun _ _ => trivial) nD3 (by unfold sgs; rw [List.length_map]; omega) ?_ ?_ ?_⟩
          · intro x hx H' R s' r
            obtain ⟨o, ho, rfl⟩ := List.mem_map.mp hx
            have r : R (decide (o ∈ pt.boxes ∧ o ∉ g2 m.pl)) H' := r
            refine ⟨_, rfl, _, rfl, a, _, 1, _, rfl, rfl, SqL.of (s' _ _ hL6), atI_nat (j := 1) rfl, o, _, rfl, rfl, _, rfl, ?_⟩
            rw [show decide (o ∈ (S pt.boxes).cps.toList) = decide (o ∈ pt.boxes) from rfl]
            by_cases hob : o ∈ pt.boxes
            · rw [decide_eq_true hob]
              refine iteT ⟨_, rfl, _, rfl, _, rfl, kq, _, 0, _, rfl, rfl, SqT.of (s' _ _ hkq6), atI_nat (j := 0) rfl, Fd, _, rfl, hv6 ▸ DGet.k (k := Sum.inr (S m.pl)) (s' _ _ eF6), lb, _, rfl, .inl (SqL.of (s' _ _ hlb)), rfl, ?_, _, rfl, ?_⟩
              · unfold sgs
                rw [List.all_map, List.all_eq_true]
                exact fun _ _ => rfl
              · have e1 : inV (.str (S [o])) (sgs (g2 m.pl)) = decide (o ∈ g2 m.pl) := by
                  rw [sgs_txs]
                  unfold txs
                  rw [inV_S, decide_eq_decide]
                  exact ⟨fun h => by obtain ⟨x, hx, e⟩ := List.mem_map.mp h; injection e with e _; rwa [← e], fun h => List.mem_map.mpr ⟨o, h, rfl⟩⟩
                have e2 : (if true = true then !inV (.str (S [o])) (sgs (g2 m.pl)) else inV (.str (S [o])) (sgs (g2 m.pl))) = decide (o ∈ pt.boxes ∧ o ∉ g2 m.pl) := by
                  rw [if_pos rfl, e1]
                  by_cases h : o ∈ g2 m.pl
                  · rw [decide_eq_true h, decide_eq_false (fun z => z.2 h)]
                    rfl
                  · rw [decide_eq_false h, decide_eq_true ⟨hob, h⟩]
                    rfl
                exact e2 ▸ r
            · rw [decide_eq_false hob]
              rw [decide_eq_false (fun z => hob z.1)] at r
              exact iteF r
          · intro x hx _ H' R s' r
            exact ⟨_, rfl, r H' (fun _ _ e => e)⟩
          intro H7 s7 e7
          have ens : ((sgs (fil m.fl b)).filter (fun v => match v with | .str x => decide ((tl x).headD 0 ∈ pt.boxes ∧ (tl x).headD 0 ∉ g2 m.pl) | _ => false)).map id = sgs (moreG pt.boxes m.fl b (g2 m.pl)) := by
            unfold sgs moreG
            rw [List.map_id, List.filter_map]
            rfl
          rw [ens] at e7
          have eF7 := s7 _ _ eF6
          have hkq7 := s7 _ _ hkq6
          have hlb7 := s7 _ _ hlb
          have lmo : (moreG pt.boxes m.fl b (g2 m.pl)).length ≤ 1000 := Nat.le_trans (List.length_filter_le _ _) lfb
          have lg2 := sn6.len l6 k1
          refine ⟨_, rfl, _, rfl, kq, _, 0, _, rfl, rfl, SqT.of hkq7, atI_nat (j := 0) rfl, Fd, _, rfl, hv6 ▸ DGet.k (k := Sum.inr (S m.pl)) eF7, _, rfl, lb, D3, _, _, _, rfl, rfl, hlb7, e7, ?_, rfl, fun Dn H8 s8 n8 e8 => ?_⟩
          · unfold sgs
            rw [List.length_map, List.length_map]
            omega
          have e8' : H8 Dn = some (.lst (sgs (g2 m.pl ++ moreG pt.boxes m.fl b (g2 m.pl)))) := by
            rw [e8]
            unfold sgs
            rw [List.map_append]
          have s68 := s7.trans s8
          obtain ⟨kvH, eF8, hpF8⟩ := fd6.same s68
          have hlen : kvH.length < sizeLine := by
            rw [Paired.length hpF8]
            omega
          have fd9 := FdAt.put (more := moreG pt.boxes m.fl b (g2 m.pl)) eF8 hpF8 k1 e8'
          have sn9 := sn6.up g0 hmm (hl0 b hbm)
          refine ⟨_, rfl, _, rfl, kq, _, 0, _, rfl, rfl, SqT.of (s8 _ _ hkq7), atI_nat (j := 0) rfl, Fd, _, rfl, DPut.k (k := Sum.inr (S m.pl)) eF8 hlen, _, _, upG g2 m.pl (moreG pt.boxes m.fl b (g2 m.pl)), rfl, (b6.trans (Same.but s68 Fd)).trans (But.upd _ _ _), fd9, sn9, ?_⟩
          by_cases hne : moreG pt.boxes m.fl b (g2 m.pl) = []
          · have heq : ∀ p, upG g2 m.pl (moreG pt.boxes m.fl b (g2 m.pl)) p = g2 p := fun p => by
              unfold upG
              rw [hne, List.append_nil]
              split
              · rename_i c
                rw [c]
              · rfl
            rcases hAB6 with ⟨h1, h2, h3, h4⟩ | ⟨h1, h2⟩
            · refine .inl ⟨fun p hp => (heq p).trans (h1 p hp), h2, h3, fun b' hb' o ho hob => ?_⟩
              rw [eu] at hb'
              rcases List.mem_append.mp hb' with z | z
              · exact h4 b' z o ho hob
              · rw [List.mem_singleton.mp z] at ho
                rw [← h1 _ k1]
                exact Decidable.byContradiction fun hno => by
                  have := mem_more.mpr ⟨ho, hob, hno⟩
                  rw [hne] at this
                  exact nomatch this
            · exact .inr ⟨by rw [tot_eq fun p _ => heq p]; exact h1, h2⟩
          · have hpos : 0 < (moreG pt.boxes m.fl b (g2 m.pl)).length := List.length_pos_iff.mpr hne
            have htot := tot_up (g := g2) (more := moreG pt.boxes m.fl b (g2 m.pl)) g0.pn k1
            rcases hAB6 with ⟨h1, h2, h3, h4⟩ | ⟨h1, h2⟩
            · refine .inr ⟨by rw [htot, tot_eq h1]; omega, fun hc => ?_⟩
              obtain ⟨o, ho⟩ := List.exists_mem_of_ne_nil _ hne
              obtain ⟨o1, o2, o3⟩ := mem_more.mp ho
              rw [h1 _ k1] at o3
              exact o3 (hc m hmm b (by rw [← h2]; exact hbm) o o1 o2)
            · exact .inr ⟨by rw [htot]; omega, h2⟩
        · rintro σ H6 ⟨w6, w7, g2, rfl, b6, fd6, sn6, hAB6⟩
          have ll : (sgs l0).length = l0.length := by
            unfold sgs
            rw [List.length_map]
          rw [ll, List.take_length] at hAB6
          refine ⟨_, _, _, _, _, g2, rfl, b5.trans b6, fd6, sn6, hAB6.imp (fun ⟨h1, h2, h3, h4⟩ => ⟨h1, fun m' hm' => ?_⟩) id⟩
          rw [et] at hm'
          rcases List.mem_append.mp hm' with z | z
          · exact h3 m' z
          · rw [List.mem_singleton.mp z]
            exact fun b hb => h4 b (by rw [h2]; exact hb)
      · rintro σ H4 ⟨v3, v4, v5, v6, v7, g', rfl, b4, fd4, sn4, hAB⟩
        rw [lk, List.take_length] at hAB
        have htm4 := b4 _ _ hml ntF
        refine ⟨htm4, _, _, _, _, _, _, g', rfl, back _ b4, fd4.keep fun b o e _ no => ?_, sn4, ?_⟩
        · rw [upd_ne (ne_of e htm4 (no _ _))]
          exact e
        · rcases hAB with ⟨h1, h2⟩ | ⟨h1, h2⟩
          · refine .inl fun m hm b hb o ho hob => ?_
            obtain ⟨k1, k2, _⟩ := g0.mv m hm
            rw [h1 _ k2] at hb
            rw [h1 _ k1]
            exact h2 m hm b hb o ho hob
          · have := hcl.resolve_left h2
            exact .inr (by omega)
    · rintro σ H3 ⟨v2, v3, v4, v5, v6, v7, g, rfl, s3, fd3, sn, hcl⟩
      have hc : Clo pt g := hcl.resolve_right fun h => by
        have h1 := tot_le sn
        rw [Int.toNat_natCast] at h
        omega
      have hdone := fun p hp b => need_done g0 hone sn hc (p := p) hp (b := b)
      obtain ⟨kvF, eF3, hpF3⟩ := id fd3
      have hpl3 := s3 _ _ hplc
      refine ⟨_, rfl, a, _, 2, _, rfl, rfl, SqL.of (s3 _ _ hL), atI_nat (j := 2) rfl, tp, rfl, ⟨_, SqL.of hpl3⟩, fun D2 nD2 => ?_⟩
      refine lc_it walk_list (fun i H' => Same H3 H' ∧ ∃ ts : List Addr, H' D2 = some (.lst (ts.map V.ref)) ∧ Paired (fun t p => H' t = some (.tup [.str (S p), .str (S (sortN (g p)))])) ts (pt.places.take i)) ⟨same_upd nD2, [], upd_same, .nil⟩ (fun i H' _ h => SqL.of (h.1 _ _ hpl3)) ?_ ?_
      · rintro i x H4 H4' hi ⟨s4, ts, eD2, hts⟩ ⟨rfl, hx⟩
        obtain ⟨p, hp', rfl⟩ : ∃ p, pt.places[i]? = some p ∧ x = .str (S p) := by
          unfold txs at hx
          rw [List.getElem?_map] at hx
          cases z : pt.places[i]? with
          | none => rw [z] at hx; cases hx
          | some c => rw [z] at hx; exact ⟨c, rfl, (Option.some.inj hx).symm⟩
        have et : pt.places.take (i + 1) = pt.places.take i ++ [p] := by
          rw [List.take_add_one, hp']
          rfl
        have hpm := List.mem_of_getElem? hp'
        obtain ⟨la, hv, hla⟩ := fd_get hpF3 hpm
        have lgp := sn.len l6 hpm
        have elg : (sgs (g p)) = ((g p).map fun c => S [c]).map V.str := by
          unfold sgs
          rw [List.map_map]
          rfl
        refine ⟨rfl, tYes_if ⟨_, rfl, ⟨_, rfl⟩, _, rfl, _, rfl, Fd, _, rfl, hv ▸ DGet.k (k := Sum.inr (S p)) (s4 _ _ eF3), la, (g p).map fun c => S [c], rfl, SqL.of (by rw [← elg]; exact s4 _ _ hla), by rw [List.length_map]; omega, fun ys ps hperm hsrt hps => ?_⟩⟩
        have ey := sorted_signs hperm hsrt
        subst ey
        have lsr : (sortN (g p)).length = (g p).length := (sortN_perm _).length_eq
        have s5 := same_upd (o := .lst (((sortN (g p)).map fun c => S [c]).map V.str)) hps
        have e5 : (upd H4' ps (.lst (((sortN (g p)).map fun c => S [c]).map V.str))) ps = some (.lst (((sortN (g p)).map fun c => S [c]).map V.str)) := upd_same
        generalize upd H4' ps (.lst (((sortN (g p)).map fun c => S [c]).map V.str)) = H5 at s5 e5
        refine ⟨_, ps, (sortN (g p)).map fun c => S [c], rfl, rfl, .inl (SqL.of e5), ?_, by show 2 ≤ sizeLine; decide, fun t H6 s6 n6 e6 => ⟨_, s6 _ _ (s5 _ _ eD2), ?_, fun b o eb => ?_, ts ++ [t], ?_, ?_⟩⟩
        · rw [sum_ones, str_empty, len_S]
          show _ + _ * 0 ≤ _
          omega
        · rw [List.length_map, Paired.length hts, List.length_take]
          omega
        · rw [upd_ne (ne_of_none eb nD2)]
          exact s6 _ _ (s5 _ _ (s4 _ _ eb))
        · rw [upd_same, List.map_append]
          rfl
        · rw [str_empty, join_signs] at e6
          rw [et]
          have keepD : ∀ {b : Addr} {xs : List V}, H6 b = some (.tup xs) → (upd H6 D2 (.lst (ts.map V.ref ++ [V.ref t]))) b = some (.tup xs) := fun {b xs} e => by
            rw [upd_ne (ne_of e (s6 _ _ (s5 _ _ eD2)) (by intro z; cases z))]
            exact e
          exact (Paired.mono (fun t' q' z => keepD (s6 _ _ (s5 _ _ z))) hts).snoc (keepD e6)
      · rintro H4 ⟨s4, ts, eD2, hts⟩
        rw [lws, List.take_length] at hts
        have hpr : Paired (fun p (kv : Key × V) => SqT K H4 p [kV kv.1, kv.2]) ts (fkv (pt.places.map fun p => (p, sortN (g p)))) := by
          have h9 : Paired (fun t p => SqT K H4 t [.str (S p), .str (S (sortN (g p)))]) ts pt.places := Paired.mono (fun t q z => SqT.of z) hts
          unfold fkv
          rw [List.map_map]
          exact paired_mapR h9
        have ndF : ((fkv (pt.places.map fun p => (p, sortN (g p)))).map (·.1)).Nodup := by
          refine fkv_nd ?_
          rw [List.map_map]
          have : pt.places.map ((fun x : List Nat × List Nat => x.1) ∘ fun p => (p, sortN (g p))) = pt.places := List.map_id _
          rw [this]
          exact g0.pn
        refine ⟨D2, ts, fkv (pt.places.map fun p => (p, sortN (g p))), rfl, SqL.of eD2, hpr, fun Dn H5 s5 n5 e5 => ?_⟩
        rw [merge_new _ [] (by rw [List.nil_append]; exact ndF), List.nil_append] at e5
        have s35 := (s3.trans s4).trans s5
        exact q Dn g H5 s35 ((s3.trans s4).free n5) e5 sn hdone
end
end Tb

set_option Elab.async false
set_option linter.all false
set_option maxRecDepth 100000
set_option maxHeartbeats 4000000
namespace Tb
open PySem PySem.Spec PyProof.Rows L2 TL
/-! ### what is kept of fillings (of Rm1) -/
theorem sub_flat {l m : List (List Nat)} (h : l.Sublist m) : l.flatten.Sublist m.flatten := by
  induction h with
  | slnil => exact .slnil
  | cons a _ ih =>
    rw [List.flatten_cons]
    exact ih.trans (List.sublist_append_right _ _)
  | cons_cons a _ ih =>
    rw [List.flatten_cons, List.flatten_cons]
    exact (List.Sublist.refl _).append ih
/-- the fillings in order, the empty ones too -/
def allF (fl : Fil) : Fil := (sortN (fl.map fun q => q.1.headD 0)).map fun b => ([b], (getF fl [b]).getD [])
theorem keptF_eq (fl : Fil) : keptF fl = (allF fl).filter fun q => decide (q.2 ≠ []) := rfl
theorem allF_perm {fl : Fil} (nd : (fl.map (·.1)).Nodup) (h : Ones fl) : (allF fl).Perm fl := by
  have h1 : (allF fl).Perm ((fl.map fun q => q.1.headD 0).map fun b => ([b], (getF fl [b]).getD [])) := (sortN_perm _).map _
  refine h1.trans ?_
  rw [List.map_map]
  have : fl.map ((fun b => ([b], (getF fl [b]).getD [])) ∘ fun q : List Nat × List Nat => q.1.headD 0) = fl.map id := List.map_congr_left fun q hq => by
    obtain ⟨b, e⟩ := h q hq
    have e2 : q.1.headD 0 = b := by rw [e]; rfl
    show ([q.1.headD 0], (getF fl [q.1.headD 0]).getD []) = q
    rw [e2, ← e, getF_mem nd hq]
    rfl
  rw [this, List.map_id]
theorem kept_mem {fl : Fil} (nd : (fl.map (·.1)).Nodup) (h : Ones fl) {q : List Nat × List Nat} (hq : q ∈ keptF fl) : q ∈ fl ∧ q.2 ≠ [] := by
  rw [keptF_eq] at hq
  obtain ⟨h1, h2⟩ := List.mem_filter.mp hq
  exact ⟨(allF_perm nd h).mem_iff.mp h1, of_decide_eq_true h2⟩
theorem kept_len {fl : Fil} (nd : (fl.map (·.1)).Nodup) (h : Ones fl) : (keptF fl).length ≤ fl.length := by
  rw [keptF_eq, ← (allF_perm nd h).length_eq]
  exact List.length_filter_le _ _
theorem kept_sub {fl : Fil} : (keptF fl).Sublist (allF fl) := List.filter_sublist
theorem kept_flat {fl : Fil} (nd : (fl.map (·.1)).Nodup) (h : Ones fl) : ((keptF fl).map (·.2)).flatten.length ≤ (fl.map (·.2)).flatten.length ∧ ∀ c, ((keptF fl).map (·.2)).flatten.count c ≤ (fl.map (·.2)).flatten.count c := by
  have s : ((keptF fl).map (·.2)).flatten.Sublist ((allF fl).map (·.2)).flatten := sub_flat (kept_sub.map _)
  have p : ((allF fl).map (·.2)).flatten.Perm (fl.map (·.2)).flatten := ((allF_perm nd h).map _).flatten
  exact ⟨by rw [← p.length_eq]; exact s.length_le, fun c => by rw [← p.count_eq]; exact s.count_le _⟩
theorem kept_nodup {fl : Fil} (nd : (fl.map (·.1)).Nodup) (h : Ones fl) : ((keptF fl).map (·.1)).Nodup :=
  (kept_sub.map _).nodup (((allF_perm nd h).map _).nodup_iff.mpr nd)
theorem kept_ones {fl : Fil} (nd : (fl.map (·.1)).Nodup) (h : Ones fl) : Ones (keptF fl) := fun q hq => h q (kept_mem nd h hq).1
theorem kept_heads {fl : Fil} (nd : (fl.map (·.1)).Nodup) (h : Ones fl) : ((keptF fl).map fun q => q.1.headD 0).Pairwise (· ≤ ·) := by
  have s : ((keptF fl).map fun q => q.1.headD 0).Sublist ((allF fl).map fun q => q.1.headD 0) := kept_sub.map _
  refine List.Pairwise.sublist s ?_
  have : ((allF fl).map fun q => q.1.headD 0) = sortN (fl.map fun q => q.1.headD 0) := by
    unfold allF
    rw [List.map_map]
    exact List.map_id _
  rw [this]
  exact sortN_le _
theorem kept_sorted {fl : Fil} (nd : (fl.map (·.1)).Nodup) (h : Ones fl) : sortN ((keptF fl).map fun q => q.1.headD 0) = (keptF fl).map fun q => q.1.headD 0 := (sortN_of (List.Perm.refl _) (kept_heads nd h)).symm
theorem kept_idem {fl : Fil} (nd : (fl.map (·.1)).Nodup) (h : Ones fl) : keptF (keptF fl) = keptF fl := by
  have h1 := kept_nodup nd h
  have h2 := kept_ones nd h
  have e : allF (keptF fl) = keptF fl := by
    unfold allF
    rw [kept_sorted nd h, List.map_map]
    have : (keptF fl).map ((fun b => ([b], (getF (keptF fl) [b]).getD [])) ∘ fun q : List Nat × List Nat => q.1.headD 0) = (keptF fl).map id := List.map_congr_left fun q hq => by
      obtain ⟨b, e⟩ := h2 q hq
      have e2 : q.1.headD 0 = b := by rw [e]; rfl
      show ([q.1.headD 0], (getF (keptF fl) [q.1.headD 0]).getD []) = q
      rw [e2, ← e, getF_mem h1 hq]
      rfl
    rw [this, List.map_id]
  rw [keptF_eq, e, List.filter_eq_self]
  exact fun q hq => decide_eq_true (kept_mem nd h hq).2
end Tb

set_option Elab.async false
set_option linter.all false
set_option maxRecDepth 100000
set_option maxHeartbeats 4000000
namespace Tb
open PySem PySem.Spec PyProof.Rows L2 TL
/-! ### what the law's and the program's clearing have in common -/
theorem sortN_cong {a b : List Nat} (h : a.Perm b) : sortN a = sortN b := sortN_of ((sortN_perm a).trans h) (sortN_le a)
theorem sortN_idem (a : List Nat) : sortN (sortN a) = sortN a := sortN_cong (sortN_perm a)
theorem sortN_filter (p : Nat → Bool) (l : List Nat) : (sortN l).filter p = sortN (l.filter p) := sortN_of ((sortN_perm l).filter p) ((sortN_le l).filter p)
theorem mem_sortN {b : Nat} {l : List Nat} : b ∈ sortN l ↔ b ∈ l := (sortN_perm l).mem_iff
theorem sortN_nd {l : List Nat} (h : l.Nodup) : (sortN l).Nodup := (sortN_perm l).nodup_iff.mpr h
theorem mem_edges_iff {B : List Nat} {ms : List Mv} {k q : Nd} : (k, q) ∈ edges B ms ↔ ∃ m ∈ ms, ∃ r ∈ m.fl, ∃ o ∈ r.2, o ∈ B ∧ k = (m.to, r.1.headD 0) ∧ q = (m.pl, o) := by
  constructor
  · intro h
    obtain ⟨m, hm, h⟩ := List.mem_flatMap.mp h
    obtain ⟨r, hr, h⟩ := List.mem_flatMap.mp h
    obtain ⟨o, ho, e⟩ := List.mem_map.mp h
    obtain ⟨h1, h2⟩ := List.mem_filter.mp ho
    injection e with e1 e2
    exact ⟨m, hm, r, hr, o, of_decide_eq_true h2, h1, e1.symm, e2.symm⟩
  · rintro ⟨m, hm, r, hr, o, ho, hB, rfl, rfl⟩
    exact mem_edges hm hr ho hB
theorem mem_seeds_iff {B : List Nat} {es : Fil} {q : Nd} : q ∈ seeds B es ↔ ∃ r ∈ es, ∃ o ∈ r.2, o ∈ B ∧ q = (r.1, o) := by
  constructor
  · intro h
    obtain ⟨r, hr, h⟩ := List.mem_flatMap.mp h
    obtain ⟨o, ho, e⟩ := List.mem_map.mp h
    obtain ⟨h1, h2⟩ := List.mem_filter.mp ho
    exact ⟨r, hr, o, of_decide_eq_true h2, h1, e.symm⟩
  · rintro ⟨r, hr, o, ho, hB, rfl⟩
    exact mem_seeds hr ho hB
theorem Rch.mono {E E' : List (Nd × Nd)} {Sd Sd' : List Nd} (h1 : ∀ q, q ∈ Sd → q ∈ Sd') (h2 : ∀ k q, Rch E' Sd' k → (k, q) ∈ E → (k, q) ∈ E') {q : Nd} (h : Rch E Sd q) : Rch E' Sd' q := by
  induction h with
  | base h => exact .base (h1 _ h)
  | step _ e ih => exact .step ih (h2 _ _ ih e)
/-- the boxes of the parts, sorted; the fillings, kept -/
def madeP (pt : Pt) : Pt := ⟨sortN pt.letters, sortN pt.boxes, pt.places, pt.moves.map keptM, pt.ends⟩
theorem FilQ.kept {bs : List Nat} {fl : Fil} (h : FilQ bs fl) : FilQ (sortN bs) (keptF fl) := by
  have on := h.ones
  have hf := kept_flat h.nd on
  refine ⟨kept_nodup h.nd on, ?_, Nat.le_trans hf.1 h.len⟩
  have hk := h.ok
  unfold okFils okKeys at hk ⊢
  rw [Bool.and_eq_true, List.all_eq_true] at hk ⊢
  obtain ⟨f1, f2⟩ := isFill_iff.mp hk.2
  have inc : ∀ c, c ∈ ((keptF fl).map (·.2)).flatten → c ∈ (fl.map (·.2)).flatten := fun c hc => by
    have h1 := hf.2 c
    have h2 := List.count_pos_iff.mpr hc
    exact List.count_pos_iff.mp (by omega)
  refine ⟨fun x hx => ?_, isFill_iff.mpr ⟨nodup_count fun x hx => ?_, fun x hx => ?_⟩⟩
  · obtain ⟨q, hq, rfl⟩ := List.mem_map.mp hx
    obtain ⟨b, hb, e⟩ := List.mem_map.mp (of_decide_eq_true (hk.1 _ (List.mem_map.mpr ⟨q, (kept_mem h.nd on hq).1, rfl⟩)))
    exact decide_eq_true (List.mem_map.mpr ⟨b, mem_sortN.mpr hb, e⟩)
  · obtain ⟨hx1, hx2⟩ := List.mem_filter.mp hx
    have hxo : x ∈ caps (fl.map (·.2)).flatten := List.mem_filter.mpr ⟨inc x hx1, hx2⟩
    have c1 : (caps ((keptF fl).map (·.2)).flatten).count x = (((keptF fl).map (·.2)).flatten).count x := List.count_filter hx2
    have c2 : (caps (fl.map (·.2)).flatten).count x = ((fl.map (·.2)).flatten).count x := List.count_filter hx2
    have c3 := List.nodup_iff_count.mp f1 x
    have c4 := hf.2 x
    omega
  · obtain ⟨hx1, hx2⟩ := List.mem_filter.mp hx
    exact mem_sortN.mpr (f2 x (List.mem_filter.mpr ⟨inc x hx1, hx2⟩))
theorem isFill_sort {f bs : List Nat} (h : isFill f bs = true) : isFill f (sortN bs) = true := by
  obtain ⟨h1, h2⟩ := isFill_iff.mp h
  exact isFill_iff.mpr ⟨h1, fun c hc => mem_sortN.mpr (h2 c hc)⟩
theorem PartsQ.made {pt : Pt} (g : PartsQ pt) : PartsQ (madeP pt) := by
  have hB := g.bo
  unfold okBoxes at hB
  simp only [Bool.and_eq_true, decide_eq_true_eq, List.all_eq_true] at hB
  have hL := g.le
  unfold okLetters at hL
  simp only [Bool.and_eq_true, decide_eq_true_eq, List.all_eq_true] at hL
  refine ⟨?_, ?_, g.pl, ?_, fun m hm => ?_, g.ek, fun q hq => ?_⟩
  · show okLetters (sortN pt.letters) = true
    unfold okLetters
    rw [decide_eq_true (by rw [(sortN_perm _).length_eq]; exact hL.2.1), decide_eq_true (by rw [(sortN_perm _).length_eq]; exact hL.2.2.1), decide_eq_true (sortN_nd hL.2.2.2), List.all_eq_true.mpr fun c hc => hL.1 c (mem_sortN.mp hc)]
    rfl
  · show okBoxes (sortN pt.boxes) = true
    unfold okBoxes
    rw [decide_eq_true (by rw [(sortN_perm _).length_eq]; exact hB.1), decide_eq_true (sortN_nd hB.2.2), List.all_eq_true.mpr fun c hc => hB.2.1 c (mem_sortN.mp hc)]
    rfl
  · show ((pt.moves.map keptM).map fun m => (m.pl, m.lt)).Nodup
    rw [List.map_map]
    exact g.ky
  · obtain ⟨m0, hm0, rfl⟩ := List.mem_map.mp hm
    obtain ⟨a, b, c, fq⟩ := g.mv m0 hm0
    exact ⟨a, mem_sortN.mpr b, c, fq.kept⟩
  · obtain ⟨a, b, c⟩ := g.en q hq
    exact ⟨a, isFill_sort b, c⟩
/-- the edges of the program are those of the parts -/
theorem mem_kept {fl : Fil} (nd : (fl.map (·.1)).Nodup) (h : Ones fl) {q : List Nat × List Nat} : q ∈ keptF fl ↔ q ∈ fl ∧ q.2 ≠ [] := by
  refine ⟨kept_mem nd h, fun ⟨h1, h2⟩ => ?_⟩
  rw [keptF_eq]
  exact List.mem_filter.mpr ⟨(allF_perm nd h).mem_iff.mpr h1, decide_eq_true h2⟩
theorem edges_made {pt : Pt} (g : PartsQ pt) {k q : Nd} : (k, q) ∈ edges (sortN pt.boxes) (ordM pt.places (sortN pt.letters) (pt.moves.map keptM)) ↔ (k, q) ∈ edges pt.boxes pt.moves := by
  have gm := g.made
  have hmm : ∀ {m : Mv}, m ∈ ordM pt.places (sortN pt.letters) (pt.moves.map keptM) ↔ m ∈ pt.moves.map keptM := fun {m} => mem_ordM gm.ky fun m hm => ⟨(gm.mv m hm).1, (gm.mv m hm).2.1⟩
  rw [mem_edges_iff, mem_edges_iff]
  constructor
  · rintro ⟨m, hm, r, hr, o, ho, hB, e1, e2⟩
    obtain ⟨m0, hm0, rfl⟩ := List.mem_map.mp (hmm.mp hm)
    obtain ⟨_, _, _, fq⟩ := g.mv m0 hm0
    exact ⟨m0, hm0, r, (kept_mem fq.nd fq.ones hr).1, o, ho, mem_sortN.mp hB, e1, e2⟩
  · rintro ⟨m, hm, r, hr, o, ho, hB, e1, e2⟩
    obtain ⟨_, _, _, fq⟩ := g.mv m hm
    exact ⟨keptM m, hmm.mpr (List.mem_map.mpr ⟨m, hm, rfl⟩), r, (mem_kept fq.nd fq.ones).mpr ⟨hr, fun z => by rw [z] at ho; exact nomatch ho⟩, o, ho, mem_sortN.mpr hB, e1, e2⟩
theorem seeds_made {pt : Pt} (g : PartsQ pt) {q : Nd} : q ∈ seeds (sortN pt.boxes) (ordE pt.places pt.ends) ↔ q ∈ seeds pt.boxes pt.ends := by
  have hee : ∀ {q : List Nat × List Nat}, q ∈ ordE pt.places pt.ends ↔ q ∈ pt.ends := fun {q} => mem_ordE g.ek fun q hq => (g.en q hq).1
  rw [mem_seeds_iff, mem_seeds_iff]
  constructor
  · rintro ⟨r, hr, o, ho, hB, e⟩
    exact ⟨r, hee.mp hr, o, ho, mem_sortN.mp hB, e⟩
  · rintro ⟨r, hr, o, ho, hB, e⟩
    exact ⟨r, hee.mpr hr, o, ho, mem_sortN.mpr hB, e⟩
abbrev R0 (pt : Pt) : Nd → Prop := Rch (edges pt.boxes pt.moves) (seeds pt.boxes pt.ends)
theorem rch_made {pt : Pt} (g : PartsQ pt) {q : Nd} : Rch (edges (sortN pt.boxes) (ordM pt.places (sortN pt.letters) (pt.moves.map keptM))) (seeds (sortN pt.boxes) (ordE pt.places pt.ends)) q ↔ R0 pt q :=
  ⟨Rch.mono (fun _ h => (seeds_made g).mp h) fun _ _ _ h => (edges_made g).mp h, Rch.mono (fun _ h => (seeds_made g).mpr h) fun _ _ _ h => (edges_made g).mpr h⟩
theorem r0_in {pt : Pt} {q : Nd} (h : R0 pt q) : q.2 ∈ pt.boxes := by
  cases h with
  | base h =>
    obtain ⟨_, _, o, _, hB, rfl⟩ := mem_seeds_iff.mp h
    exact hB
  | step _ h =>
    obtain ⟨_, _, _, _, o, _, hB, _, rfl⟩ := mem_edges_iff.mp h
    exact hB
/-- fillings, kept and cleared -/
theorem getF_clr {W : List Nat} {b : Nat} : ∀ {fl : Fil}, getF (clrF W fl) [b] = if b ∈ W then getF fl [b] else getF (clrF W fl) [b]
  | [] => by split <;> rfl
  | q :: r => by
    split
    · rename_i hb
      have ih := getF_clr (W := W) (b := b) (fl := r)
      rw [if_pos hb] at ih
      unfold clrF at ih ⊢
      rw [List.filter_cons, getF_cons]
      by_cases c : q.1 = [b]
      · have : q.1.headD 0 ∈ W := by rw [c]; exact hb
        rw [if_pos (decide_eq_true this), getF_cons, if_pos c, if_pos c]
      · rw [if_neg c]
        split
        · rw [getF_cons, if_neg c]
          exact ih
        · exact ih
    · rfl
theorem kept_clr {fl : Fil} (W : List Nat) : keptF (clrF W fl) = clrF W (keptF fl) := by
  have e1 : (clrF W fl).map (fun q => q.1.headD 0) = (fl.map fun q => q.1.headD 0).filter fun b => decide (b ∈ W) := by
    unfold clrF
    rw [List.filter_map]
    rfl
  unfold keptF
  rw [e1, ← sortN_filter]
  unfold clrF
  have e2 : ((sortN (fl.map fun q => q.1.headD 0)).filter fun b => decide (b ∈ W)).map (fun b => ([b], (getF (fl.filter fun q => decide (q.1.headD 0 ∈ W)) [b]).getD [])) = ((sortN (fl.map fun q => q.1.headD 0)).filter fun b => decide (b ∈ W)).map fun b => ([b], (getF fl [b]).getD []) := List.map_congr_left fun b hb => by
    have hW : b ∈ W := of_decide_eq_true (List.mem_filter.mp hb).2
    have := getF_clr (W := W) (b := b) (fl := fl)
    rw [if_pos hW] at this
    unfold clrF at this
    rw [this]
  rw [e2, List.filter_map, List.filter_map, List.filter_map, List.filter_filter, List.filter_filter]
  congr 1
  refine List.filter_congr fun b _ => ?_
  show (_ && _) = (_ && _)
  rw [Bool.and_comm]
  rfl
theorem kept_clr_kept {fl : Fil} (nd : (fl.map (·.1)).Nodup) (h : Ones fl) (W : List Nat) : keptF (clrF W (keptF fl)) = keptF (clrF W fl) := by
  rw [kept_clr, kept_idem nd h, kept_clr]
end Tb

set_option Elab.async false
set_option linter.all false
set_option maxRecDepth 100000
set_option maxHeartbeats 4000000
namespace Tb
open PySem PySem.Spec PyProof.Rows L2 TL
theorem clrF_cong {W W' : List Nat} (h : ∀ b, b ∈ W ↔ b ∈ W') (fl : Fil) : clrF W fl = clrF W' fl := by
  unfold clrF
  exact List.filter_congr fun q _ => decide_eq_decide.mpr (h _)
theorem mem_dueB {wl : List Nat → List Nat} {pt : Pt} {b : Nat} : b ∈ (clrPt wl pt).boxes ↔ b ∈ pt.boxes ∧ ∃ p ∈ pt.places, b ∈ wl p := by
  show b ∈ pt.boxes.filter _ ↔ _
  rw [List.mem_filter, List.any_map, List.any_eq_true]
  constructor
  · rintro ⟨h, p, hp, e⟩
    exact ⟨h, p, hp, of_decide_eq_true e⟩
  · rintro ⟨h, p, hp, e⟩
    exact ⟨h, p, hp, decide_eq_true e⟩
theorem due_parts {pt : Pt} (g : PartsQ pt) {wl : List Nat → List Nat} (hw : ∀ p ∈ pt.places, ∀ b, b ∈ wl p ↔ R0 pt (p, b)) : PartsQ (clrPt wl pt) := by
  have hB := g.bo
  unfold okBoxes at hB
  simp only [Bool.and_eq_true, decide_eq_true_eq, List.all_eq_true] at hB
  have sB : List.Sublist (clrPt wl pt).boxes pt.boxes := List.filter_sublist
  refine ⟨g.le, ?_, g.pl, ?_, ?_, g.ek, ?_⟩
  · show okBoxes (clrPt wl pt).boxes = true
    unfold okBoxes
    rw [decide_eq_true (Nat.le_trans sB.length_le hB.1), decide_eq_true (sB.nodup hB.2.2), List.all_eq_true.mpr fun c hc => hB.2.1 c (sB.subset hc)]
    rfl
  · show ((pt.moves.map fun m => (⟨m.pl, m.lt, m.to, clrF (wl m.to) m.fl⟩ : Mv)).map fun m => (m.pl, m.lt)).Nodup
    rw [List.map_map]
    exact g.ky
  · intro m' hm'
    obtain ⟨m, hm, rfl⟩ := List.mem_map.mp hm'
    obtain ⟨a, b, c, fq⟩ := g.mv m hm
    refine ⟨a, b, c, ⟨(List.Sublist.map _ List.filter_sublist).nodup fq.nd, ?_, Nat.le_trans (flat_sub List.filter_sublist).length_le fq.len⟩⟩
    have h := fq.ok
    unfold okFils okKeys at h ⊢
    rw [Bool.and_eq_true, List.all_eq_true] at h ⊢
    obtain ⟨hkeys, hfill⟩ := h
    obtain ⟨f1, f2⟩ := isFill_iff.mp hfill
    have hq : ∀ q ∈ clrF (wl m.to) m.fl, q ∈ m.fl ∧ R0 pt (m.to, q.1.headD 0) ∧ ∃ b ∈ pt.boxes, q.1 = [b] := fun q hq => by
      obtain ⟨h1, h2⟩ := List.mem_filter.mp hq
      obtain ⟨b, hb, e⟩ := List.mem_map.mp (of_decide_eq_true (hkeys _ (List.mem_map.mpr ⟨q, h1, rfl⟩)))
      exact ⟨h1, (hw _ c _).mp (of_decide_eq_true h2), b, hb, e.symm⟩
    refine ⟨fun x hx => ?_, isFill_iff.mpr ⟨((flat_sub List.filter_sublist).filter _).nodup f1, fun x hx => ?_⟩⟩
    · obtain ⟨q, hq1, rfl⟩ := List.mem_map.mp hx
      obtain ⟨h1, h2, b, hb, e⟩ := hq q hq1
      rw [e] at h2
      rw [e]
      exact decide_eq_true (List.mem_map.mpr ⟨b, mem_dueB.mpr ⟨hb, m.to, c, (hw _ c _).mpr h2⟩, rfl⟩)
    · obtain ⟨hx1, hx2⟩ := List.mem_filter.mp hx
      obtain ⟨f, hf, hxf⟩ := List.mem_flatten.mp hx1
      obtain ⟨q, hq1, rfl⟩ := List.mem_map.mp hf
      obtain ⟨h1, h2, b, hb, e⟩ := hq q hq1
      have xB : x ∈ pt.boxes := f2 x (caps_of h1 (List.mem_filter.mpr ⟨hxf, hx2⟩))
      exact mem_dueB.mpr ⟨xB, m.pl, a, (hw _ a _).mpr (.step h2 (mem_edges hm h1 hxf xB))⟩
  · intro q hq
    obtain ⟨a, b, c⟩ := g.en q hq
    obtain ⟨f1, f2⟩ := isFill_iff.mp b
    refine ⟨a, isFill_iff.mpr ⟨f1, fun x hx => ?_⟩, c⟩
    have xB := f2 x hx
    exact mem_dueB.mpr ⟨xB, q.1, a, (hw _ a _).mpr (.base (mem_seeds hq (List.mem_filter.mp hx).1 xB))⟩
/-- what cleared makes of what the parts make -/
abbrev clrM (pt : Pt) (fd : List Nd) : List Mv := ((ordM pt.places (sortN pt.letters) (pt.moves.map keptM)).map (clrMv (sortN pt.boxes) fd)).map keptM
theorem want_iff {pt : Pt} {fd : List Nd} (hfd : ∀ q, q ∈ fd ↔ R0 pt q) {p : List Nat} {b : Nat} : b ∈ wantB (sortN pt.boxes) fd p ↔ R0 pt (p, b) := by
  rw [mem_wantB, hfd, mem_sortN]
  exact ⟨fun h => h.2, fun h => ⟨r0_in h, h⟩⟩
theorem clrM_perm {pt : Pt} (g : PartsQ pt) {fd : List Nd} (hfd : ∀ q, q ∈ fd ↔ R0 pt q) {wl : List Nat → List Nat} (hw : ∀ p ∈ pt.places, ∀ b, b ∈ wl p ↔ R0 pt (p, b)) : (clrM pt fd).Perm ((clrPt wl pt).moves.map keptM) := by
  have gm := g.made
  have hP := g.pl
  unfold okPlaces at hP
  simp only [Bool.and_eq_true, decide_eq_true_eq, List.all_eq_true] at hP
  have hL := gm.le
  unfold okLetters at hL
  simp only [Bool.and_eq_true, decide_eq_true_eq, List.all_eq_true] at hL
  have p1 : (ordM pt.places (sortN pt.letters) (pt.moves.map keptM)).Perm (pt.moves.map keptM) := ordM_perm hP.2.2 hL.2.2.2 gm.ky fun m hm => ⟨(gm.mv m hm).1, (gm.mv m hm).2.1⟩
  refine ((p1.map _).map _).trans ?_
  have e : (((pt.moves.map keptM).map (clrMv (sortN pt.boxes) fd)).map keptM) = ((clrPt wl pt).moves.map keptM) := by
    show _ = ((pt.moves.map fun m => (⟨m.pl, m.lt, m.to, clrF (wl m.to) m.fl⟩ : Mv)).map keptM)
    rw [List.map_map, List.map_map, List.map_map]
    refine List.map_congr_left fun m hm => ?_
    obtain ⟨a, b, c, fq⟩ := g.mv m hm
    show (⟨m.pl, m.lt, m.to, keptF (clrF (wantB (sortN pt.boxes) fd m.to) (keptF m.fl))⟩ : Mv) = ⟨m.pl, m.lt, m.to, keptF (clrF (wl m.to) m.fl)⟩
    rw [kept_clr_kept fq.nd fq.ones, clrF_cong fun b => (want_iff hfd).trans (hw _ c b).symm]
  rw [e]
theorem clrB_sort {pt : Pt} (g : PartsQ pt) {fd : List Nd} (hfd : ∀ q, q ∈ fd ↔ R0 pt q) {wl : List Nat → List Nat} (hw : ∀ p ∈ pt.places, ∀ b, b ∈ wl p ↔ R0 pt (p, b)) : sortN (clrB (sortN pt.boxes) pt.places fd) = sortN (clrPt wl pt).boxes := by
  have hB := g.bo
  unfold okBoxes at hB
  simp only [Bool.and_eq_true, decide_eq_true_eq, List.all_eq_true] at hB
  refine sortN_cong ((List.perm_ext_iff_of_nodup (List.filter_sublist.nodup (sortN_nd hB.2.2)) (List.filter_sublist.nodup hB.2.2)).mpr fun b => ?_)
  show b ∈ clrB _ _ _ ↔ b ∈ (clrPt wl pt).boxes
  rw [mem_clrB, mem_dueB, mem_sortN]
  exact ⟨fun ⟨h, p, hp, e⟩ => ⟨h, p, hp, (hw p hp b).mpr ((hfd _).mp e)⟩, fun ⟨h, p, hp, e⟩ => ⟨h, p, hp, (hfd _).mpr ((hw p hp b).mp e)⟩⟩
theorem madeP_due {pt : Pt} (g : PartsQ pt) {fd : List Nd} (hfd : ∀ q, q ∈ fd ↔ R0 pt q) {wl : List Nat → List Nat} (hw : ∀ p ∈ pt.places, ∀ b, b ∈ wl p ↔ R0 pt (p, b)) : ((clrM pt fd).map Mv.key).Nodup ∧ ∀ m ∈ clrM pt fd, (m.fl.map (·.1)).Nodup := by
  have gd := (due_parts g hw).made
  have pm := clrM_perm g hfd hw
  refine ⟨((pm.map Mv.key).nodup_iff).mpr (keyM_nd gd.ky), fun m hm => ?_⟩
  exact ((gd.mv m (pm.mem_iff.mp hm)).2.2.2).nd
theorem prEq_due {C r1 r2 : Addr} {H : Hp} {pt : Pt} (g : PartsQ pt) {fd : List Nd} (hfd : ∀ q, q ∈ fd ↔ R0 pt q) {wl : List Nat → List Nat} (hw : ∀ p ∈ pt.places, ∀ b, b ∈ wl p ↔ R0 pt (p, b))
    (h1 : PrAt C H r1 (sortN (sortN pt.letters)) (sortN (clrB (sortN pt.boxes) pt.places fd)) pt.places (clrM pt fd) (ordE pt.places pt.ends)) (h2 : PrAt C H r2 (sortN pt.letters) (sortN (clrPt wl pt).boxes) pt.places ((clrPt wl pt).moves.map keptM) pt.ends) : PrEq C r1 r2 H := by
  have hP := g.pl
  unfold okPlaces at hP
  simp only [Bool.and_eq_true, decide_eq_true_eq, List.all_eq_true] at hP
  rw [sortN_idem, clrB_sort g hfd hw] at h1
  obtain ⟨k1, k2⟩ := madeP_due g hfd hw
  exact ⟨_, _, _, _, _, _, _, h1, h2, clrM_perm g hfd hw, k1, k2, ordE_perm hP.2.2 g.ek fun q hq => (g.en q hq).1, ordE_nd _ hP.2.2⟩
/-! ### cleared once more -/
theorem prEq_twice {C r1 r2 : Addr} {H : Hp} {pt : Pt} (g : PartsQ pt) {fd fd' fd2 : List Nd} (hfd : ∀ q, q ∈ fd ↔ R0 pt q) (hfd' : ∀ q, q ∈ fd' ↔ R0 pt q)
    (h2 : ∀ q, q ∈ fd2 ↔ Rch (edges (sortN (clrB (sortN pt.boxes) pt.places fd)) (ordM pt.places (sortN (sortN pt.letters)) (clrM pt fd))) (seeds (sortN (clrB (sortN pt.boxes) pt.places fd)) (ordE pt.places (ordE pt.places pt.ends))) q)
    (a1 : PrAt C H r1 (sortN (sortN (sortN pt.letters))) (sortN (clrB (sortN (clrB (sortN pt.boxes) pt.places fd)) pt.places fd2)) pt.places (((ordM pt.places (sortN (sortN pt.letters)) (clrM pt fd)).map (clrMv (sortN (clrB (sortN pt.boxes) pt.places fd)) fd2)).map keptM) (ordE pt.places (ordE pt.places pt.ends)))
    (a2 : PrAt C H r2 (sortN (sortN pt.letters)) (sortN (clrB (sortN pt.boxes) pt.places fd')) pt.places (clrM pt fd') (ordE pt.places pt.ends)) : PrEq C r1 r2 H := by
  have hP := g.pl
  unfold okPlaces at hP
  simp only [Bool.and_eq_true, decide_eq_true_eq, List.all_eq_true] at hP
  have hL := g.le
  unfold okLetters at hL
  simp only [Bool.and_eq_true, decide_eq_true_eq, List.all_eq_true] at hL
  have hB := g.bo
  unfold okBoxes at hB
  simp only [Bool.and_eq_true, decide_eq_true_eq, List.all_eq_true] at hB
  rw [sortN_idem, sortN_idem] at a1
  rw [sortN_idem] at a2 h2
  obtain ⟨wl, hwl⟩ : ∃ wl : List Nat → List Nat, wl = wantB (sortN pt.boxes) fd := ⟨_, rfl⟩
  have hw : ∀ p ∈ pt.places, ∀ b, b ∈ wl p ↔ R0 pt (p, b) := fun p _ b => by rw [hwl]; exact want_iff hfd
  have gd := (due_parts g hw).made
  have pm := clrM_perm g hfd hw
  have pm' := clrM_perm g hfd' hw
  obtain ⟨k1, k2⟩ := madeP_due g hfd hw
  have kky : ((clrM pt fd).map fun m => (m.pl, m.lt)).Nodup := ((pm.map fun m => (m.pl, m.lt)).nodup_iff).mpr gd.ky
  have kmv : ∀ m ∈ clrM pt fd, m.pl ∈ pt.places ∧ m.lt ∈ sortN pt.letters := fun m hm => ⟨(gd.mv m (pm.mem_iff.mp hm)).1, (gd.mv m (pm.mem_iff.mp hm)).2.1⟩
  have pO : (ordM pt.places (sortN pt.letters) (clrM pt fd)).Perm (clrM pt fd) := ordM_perm hP.2.2 (sortN_nd hL.2.2.2) kky kmv
  have eB : sortN (clrB (sortN pt.boxes) pt.places fd) = sortN (clrB (sortN pt.boxes) pt.places fd') := (clrB_sort g hfd hw).trans (clrB_sort g hfd' hw).symm
  have mB : ∀ b, b ∈ sortN (clrB (sortN pt.boxes) pt.places fd) ↔ b ∈ pt.boxes ∧ ∃ p ∈ pt.places, R0 pt (p, b) := fun b => by
    rw [mem_sortN, mem_clrB, mem_sortN]
    exact ⟨fun ⟨h, p, hp, e⟩ => ⟨h, p, hp, (hfd _).mp e⟩, fun ⟨h, p, hp, e⟩ => ⟨h, p, hp, (hfd _).mpr e⟩⟩
  have eE : ∀ r, r ∈ ordE pt.places (ordE pt.places pt.ends) ↔ r ∈ pt.ends := fun r => by
    rw [mem_ordE (ordE_nd _ hP.2.2) fun q hq => (g.en q ((mem_ordE g.ek fun q hq => (g.en q hq).1).mp hq)).1]
    exact mem_ordE g.ek fun q hq => (g.en q hq).1
  -- what is reached stays reached
  have key : ∀ q, R0 pt q → q ∈ fd2 := fun q hq => (h2 q).mpr (by
    induction hq with
    | @base q h =>
      obtain ⟨r, hr, o, ho, hBo, rfl⟩ := mem_seeds_iff.mp h
      exact .base (mem_seeds ((eE r).mpr hr) ho ((mB o).mpr ⟨hBo, r.1, (g.en r hr).1, .base h⟩))
    | @step k q hk h ih =>
      obtain ⟨m, hm, r, hr, o, ho, hBo, rfl, rfl⟩ := mem_edges_iff.mp h
      obtain ⟨a, b, c, fq⟩ := g.mv m hm
      have hmd : (keptM (⟨m.pl, m.lt, m.to, clrF (wl m.to) m.fl⟩ : Mv)) ∈ (clrPt wl pt).moves.map keptM := List.mem_map.mpr ⟨_, List.mem_map.mpr ⟨m, hm, rfl⟩, rfl⟩
      have hmc := pO.mem_iff.mpr (pm.mem_iff.mpr hmd)
      have hrc : r ∈ clrF (wl m.to) m.fl := List.mem_filter.mpr ⟨hr, decide_eq_true ((hw _ c _).mpr hk)⟩
      have ndc : ((clrF (wl m.to) m.fl).map (·.1)).Nodup := (List.Sublist.map _ List.filter_sublist).nodup fq.nd
      have onc : Ones (clrF (wl m.to) m.fl) := fun q hq => fq.ones q (List.mem_filter.mp hq).1
      have hrk : r ∈ keptF (clrF (wl m.to) m.fl) := (mem_kept ndc onc).mpr ⟨hrc, fun z => by rw [z] at ho; exact nomatch ho⟩
      exact .step ih (mem_edges_iff.mpr ⟨_, hmc, r, hrk, o, ho, (mB o).mpr ⟨hBo, m.pl, a, .step hk h⟩, rfl, rfl⟩))
  -- nothing more goes
  have same : ((ordM pt.places (sortN pt.letters) (clrM pt fd)).map (clrMv (sortN (clrB (sortN pt.boxes) pt.places fd)) fd2)).map keptM = ordM pt.places (sortN pt.letters) (clrM pt fd) := by
    rw [List.map_map]
    refine (List.map_congr_left fun m' hm' => ?_).trans (List.map_id _)
    obtain ⟨m0, hm0, rfl⟩ := List.mem_map.mp (pm.mem_iff.mp (pO.mem_iff.mp hm'))
    obtain ⟨m, hm, rfl⟩ := List.mem_map.mp hm0
    obtain ⟨a, b, c, fq⟩ := g.mv m hm
    have ndc : ((clrF (wl m.to) m.fl).map (·.1)).Nodup := (List.Sublist.map _ List.filter_sublist).nodup fq.nd
    have onc : Ones (clrF (wl m.to) m.fl) := fun q hq => fq.ones q (List.mem_filter.mp hq).1
    show (⟨m.pl, m.lt, m.to, keptF (clrF (wantB (sortN (clrB (sortN pt.boxes) pt.places fd)) fd2 m.to) (keptF (clrF (wl m.to) m.fl)))⟩ : Mv) = ⟨m.pl, m.lt, m.to, keptF (clrF (wl m.to) m.fl)⟩
    have e1 : clrF (wantB (sortN (clrB (sortN pt.boxes) pt.places fd)) fd2 m.to) (keptF (clrF (wl m.to) m.fl)) = keptF (clrF (wl m.to) m.fl) := by
      unfold clrF
      refine List.filter_eq_self.mpr fun q hq => decide_eq_true ?_
      have hq2 := (List.mem_filter.mp (kept_mem ndc onc hq).1).2
      have hr0 := (hw _ c _).mp (of_decide_eq_true hq2)
      exact mem_wantB.mpr ⟨(mB _).mpr ⟨r0_in hr0, m.to, c, hr0⟩, key _ hr0⟩
    rw [e1, kept_idem ndc onc]
  have eB2 : sortN (clrB (sortN (clrB (sortN pt.boxes) pt.places fd)) pt.places fd2) = sortN (clrB (sortN pt.boxes) pt.places fd) := by
    have nd1 : (sortN (clrB (sortN pt.boxes) pt.places fd)).Nodup := sortN_nd (List.filter_sublist.nodup (sortN_nd hB.2.2))
    rw [← sortN_idem (clrB (sortN pt.boxes) pt.places fd)]
    refine sortN_cong ?_
    rw [sortN_idem]
    refine (List.perm_ext_iff_of_nodup (List.filter_sublist.nodup nd1) nd1).mpr fun b => ?_
    refine ⟨fun h => (List.mem_filter.mp h).1, fun h => ?_⟩
    obtain ⟨h1, p, hp, hr⟩ := (mB b).mp h
    exact mem_clrB.mpr ⟨h, p, hp, key _ hr⟩
  rw [same, eB2, eB] at a1
  refine ⟨_, _, _, _, _, _, _, a1, a2, pO.trans (pm.trans pm'.symm), ((pO.map Mv.key).nodup_iff).mpr k1, fun m hm => k2 m (pO.mem_iff.mp hm), ?_, ordE_nd _ hP.2.2⟩
  exact ordE_perm hP.2.2 (ordE_nd _ hP.2.2) fun q hq => (g.en q ((mem_ordE g.ek fun q hq => (g.en q hq).1).mp hq)).1
end Tb

set_option Elab.async false
set_option linter.all false
set_option maxRecDepth 100000
set_option maxHeartbeats 4000000
namespace Tb
open PySem PySem.Spec PyProof.Rows L2 TL
/-! ### the cleared parts tell what the parts tell -/
def envM (B : List Nat) (e : Nat → List Nat) : Env := B.map fun b => (b, e b)
theorem getE_envM {B : List Nat} {e : Nat → List Nat} {x : List Nat} : getE (envM B e) x = match x with | [c] => if c ∈ B then some (e c) else none | _ => none := by
  unfold envM getE
  induction B with
  | nil =>
    rcases x with _ | ⟨c, _ | ⟨d, r⟩⟩ <;> rfl
  | cons b r ih =>
    rw [List.map_cons, List.find?_cons]
    by_cases c : [b] = x
    · subst c
      rw [decide_eq_true rfl]
      show some (e b) = if b ∈ b :: r then some (e b) else none
      rw [if_pos List.mem_cons_self]
    · rw [decide_eq_false c]
      dsimp only
      rw [ih]
      rcases x with _ | ⟨d, _ | ⟨d', r'⟩⟩
      · rfl
      · show (if d ∈ r then some (e d) else none) = if d ∈ b :: r then some (e d) else none
        have hd : d ≠ b := fun z => c (by rw [z])
        by_cases h : d ∈ r
        · rw [if_pos h, if_pos (List.mem_cons_of_mem _ h)]
        · rw [if_neg h, if_neg fun z => (List.mem_cons.mp z).elim hd h]
      · rfl
theorem fillE_agree {B B' : List Nat} {e e' : Nat → List Nat} (sub : ∀ b, b ∈ B' → b ∈ B) {f : List Nat} (h : ∀ c ∈ f, c ∈ B → c ∈ B' ∧ e c = e' c) : fillE (envM B e) (partsOf f) = fillE (envM B' e') (partsOf f) := by
  unfold fillE
  congr 1
  refine List.map_congr_left fun x hx => ?_
  unfold pieceE
  congr 1
  rw [getE_envM, getE_envM]
  rcases x with _ | ⟨c, _ | ⟨d, r⟩⟩
  · rfl
  · show (if c ∈ B then some (e c) else none) = if c ∈ B' then some (e' c) else none
    have hc : c ∈ f := by
      rw [← parts_flat f]
      exact List.mem_flatten.mpr ⟨[c], hx, List.mem_singleton.mpr rfl⟩
    by_cases hB : c ∈ B
    · obtain ⟨h1, h2⟩ := h c hc hB
      rw [if_pos hB, if_pos h1, h2]
    · rw [if_neg hB, if_neg fun z => hB (sub c z)]
  · rfl
theorem fil_clr {W : List Nat} {fl : Fil} {b : Nat} (hb : b ∈ W) : fil (clrF W fl) b = fil fl b := by
  unfold fil
  have := getF_clr (W := W) (b := b) (fl := fl)
  rw [if_pos hb] at this
  rw [this]
theorem fil_clr_sub (W : List Nat) (fl : Fil) (b : Nat) : (fil (clrF W fl) b).Sublist (fil fl b) := by
  by_cases hb : b ∈ W
  · rw [fil_clr hb]
    exact List.Sublist.refl _
  · have : getF (clrF W fl) [b] = none := by
      refine getF_none fun z => ?_
      obtain ⟨q, hq, e⟩ := List.mem_map.mp z
      have := of_decide_eq_true (List.mem_filter.mp hq).2
      rw [e] at this
      exact hb this
    unfold fil
    rw [this]
    exact List.nil_sublist _
section
variable {pt : Pt} {wl : List Nat → List Nat}
abbrev duB (wl : List Nat → List Nat) (pt : Pt) : List Nat := sortN (clrPt wl pt).boxes
theorem findM_due (c : List Nat) (a : Nat) : findM (clrPt wl pt).moves c a = (findM pt.moves c a).map fun m => ⟨m.pl, m.lt, m.to, clrF (wl m.to) m.fl⟩ := by
  show findM (pt.moves.map _) c a = _
  unfold findM
  rw [List.find?_map]
  rfl
theorem duB_mem {b : Nat} (hw : ∀ p ∈ pt.places, ∀ b, b ∈ wl p ↔ R0 pt (p, b)) : b ∈ duB wl pt ↔ b ∈ pt.boxes ∧ ∃ p ∈ pt.places, R0 pt (p, b) := by
  unfold duB
  rw [mem_sortN, mem_dueB]
  exact ⟨fun ⟨h, p, hp, e⟩ => ⟨h, p, hp, (hw p hp b).mp e⟩, fun ⟨h, p, hp, e⟩ => ⟨h, p, hp, (hw p hp b).mpr e⟩⟩
theorem fil_mem {fl : Fil} {b o : Nat} (ho : o ∈ fil fl b) : ∃ f, ([b], f) ∈ fl ∧ o ∈ f := by
  unfold fil at ho
  cases h : getF fl [b] with
  | none => rw [h] at ho; exact nomatch ho
  | some f => rw [h] at ho; exact ⟨f, getF_in h, ho⟩
theorem run_due (g : PartsQ pt) (hw : ∀ p ∈ pt.places, ∀ b, b ∈ wl p ↔ R0 pt (p, b)) : ∀ (t : List Nat) (p : List Nat) (e e' : Nat → List Nat), p ∈ pt.places → (∀ b, R0 pt (p, b) → e b = e' b) →
    (runE pt.moves (sortN pt.boxes) (p, envM (sortN pt.boxes) e) t = none ∧ runE (clrPt wl pt).moves (duB wl pt) (p, envM (duB wl pt) e') t = none) ∨
    ∃ p1 e1 e1', p1 ∈ pt.places ∧ (∀ b, R0 pt (p1, b) → e1 b = e1' b) ∧ runE pt.moves (sortN pt.boxes) (p, envM (sortN pt.boxes) e) t = some (p1, envM (sortN pt.boxes) e1) ∧ runE (clrPt wl pt).moves (duB wl pt) (p, envM (duB wl pt) e') t = some (p1, envM (duB wl pt) e1')
  | [], p, e, e', hp, h => .inr ⟨p, e, e', hp, h, rfl, rfl⟩
  | a :: t, p, e, e', hp, h => by
    show (((stepE pt.moves (sortN pt.boxes) (p, envM (sortN pt.boxes) e) a).bind fun s' => runE pt.moves (sortN pt.boxes) s' t) = none ∧ ((stepE (clrPt wl pt).moves (duB wl pt) (p, envM (duB wl pt) e') a).bind fun s' => runE (clrPt wl pt).moves (duB wl pt) s' t) = none) ∨ ∃ p1 e1 e1', p1 ∈ pt.places ∧ (∀ b, R0 pt (p1, b) → e1 b = e1' b) ∧ ((stepE pt.moves (sortN pt.boxes) (p, envM (sortN pt.boxes) e) a).bind fun s' => runE pt.moves (sortN pt.boxes) s' t) = some (p1, envM (sortN pt.boxes) e1) ∧ ((stepE (clrPt wl pt).moves (duB wl pt) (p, envM (duB wl pt) e') a).bind fun s' => runE (clrPt wl pt).moves (duB wl pt) s' t) = some (p1, envM (duB wl pt) e1')
    unfold stepE
    rw [findM_due]
    cases hf : findM pt.moves p a with
    | none => exact .inl ⟨rfl, rfl⟩
    | some m =>
      obtain ⟨hm, hpl, _⟩ := findM_key hf
      obtain ⟨k1, k2, k3, fq⟩ := g.mv m hm
      refine run_due g hw t m.to (fun b => fillE (envM (sortN pt.boxes) e) (partsOf (fil m.fl b))) (fun b => fillE (envM (duB wl pt) e') (partsOf (fil (clrF (wl m.to) m.fl) b))) k3 fun b hb => ?_
      show fillE _ (partsOf (fil m.fl b)) = fillE _ (partsOf (fil (clrF (wl m.to) m.fl) b))
      rw [fil_clr ((hw _ k3 b).mpr hb)]
      refine fillE_agree (fun b' h' => mem_sortN.mpr ((duB_mem hw).mp h').1) fun c hc hB => ?_
      obtain ⟨f, hq, hcf⟩ := fil_mem hc
      have hr : R0 pt (m.pl, c) := .step hb (mem_edges (q := ([b], f)) hm hq hcf (mem_sortN.mp hB))
      exact ⟨(duB_mem hw).mpr ⟨mem_sortN.mp hB, m.pl, k1, hr⟩, h c (by rw [← hpl]; exact hr)⟩
theorem told_due (g : PartsQ pt) (hw : ∀ p ∈ pt.places, ∀ b, b ∈ wl p ↔ R0 pt (p, b)) {pl0 : List Nat} (hp : pl0 ∈ pt.places) (t : List Nat) : toldE (clrPt wl pt).moves (sortN (clrPt wl pt).boxes) (clrPt wl pt).ends pl0 t = toldE pt.moves (sortN pt.boxes) pt.ends pl0 t := by
  unfold toldE
  show (runE (clrPt wl pt).moves (duB wl pt) (pl0, envM (duB wl pt) fun _ => []) t).bind _ = (runE pt.moves (sortN pt.boxes) (pl0, envM (sortN pt.boxes) fun _ => []) t).bind _
  rcases run_due g hw t pl0 (fun _ => []) (fun _ => []) hp (fun _ _ => rfl) with ⟨h1, h2⟩ | ⟨p1, e1, e1', hp1, hag, h1, h2⟩
  · rw [h1, h2]
    rfl
  · rw [h1, h2]
    show (getF pt.ends p1).map _ = (getF pt.ends p1).map _
    cases hf : getF pt.ends p1 with
    | none => rfl
    | some f =>
      show some _ = some _
      congr 1
      symm
      refine fillE_agree (fun b' h' => mem_sortN.mpr ((duB_mem hw).mp h').1) fun c hc hB => ?_
      have hr : R0 pt (p1, c) := .base (mem_seeds (q := (p1, f)) (getF_in hf) hc (mem_sortN.mp hB))
      exact ⟨(duB_mem hw).mpr ⟨mem_sortN.mp hB, p1, hp1, hr⟩, hag c hr⟩
theorem flat_subf {f f' : Nat → List Nat} (h : ∀ b, (f' b).Sublist (f b)) : ∀ l : List Nat, ((l.map f').flatten).Sublist ((l.map f).flatten)
  | [] => List.Sublist.refl _
  | b :: r => by
    rw [List.map_cons, List.flatten_cons, List.map_cons, List.flatten_cons]
    exact (h b).append (flat_subf h r)
theorem duB_sub : List.Sublist (duB wl pt) (sortN pt.boxes) := by
  show List.Sublist (sortN (pt.boxes.filter _)) _
  rw [← sortN_filter]
  exact List.filter_sublist
theorem due_good (hg : ∀ m ∈ pt.moves, MvGood (sortN pt.boxes) m) : ∀ m ∈ (clrPt wl pt).moves, MvGood (sortN (clrPt wl pt).boxes) m := fun m' hm' => by
  obtain ⟨m, hm, rfl⟩ := List.mem_map.mp hm'
  have s : (((duB wl pt).map (fil (clrF (wl m.to) m.fl))).flatten).Sublist (((sortN pt.boxes).map (fil m.fl)).flatten) := (flat_subf (fun b => fil_clr_sub (wl m.to) m.fl b) _).trans (flat_sub (f := fil m.fl) duB_sub)
  exact ⟨fun x hx => Nat.le_trans (s.count_le _) ((hg m hm).one x (duB_sub.subset hx)), Nat.le_trans s.length_le (hg m hm).len⟩
end
end Tb

set_option Elab.async false
set_option linter.all false
set_option maxRecDepth 100000
set_option maxHeartbeats 4000000
namespace Tb
open PySem PySem.Spec PyProof.Rows L2 TL
/-! ### {t: v}, t a tuple -/
section
variable {X : Cx}
def tDsT (tk tv : TE) : TE := fun σ H Q => ∀ p, H p = none → tk σ (upd H p (.dT [])) fun x H1 => tv σ H1 fun y H2 => ∃ k kt, x = .ref kt ∧ H2 kt = some (.tup (k.map kV)) ∧ H2 p = some (.dT []) ∧ Q (.ref p) (upd H2 p (.dT (putK [] k y)))
theorem pe_dsT {k v : Expr} {tk tv : TE} {pos : Pos} (hu : X.A.units < cLine) (hk : PE X k tk) (hv : PE X v tv) : PE X (.Dict [some k] [v] pos) (tDsT tk tv) := by
  refine ⟨fun pins s σ H Q I q => ?_⟩
  have hn := I.hok.fresh (Nat.le_refl s.heap.objs.size)
  have I1 := I.laid (a := s.heap.objs.size) (o := .dT []) (h' := s.heap.push { cls := .type "dict", data := .dict #[] }) (t' := s.toks) (fun _ _ q => Heap.get?_push_of_some _ q) (Nat.le_refl _) (dt_empty s.heap I.big)
  refine wpAny_Dict_any rfl rfl (by simp) (by show 1 ≤ 15; decide) ?_
  refine pairTrees_cons_walk (thn (hk.run pins _ σ _ _ I1 (q _ hn)) fun u s1 ⟨x, H1, I1, rx, q1⟩ => thn (hv.run pins s1 σ H1 _ I1 q1) fun w2 s2 ⟨y, H2, I2, ry, kk, kt, ex, hkt, hp, q2⟩ => pairTrees_nil_walk ?_)
  subst ex
  obtain rfl : u = Value.ref kt := rx
  unfold storeAll
  rw [List.forIn_cons]
  refine wpAny_bind (wpAny_bind (more_T hu I2 hp hkt (by show 0 < sizeLine; decide) ry fun s3 I3 => wpAny_pure ?_))
  dsimp only
  rw [List.forIn_nil]
  exact wpAny_pure ⟨.ref s.heap.objs.size, _, I3, rfl, q2⟩
end
/-! ### d != e, two dicts that are equal -/
end Tb
namespace PySem.W
open PySem PySem.Calls PyProof.Rows PyProof.V PySem.Spec
section
variable {prog : Program} {w : World} {K : Type} [DecidableEq K] {knd : KeyKind prog w K} {A : Around} {s : Shared}
theorem rcNe_dicts {a b : Addr} {ka kb : List (K × Value)} {r : Bool} (ha : (a == sysModules) = false) (hb : (b == sysModules) = false)
    (da : s.heap.DictOf knd a ka) (db : s.heap.DictOf knd b kb) (hu : A.units < cLine) (hits : ka.length = kb.length → KeqHitsP prog w A.in1 s kb ka r) (E Q : Value → Shared → Prop) (h : Q (.bool (!(ka.length == kb.length && r))) s) : wpAny (model prog w) A (richCompare .NotEq (.ref a) (.ref b)) Q E s := by
  refine wpAny_richCompare_same_room (op := .NotEq) da.typeIs db.typeIs PySem.F.slot_dict_ne (wpAny_call_entry PySem.F.slot_dict_ne da.typeIs PySem.F.entry_dict_ne ?_ (PySem.F.args_dict_ne_2 _ _)) hu
  show wpAny _ _ (Builtin.Dict.dictSlotArgs "__ne__" ⟨[.ref a, .ref b], []⟩ >>= _) _ _ s
  refine wpAny_bind ?_
  unfold Builtin.Dict.dictSlotArgs
  refine wpAny_bind (wpAny_notOrdered_dict da.typeIs ?_)
  show wpAny _ _ (pure (Value.ref a, Value.ref b)) _ _ s
  refine wpAny_pure ?_
  refine wpAny_bind (wpAny_isInstance (T := "dict") db.typeIs PySem.F.sub_dict_dict ?_)
  simp only [Bool.not_true, Bool.false_eq_true, if_false]
  refine wpAny_bind (wpAny_pure (wpAny_bind (wpAny_pure ?_)))
  refine wpAny_bind (samePairsP ha hb da db hits ?_)
  refine wpAny_pure ⟨_, rfl, ?_, ?_⟩
  · exact fun x => nomatch x
  · simpa using h
end
end PySem.W
namespace Tb
open PySem PySem.Spec PyProof.Rows L2 TL
section
variable {X : Cx}
def rNeD (K : PySem.W.Frag) : R2 := fun x y H Q => ∃ a b ks ls n, x = .ref a ∧ y = .ref b ∧ H a = some (.dK ks) ∧ H b = some (.dK ls) ∧ n ≤ 60 ∧ ks.length = ls.length ∧ (∀ p ∈ ks, ∃ y, valV ls p.1 = some y ∧ EqV K H n p.2 y) ∧ Q (.bl false) H
theorem op_neD (hu : X.A.units + 64 < cLine) : OpR X (compareOp .NotEq) (rNeD X.K) := by
  intro pins s σ H x y v u Q I rx ry h
  obtain ⟨a, b, ks, ls, n, rfl, rfl, ha, hb, hn, hl, hp, q⟩ := h
  cases (show v = Value.ref a from rx)
  cases (show u = Value.ref b from ry)
  obtain ⟨_, ya, va, ra, da⟩ := (show ObjOk X.prog X.w H s.heap a (.dK ks) from I.hok a _ ha)
  obtain ⟨_, yb, vb, rb, db⟩ := (show ObjOk X.prog X.w H s.heap b (.dK ls) from I.hok b _ hb)
  refine PySem.W.rcNe_dicts (knd := mixKind X.prog X.w) (r := true) ya yb da db (by omega) (fun _ => hits_run (eqV_run I n X.A.in1 (by show X.A.units + 1 + n < cLine; omega)) rb ra hp) _ _ ?_
  have e : va.length = vb.length := by rw [← ra.length, ← rb.length]; exact hl
  rw [show (!(va.length == vb.length && true)) = false from by rw [e]; simp]
  exact ⟨.bl false, H, I, rfl, q⟩
end
end Tb

set_option Elab.async false
set_option linter.all false
set_option maxRecDepth 100000
set_option maxHeartbeats 4000000
namespace Tb
open PySem PySem.Spec PyProof.Rows L2 TL
theorem fil_subl (fl : Fil) (b : Nat) : (fil fl b).Sublist (fl.map (·.2)).flatten := by
  unfold fil
  cases h : getF fl [b] with
  | none => exact List.nil_sublist _
  | some f => exact List.sublist_flatten_of_mem (List.mem_map.mpr ⟨_, getF_in h, rfl⟩)
theorem GoodP.ndk {pt : Pt} (g : GoodP pt) {m : Mv} (hm : m ∈ pt.moves) : (m.fl.map (·.1)).Nodup := ((g.parts.mv m hm).2.2.2).nd
theorem GoodP.need {pt : Pt} (g : GoodP pt) : NeedOk pt where
  b6 := g.b6
  bn := g.bn
  p50 := Nat.le_trans g.p8 (by decide)
  pn := g.pn
  ky := g.ky
  mv := fun m hm => by
    obtain ⟨a, b, c, hk, hF⟩ := g.mv m hm
    exact ⟨a, c, fun b o ho => Nat.le_trans ((fil_subl m.fl b).count_le _) (hF.one o ho), fun b => Nat.le_trans (fil_subl m.fl b).length_le (Nat.le_trans hF.len (by decide))⟩
  ek := g.ek
  en := fun q hq => by
    obtain ⟨a, hF⟩ := g.en q hq
    have h1 := hF.len
    have h2 := hF.one
    rw [show [q.2].flatten = q.2 by simp] at h1 h2
    exact ⟨a, Nat.le_trans h1 (by decide), h2⟩
theorem GoodP.lmv {pt : Pt} (g : GoodP pt) : pt.moves.length ≤ 250 := (PartsQ.few g.parts).2.2.2.2.2.2.1
theorem GoodP.clr {pt : Pt} (g : GoodP pt) : ClrOk pt where
  b6 := g.b6
  p50 := Nat.le_trans g.p8 (by decide)
  m250 := g.lmv
  ky := g.ky
  mv := fun m hm => by
    obtain ⟨a, b, c, fq⟩ := g.parts.mv m hm
    exact ⟨c, fq.ones, fq.nd, Nat.le_trans (fq.six g.b6) (by decide)⟩
/-! ### the chain -/
def onN : List Nat := [111, 110]
def pC : Pt := ⟨[97], [65, 66, 67, 68], [onN], [⟨onN, 97, onN, [([65], [66]), ([66], [67]), ([67], [68])]⟩], [(onN, [65])]⟩
theorem pC_parts : PartsQ pC where
  le := by decide +kernel
  bo := by decide +kernel
  pl := by decide +kernel
  ky := by decide +kernel
  mv := fun m hm => by
    rw [List.mem_singleton.mp hm]
    exact ⟨by decide +kernel, by decide +kernel, by decide +kernel, ⟨by decide +kernel, by decide +kernel, by decide +kernel⟩⟩
  ek := by decide +kernel
  en := fun q hq => by
    rw [List.mem_singleton.mp hq]
    exact ⟨by decide +kernel, by decide +kernel, by decide +kernel⟩
theorem pC_r : ∀ b ∈ pC.boxes, R0 pC (onN, b) := by
  have a : R0 pC (onN, 65) := .base (by decide +kernel)
  have b : R0 pC (onN, 66) := .step a (by decide +kernel)
  have c : R0 pC (onN, 67) := .step b (by decide +kernel)
  have d : R0 pC (onN, 68) := .step c (by decide +kernel)
  intro x hx
  rcases List.mem_cons.mp hx with e | hx
  · rw [e]; exact a
  rcases List.mem_cons.mp hx with e | hx
  · rw [e]; exact b
  rcases List.mem_cons.mp hx with e | hx
  · rw [e]; exact c
  · rw [List.mem_singleton.mp hx]; exact d
theorem pC_sort : sortN pC.boxes = [65, 66, 67, 68] := (sortN_of (List.Perm.refl _) (by decide)).symm
theorem pC_need {fd : List Nd} (hfd : ∀ q, q ∈ fd ↔ R0 pC q) : needD (sortN pC.boxes) pC.places fd = [(onN, [65, 66, 67, 68])] := by
  show [(onN, (sortN pC.boxes).filter fun b => decide ((onN, b) ∈ fd))] = _
  have e : (sortN pC.boxes).filter (fun b => decide ((onN, b) ∈ fd)) = sortN pC.boxes := List.filter_eq_self.mpr fun b hb => decide_eq_true ((hfd _).mpr (pC_r b (mem_sortN.mp hb)))
  rw [e, pC_sort]
theorem pC_clr {wl : List Nat → List Nat} (hw : ∀ p ∈ pC.places, ∀ b, b ∈ wl p ↔ R0 pC (p, b)) : clrPt wl pC = pC := by
  have h := hw onN (List.mem_singleton.mpr rfl)
  have hb : ∀ b ∈ pC.boxes, b ∈ wl onN := fun b hb => (h b).mpr (pC_r b hb)
  have e1 : (clrPt wl pC).boxes = pC.boxes := List.filter_eq_self.mpr fun b hb' => by
    show ([decide (b ∈ wl onN)].any id) = true
    rw [decide_eq_true (hb b hb')]
    rfl
  have e2 : clrF (wl onN) ([([65], [66]), ([66], [67]), ([67], [68])] : Fil) = [([65], [66]), ([66], [67]), ([67], [68])] := by
    unfold clrF
    refine List.filter_eq_self.mpr fun q hq => decide_eq_true (hb _ ?_)
    rcases List.mem_cons.mp hq with e | hq
    · rw [e]; decide
    rcases List.mem_cons.mp hq with e | hq
    · rw [e]; decide
    · rw [List.mem_singleton.mp hq]; decide
  show (⟨pC.letters, (clrPt wl pC).boxes, pC.places, [⟨onN, 97, onN, clrF (wl onN) [([65], [66]), ([66], [67]), ([67], [68])]⟩], pC.ends⟩ : Pt) = pC
  rw [e1, e2]
  rfl
theorem s_a : Str.ofString "a" = S [97] := by decide +kernel
theorem s_ab : Str.ofString "ab" = S [97, 98] := by decide +kernel
theorem s_abc : Str.ofString "abc" = S [97, 98, 99] := by decide +kernel
theorem s_on : Str.ofString "on" = S onN := by decide +kernel
theorem s_ABCD : Str.ofString "ABCD" = S [65, 66, 67, 68] := by decide +kernel
theorem s_A : Str.ofString "A" = S [65] := by decide +kernel
theorem s_B : Str.ofString "B" = S [66] := by decide +kernel
theorem s_C : Str.ofString "C" = S [67] := by decide +kernel
theorem s_D : Str.ofString "D" = S [68] := by decide +kernel
end Tb

set_option Elab.async false
set_option linter.all false
set_option maxRecDepth 100000
set_option maxHeartbeats 2000000
/-! list(d.values()); a != b of two lists of equal plain things -/
namespace Tb
open PySem PySem.Spec PyProof.Rows L2 TL
section
variable {X : Cx}
def rListV : List V → Hp → VK → Prop := fun xs H Q => ∃ p d kvs, xs = [.ref p] ∧ H p = some (valsO p d) ∧ H d = some (.dK kvs) ∧ ∀ q, H q = none → Q (.ref q) (upd H q (.lst (kvs.map Prod.snd)))
theorem call_listV (hc : X.calm = true) : CallR X (.type "list") rListV := by
  intro pins s σ H xs us Q I r h
  obtain ⟨p, d, kvs, e, hp, hk, q⟩ := h
  subst e
  obtain ⟨u, eu, rx⟩ := vals1 r
  subst eu
  obtain rfl : u = Value.ref p := rx
  have hv : s.heap.IsValuesView p d := (show ObjOk X.prog X.w H s.heap p (valsO p d) from I.hok p _ hp).1
  obtain ⟨z, lo, vs, rk, hd⟩ := (show ObjOk X.prog X.w H s.heap d (.dK kvs) from I.hok d _ hk)
  obtain ⟨ep, hat⟩ := hd.dictAt
  have hl : kvs.length = vs.length := Paired.length rk
  refine PySem.W.kdl_call (PySem.W.kdl_values (knd := mixKind X.prog X.w) (kvs := vs) (ep := ep)) (I.ok.hd hc) ⟨hv, hat⟩ (by rw [← hl]; exact z) fun h' tk acc' c' hkeep hS hacc => ?_
  refine ⟨.ref s.heap.objs.size, upd H s.heap.objs.size (.lst (kvs.map Prod.snd)), I.laid hkeep (Nat.le_refl _) (show ObjOk X.prog X.w _ _ _ (.lst (kvs.map Prod.snd)) from ⟨?_, acc'.toList, c', ?_, ?_⟩), rfl, q _ (I.hok.fresh (Nat.le_refl _))⟩
  · rw [List.length_map]; exact z
  · have el : acc'.toList.length = acc'.size := by simp
    refine vals_of_at (by rw [List.length_map, el, hacc.1, hl]) fun j x w h1 h2 => ?_
    obtain ⟨k, hky⟩ := hacc.2 j w (by rw [← Array.getElem?_toList]; exact h2)
    obtain ⟨x', h3, h4⟩ := KV.at' rk hky
    rw [List.getElem?_map, h3] at h1
    cases h1
    exact h4
  · rw [Array.toArray_toList]; exact hS
/-- xs != ys: of equal plain things -/
def rNeSame (K : PySem.W.Frag) : R2 := fun x y H Q => ∃ a b xs, x = .ref a ∧ y = .ref b ∧ SqL K H a xs ∧ SqL K H b xs ∧ xs.all flatB = true ∧ Q (.bl false) H
theorem op_neSame (hu : X.A.units + 1 < cLine) : OpR X (compareOp .NotEq) (rNeSame X.K) := by
  intro pins s σ H x y v u Q I rx ry h
  obtain ⟨a, b, xs, rfl, rfl, ha, hb, hf, q⟩ := h
  cases (show v = Value.ref a from rx)
  cases (show u = Value.ref b from ry)
  obtain ⟨us, r1, p1, _⟩ := I.list ha
  obtain ⟨ws, r2, p2, _⟩ := I.list hb
  have hsz : us.toArray.size = ws.toArray.size := by
    rw [List.size_toArray, List.size_toArray, ← r1.length, ← r2.length]
  refine SeqAt.RcNeAt.lists (A := X.A) (s := s) (e := fun _ => true) p1.isList p2.isList hsz (by omega) (fun j h1 h2 => ?_) X.prog X.w _ _ ⟨.bl false, H, I, ?_, q⟩
  · rw [List.size_toArray] at h1 h2
    have hj : j < xs.length := by rw [r1.length]; exact h1
    obtain ⟨u1, e1, q1⟩ := r1.get (List.getElem?_eq_getElem hj)
    obtain ⟨u2, e2, q2⟩ := r2.get (List.getElem?_eq_getElem hj)
    rw [List.getElem?_eq_getElem h1] at e1
    rw [List.getElem?_eq_getElem h2] at e2
    have z1 := Option.some.inj e1
    have z2 := Option.some.inj e2
    simp only [List.getElem_toArray]
    rw [z1, z2]
    exact eqAt_same q1 q2 (List.all_eq_true.mp hf _ (List.getElem_mem hj))
  · rw [show (List.range us.toArray.size).all (fun _ => true) = true from List.all_eq_true.mpr fun _ _ => rfl]
    rfl
end
end Tb

set_option Elab.async false
set_option linter.all false
set_option maxRecDepth 100000
set_option maxHeartbeats 4000000
namespace Tb
open PySem PySem.Spec PyProof.Rows L2 TL
section
variable {P : Program} {w : World} {K : PySem.W.Frag} {mg : Str → Option Value} {base : Heap}
abbrev nLaw : List Str := ["_law_script", "_law_source_here", "_law_turn", "_law_parts", "_law_made_here", "_law_wanted", "_law_found", "_law_due", "_law_text", "_law_chain"]
theorem scLaw : FnScope nLaw ["_law_script"] (defScope sLaw) := ⟨rfl, rfl, rfl, by decide +kernel, rfl, by decide +kernel, by decide +kernel⟩
def spLaw (K : PySem.W.Frag) : Sp := fun vs H Q _ => ∃ (a : Addr) (ns : List Int), vs = [.ref a] ∧ SqL K H a (ns.map V.int) ∧ ns.length ≤ 63 ∧ ∀ H', Q (.bl true) H'
theorem ok_law {f C : Addr} {fd : FuncData} (F : Fun K "law" "law" sLaw f fd) (DSrc : Df P w K mg base 1 "_law_source" ["_law_script"] (spSource K)) (DPk : Df P w K mg base 2 "_law_pick" ["_law_source_here", "_law_things"] (spPick K))
    (DPg : Df P w K mg base 5 "_law_program" ["_law_source_here", "_law_letters", "_law_most_boxes", "_law_most_places"] spProgram) (DMd : Df P w K mg base 7 "_law_made" ["_law_parts"] (spMade C)) (DLN : Df P w K mg base 1 "_law_needed" ["_law_parts"] spLNeed)
    (DN : Df P w K mg base 5 "needed" ["program"] (spNeeded C)) (DLC : Df P w K mg base 1 "_law_cleared" ["_law_parts", "_law_wanted"] spLClr) (DC : Df P w K mg base 7 "cleared" ["program"] (spCleared C)) (DLA : Df P w K mg base 1 "_law_all_texts" ["_law_letters", "_law_most"] spLAll)
    (DLT : Df P w K mg base 3 "_law_told" ["_law_parts", "_law_text"] spLTold) (MK : Mkr P w K mg base C 5) (ME : EqM P w K mg base C 1 (PrEq C)) (hne : PySem.W.findIn K (.ref C) "__ne__" = some (some (.builtin "object.__ne__"))) (hob : PySem.W.mroIn K C (.type "object") = some true)
    (T : PrTxt K mg C) (mL : mg "list" = none) (mr : mg "range" = none) : FnOk P w K mg base CX0 9 f fd ["_law_script"] (spLaw K) := by
  refine F.ok (k := 8) scLaw (fun vs H Q E h => ?_) (fun cdv A outer s H vs Q E hr h => ?_)
  · obtain ⟨a, ns, rfl, _⟩ := h
    rfl
  · obtain ⟨a, ns, rfl, hS, hn, q⟩ := h
    have hu := hu_of hr
    have hu0 := Nat.lt_of_succ_lt hu
    have hu64 := hr.units
    refine ⟨_, pss_cons (ps_set (i := 1) scLaw.nd rfl (.inl rfl) (pe_df DSrc hr (pa_cons (pv 0) pa_nil)))
      (pss_cons (ps_for PassesOwn.never rfl (pi_range1 rfl mr (pa_cons pe_int pa_nil)) (pg_name (i := 2) scLaw.nd rfl (.inl rfl))
        (pss_cons (ps_set (i := 3) scLaw.nd rfl (.inl rfl) (pe_df DPg hr (pa_cons (pv 1) (pa_cons (pe_df DPk hr (pa_cons (pv 1) (pa_cons (pe_lstS (pa_cons pe_str (pa_cons pe_str (pa_cons pe_str pa_nil)))) pa_nil))) (pa_cons pe_int (pa_cons pe_int pa_nil))))))
        (pss_cons (ps_par (i := 4) (j := 5) (by rfl) scLaw.nd rfl rfl (by decide) rfl rfl (pa_cons (pe_df DMd hr (pa_cons (pv 3) pa_nil)) (pa_cons (pe_df DLN hr (pa_cons (pv 3) pa_nil)) pa_nil)) (by rfl))
        (pss_cons (ps_set (i := 6) scLaw.nd rfl (.inl rfl) (pe_df DN hr (pa_cons (pv 4) pa_nil)))
        (pss_cons (ps_if (PW.pt (pw_or (pt_cmpR (op_neD hu64) (pv 6) (pv 5) (nomark _)) (pw_or1 (pt_cmpR (op_neSame hu) (pe_callTy (call_list_dK rfl) (by rfl) mL (by decide +kernel) (pa_cons (pv 6) pa_nil)) (pe_callTy call_list_of (by rfl) mL (by decide +kernel) (pa_cons (pe_ix ix_list (pv 3) pe_int (fun _ _ => rfl)) pa_nil)) (nomark _))))) (pss_one (ps_ret pe_bl)) pss_nil)
        (pss_cons (ps_set (i := 7) scLaw.nd rfl (.inl rfl) (pe_df DLC hr (pa_cons (pv 3) (pa_cons (pv 5) pa_nil))))
        (pss_cons (ps_if (PW.pt (pw_or (pt_cmpR (op_neM ME hr (by omega) hne hob) (pe_df DC hr (pa_cons (pv 4) pa_nil)) (pe_df DMd hr (pa_cons (pv 7) pa_nil)) (nomark _)) (pw_or1 (pt_cmpR (op_neM ME hr (by omega) hne hob) (pe_df DC hr (pa_cons (pe_df DC hr (pa_cons (pv 4) pa_nil)) pa_nil)) (pe_df DC hr (pa_cons (pv 4) pa_nil)) (nomark _))))) (pss_one (ps_ret pe_bl)) pss_nil)
        (pss_one (ps_for PassesOwn.never rfl (pi_list (pe_df DLA hr (pa_cons (pe_ix ix_list (pv 3) pe_int (fun _ _ => rfl)) (pa_cons pe_int pa_nil)))) (pg_name (i := 8) scLaw.nd rfl (.inl rfl))
          (pss_one (ps_if (pt_cmpR op_ne (pe_df DLT hr (pa_cons (pv 7) (pa_cons (pv 8) pa_nil))) (pe_df DLT hr (pa_cons (pv 3) (pa_cons (pv 8) pa_nil))) (nomark _)) (pss_one (ps_ret pe_bl)) pss_nil)))))))))))
      (pss_cons (ps_set (i := 9) scLaw.nd rfl (.inl rfl) (pe_prog MK hr T.mgC (pa_cons pe_str (pa_cons pe_str (pa_cons (pe_lstS (pa_cons pe_str pa_nil)) (pa_cons (pe_dsT hu0 (pe_tupS (pa_cons pe_str (pa_cons pe_str pa_nil))) (pe_tupS (pa_cons pe_str (pa_cons (pe_disp (pps_cons pe_str pe_str (pps_cons pe_str pe_str (pps_cons pe_str pe_str pps_nil))) rfl rfl (by simp) (by show 3 ≤ 15; decide)) pa_nil)))) (pa_cons (pe_disp (pps_cons pe_str pe_str pps_nil) rfl rfl (by simp) (by show 1 ≤ 15; decide)) pa_nil)))))))
      (pss_one (ps_ret (pe_and (pe_cmpR (op_eqV hu64) (pe_df DN hr (pa_cons (pv 9) pa_nil)) (pe_disp (pps_cons pe_str pe_str pps_nil) rfl rfl (by simp) (by show 1 ≤ 15; decide)) (nomark _)) (pe_one (pe_cmpR (op_eqM ME hr (by omega)) (pe_df DC hr (pa_cons (pv 9) pa_nil)) (pv 9) (nomark _)))))))), ?_⟩
    -- source
    refine ⟨_, rfl, a, ns, rfl, hS, fun p o H1 s1 n1 e1 ho1 => ?_⟩
    have hs1 : Src H1 p 0 := ⟨o, e1, ho1⟩
    refine ⟨3, rfl, by omega, by omega, for_range (lo := 0) (n := 3) (fun i σ H' => ∃ v2 v3 v4 v5 v6 v7 v8, σ = [some (.ref a), some (.ref p), v2, v3, v4, v5, v6, v7, v8, none] ∧ Src H' p (i * 6001)) ⟨none, none, none, none, none, none, none, rfl, hs1⟩ ?_ ?_⟩
    · rintro i σ H2 hi ⟨v2, v3, v4, v5, v6, v7, v8, rfl, hs2⟩
      -- the parts
      refine ⟨_, rfl, _, rfl, by show 3 ≤ sizeLine; decide, fun t H3 s3 n3 e3 => ?_⟩
      have hs3 := hs2.same s3
      have ntp : t ≠ p := ne_src hs2 n3
      refine ⟨p, i * 6001, hs3, by omega, .inl ⟨t, _, rfl, SqL.of e3, ntp, by decide, by decide, fun x H4 hx hb4 hs4 => ?_⟩⟩
      obtain ⟨Lt, ex, hLt⟩ : ∃ Lt : List Nat, x = .str (S Lt) ∧ (Lt = [97] ∨ Lt = [97, 98] ∨ Lt = [97, 98, 99]) := by
        rcases List.mem_cons.mp hx with e | hx
        · exact ⟨_, by rw [e, s_a], .inl rfl⟩
        rcases List.mem_cons.mp hx with e | hx
        · exact ⟨_, by rw [e, s_ab], .inr (.inl rfl)⟩
        · exact ⟨_, by rw [List.mem_singleton.mp hx, s_abc], .inr (.inr rfl)⟩
      subst ex
      obtain ⟨l1, l5, ln, ll⟩ : 1 ≤ Lt.length ∧ Lt.length ≤ 5 ∧ Lt.Nodup ∧ ∀ c ∈ Lt, 97 ≤ c ∧ c ≤ 122 := by
        rcases hLt with rfl | rfl | rfl <;> exact ⟨by decide, by decide, by decide, by decide⟩
      refine ⟨p, i * 6001 + 1, 4, 4, Lt, rfl, hs4, by omega, l1, l5, ln, ll, by decide, by decide, by decide, fun L H5 pt hb5 hs5 nL hpt g hlet hbx hplc => ?_⟩
      have gp := g.parts
      have gm := gp.made
      obtain ⟨lp, lL, nP, nLs, lB, nB, lM, hM⟩ := gm.need
      -- the program, what the law needs
      refine ⟨_, rfl, L, pt, rfl, hpt.to_in, gp, fun pr H6 s6 n6 hp6 => ?_⟩
      have hpt6 := hpt.same s6
      refine ⟨_, rfl, L, pt, rfl, hpt6, g.need, fun m hm => ⟨g.ones m hm, g.ndk hm⟩, g.lmv, fun Wd gg H7 s7 n7 e7 sn hiff => ⟨_, _, rfl, ?_⟩⟩
      have s67 := s7
      have hpt7 := hpt6.same s7
      have hp7 := hp6.at.same s7
      -- what the program needs
      refine ⟨_, rfl, pr, sortN pt.letters, sortN pt.boxes, pt.places, pt.moves.map keptM, pt.ends, rfl, hp7, lp, lL, nP, nLs, lB, nB, lM, hM, fun Fd fd H8 s8 n8 hfd8 e8 => ?_⟩
      have hfd : ∀ q, q ∈ fd ↔ R0 pt q := fun q => (hfd8 q).trans (rch_made gp)
      have ewant : (pt.places.map fun p => (p, sortN (gg p))) = pt.places.map fun p => (p, wantB (sortN pt.boxes) fd p) := List.map_congr_left fun p hp => by
        have : wantB (sortN pt.boxes) fd p = sortN (gg p) := by
          refine sortN_of ((List.perm_ext_iff_of_nodup (List.filter_sublist.nodup nB) (sn.nd p hp)).mpr fun b => ?_) ((sortN_le _).filter _)
          show b ∈ wantB (sortN pt.boxes) fd p ↔ _
          rw [want_iff hfd, hiff p hp]
          exact ⟨fun h => ⟨r0_in h, h⟩, fun h => h.2⟩
        rw [this]
      rw [ewant] at e7
      have eW8 := s8 _ _ e7
      have ndW : (((needD (sortN pt.boxes) pt.places fd)).map (·.1)).Nodup := by
        unfold needD
        rw [List.map_map]
        have : pt.places.map ((fun x : List Nat × List Nat => x.1) ∘ fun p => (p, (sortN pt.boxes).filter fun b => decide ((p, b) ∈ fd))) = pt.places := List.map_id _
        rw [this]
        exact nP
      have hkeys : (fkv (needD (sortN pt.boxes) pt.places fd)).map (fun kv => kV kv.1) = txs pt.places := by
        unfold fkv needD txs
        rw [List.map_map, List.map_map]
        rfl
      obtain ⟨tp, tm, te, kvs, hL7, hplc7, hm7, hmv7, hte7⟩ := id hpt7.ex
      refine ⟨_, rfl, _, rfl, Fd, Wd, fkv (needD (sortN pt.boxes) pt.places fd), fkv (needD (sortN pt.boxes) pt.places fd), 1, rfl, rfl, e8, eW8, by decide, rfl, fun p0 hp0 => ⟨p0.2, valV_of_mem (fkv_nd ndW) hp0, .inl ⟨rfl, fkv_flat hp0⟩⟩, _, rfl, iteF ?_⟩
      refine ⟨_, rfl, Fd, _, rfl, e8, fun q1 nq1 => ?_⟩
      have s9 := same_upd (o := .lst ((fkv (needD (sortN pt.boxes) pt.places fd)).map fun kv => kV kv.1)) nq1
      have eq1 : (upd H8 q1 (.lst ((fkv (needD (sortN pt.boxes) pt.places fd)).map fun kv => kV kv.1))) q1 = some (.lst (txs pt.places)) := by rw [upd_same, hkeys]
      generalize upd H8 q1 (.lst ((fkv (needD (sortN pt.boxes) pt.places fd)).map fun kv => kV kv.1)) = H9 at s9 eq1
      have s79 := s8.trans s9
      refine ⟨_, rfl, L, _, 2, _, rfl, rfl, SqL.of (s79 _ _ hL7), atI_nat (j := 2) rfl, tp, _, rfl, .inl (SqL.of (s79 _ _ hplc7)), fun l2 nl2 => ?_⟩
      have s10 := same_upd (o := .lst (txs pt.places)) nl2
      have el2 : (upd H9 l2 (.lst (txs pt.places))) l2 = some (.lst (txs pt.places)) := upd_same
      have eq2 := s10 _ _ eq1
      generalize upd H9 l2 (.lst (txs pt.places)) = H10 at s10 el2 eq2
      have flat : (txs pt.places).all flatB = true := by
        unfold txs
        rw [List.all_map, List.all_eq_true]
        exact fun _ _ => rfl
      refine ⟨q1, l2, _, rfl, rfl, SqL.of eq2, SqL.of el2, flat, _, rfl, iteF ?_⟩
      have s710 := s79.trans s10
      have hpt10 := hpt7.same s710
      have hp10 := hp7.same s710
      have eW10 := s10 _ _ (s9 _ _ eW8)
      -- cleared by the law
      have hw : ∀ p ∈ pt.places, ∀ b, b ∈ wantB (sortN pt.boxes) fd p ↔ R0 pt (p, b) := fun p _ b => want_iff hfd
      refine ⟨_, rfl, _, rfl, L, Wd, pt, wantB (sortN pt.boxes) fd, rfl, hpt10, eW10, g.clr, fun du H11 s11 n11 hdu => ?_⟩
      have gd := due_parts gp hw
      have hp11 := hp10.same s11
      -- cleared by the program
      refine ⟨_, rfl, pr, sortN pt.letters, sortN pt.boxes, pt.places, pt.moves.map keptM, pt.ends, rfl, hp11, gm, fun r1 fd1 H12 s12 n12 hfd1' hr1 => ?_⟩
      have hfd1 : ∀ q, q ∈ fd1 ↔ R0 pt q := fun q => (hfd1' q).trans (rch_made gp)
      refine ⟨_, rfl, du, clrPt (wantB (sortN pt.boxes) fd) pt, rfl, (hdu.same s12).to_in, gd, fun r2 H13 s13 n13 hr2 => ?_⟩
      have hq1 := hr1.at.same s13
      obtain ⟨x1, _, _, _, _, y1, _⟩ := hq1.ob
      obtain ⟨x2, _, _, _, _, y2, _⟩ := hr2.at.ob
      refine ⟨⟨r1, r2, x1, x2, _, _, rfl, rfl, y1, y2, prEq_due gp hfd1 hw hq1 hr2.at⟩, fun H14 s14 => ⟨_, rfl, iteF ?_⟩⟩
      have s1114 : Same H11 H14 := (s12.trans s13).trans s14
      have hp14 := hp11.same s1114
      -- cleared twice
      refine ⟨_, rfl, pr, sortN pt.letters, sortN pt.boxes, pt.places, pt.moves.map keptM, pt.ends, rfl, hp14, gm, fun r3 fd3 H15 s15 n15 hfd3' hr3 => ?_⟩
      have hfd3 : ∀ q, q ∈ fd3 ↔ R0 pt q := fun q => (hfd3' q).trans (rch_made gp)
      have gc : PartsQ (clrP (sortN pt.letters) (sortN pt.boxes) pt.places (pt.moves.map keptM) pt.ends fd3) := clr_parts gm hfd3'
      refine ⟨r3, sortN (sortN pt.letters), sortN (clrB (sortN pt.boxes) pt.places fd3), pt.places, clrM pt fd3, ordE pt.places pt.ends, rfl, hr3.at, gc.made, fun r4 fd4 H16 s16 n16 hfd4 hr4 => ?_⟩
      have s1416 := s15.trans s16
      refine ⟨_, rfl, pr, sortN pt.letters, sortN pt.boxes, pt.places, pt.moves.map keptM, pt.ends, rfl, hp14.same s1416, gm, fun r5 fd5 H17 s17 n17 hfd5' hr5 => ?_⟩
      have hfd5 : ∀ q, q ∈ fd5 ↔ R0 pt q := fun q => (hfd5' q).trans (rch_made gp)
      have hq4 := hr4.at.same s17
      obtain ⟨x4, _, _, _, _, y4, _⟩ := hq4.ob
      obtain ⟨x5, _, _, _, _, y5, _⟩ := hr5.at.ob
      refine ⟨⟨r4, r5, x4, x5, _, _, rfl, rfl, y4, y5, prEq_twice gp hfd3 hfd5 hfd4 hq4 hr5.at⟩, fun H18 s18 => ⟨_, rfl, iteF ?_⟩⟩
      have s1118 : Same H11 H18 := s1114.trans ((s1416.trans s17).trans s18)
      have hpt18 := hpt10.same (s11.trans s1118)
      have hdu18 := hdu.same s1118
      obtain ⟨tp', tm', te', kvs', hL18, hplc18, hm18, hmv18, hte18⟩ := id hpt18.ex
      have hsrc18 : Src H18 p (i * 6001 + 1 + 6000) := hs5.same ((((s6.trans s7).trans s710).trans s11).trans s1118)
      obtain ⟨pl0, pls, epl⟩ : ∃ pl0 pls, pt.places = pl0 :: pls := by
        have := g.p1
        cases h : pt.places with
        | nil => rw [h] at this; exact absurd this (by decide)
        | cons x r => exact ⟨x, r, rfl⟩
      have hpl0 : pl0 ∈ pt.places := by rw [epl]; exact List.mem_cons_self
      -- all texts
      refine ⟨_, rfl, L, _, 0, _, rfl, rfl, SqL.of hL18, atI_nat (j := 0) rfl, pt.letters, rfl, g.l5, fun Tx ws H19 s19 n19 e19 hok => ?_⟩
      refine ⟨Tx, rfl, ⟨_, SqL.of e19⟩, for_list (K := K) (a := Tx) (xs := txs ws) (fun j σ H' => ∃ v8, σ = [some (.ref a), some (.ref p), some (.int (0 + i)), some (.ref L), some (.ref pr), some (.ref Wd), some (.ref Fd), some (.ref du), v8, none] ∧ Same H19 H') ⟨_, rfl, fun _ _ e => e⟩ (fun j σ H' _ ⟨_, _, e⟩ => SqL.of (e _ _ e19)) ?_ ?_⟩
      · rintro j y σ H20 hj ⟨w8, rfl, s20⟩
        obtain ⟨tx, htx, rfl⟩ : ∃ tx, ws[j]? = some tx ∧ y = .str (S tx) := by
          unfold txs at hj
          rw [List.getElem?_map] at hj
          cases z : ws[j]? with
          | none => rw [z] at hj; cases hj
          | some x => rw [z] at hj; exact ⟨x, rfl, (Option.some.inj hj).symm⟩
        have ltx := (hok tx (List.mem_of_getElem? htx)).1
        have s1820 := s19.trans s20
        have gd2 := gd.bo
        unfold okBoxes at gd2
        simp only [Bool.and_eq_true, decide_eq_true_eq, List.all_eq_true] at gd2
        refine ⟨_, rfl, _, rfl, du, tx, clrPt (wantB (sortN pt.boxes) fd) pt, pl0, pls, rfl, hdu18.same s1820, epl, duB_sub.nodup g.ndB, fun x hx => g.caps x (duB_sub.subset hx), gd2.1, due_good g.mvs, by omega, fun c f hf => ⟨(g.ends c f hf).1, fun x hx => (g.ends c f hf).2 x (duB_sub.subset hx)⟩, fun H21 s21 => ?_⟩
        refine ⟨_, rfl, _, rfl, L, tx, pt, pl0, pls, rfl, hpt18.same (s1820.trans s21), epl, g.ndB, g.caps, g.b6, g.mvs, by omega, g.ends, fun H22 s22 => ?_⟩
        rw [told_due gp hw hpl0]
        refine ⟨?_, _, rfl, ?_⟩
        · cases toldE pt.moves (sortN pt.boxes) pt.ends pl0 tx <;> rfl
        · rw [decide_eq_true rfl]
          exact iteF ⟨_, rfl, (s20.trans s21).trans s22⟩
      · rintro σ H20 ⟨w8, rfl, s20⟩
        refine ⟨_, _, _, _, _, _, _, rfl, ?_⟩
        have := hsrc18.same (s19.trans s20)
        have e : (i + 1) * 6001 = i * 6001 + 1 + 6000 := by omega
        rw [e]
        exact this
    · rintro σ H2 ⟨v2, v3, v4, v5, v6, v7, v8, rfl, _⟩
      obtain ⟨flC, hflC⟩ : ∃ flC : Fil, flC = [([65], [66]), ([66], [67]), ([67], [68])] := ⟨_, rfl⟩
      refine ⟨by show 1 ≤ sizeLine; decide, fun La H3 s3 n3 e3 => ?_⟩
      intro Dm nDm
      have sA := same_upd (o := .dT []) nDm
      have eDm : (upd H3 Dm (.dT [])) Dm = some (.dT []) := upd_same
      generalize upd H3 Dm (.dT []) = Ha at sA eDm
      refine ⟨by show 2 ≤ sizeLine; decide, fun kt H4 s4 n4 e4 => ?_⟩
      intro Df nDf
      refine ⟨upd_same, fkv flC, ?_, ?_, ?_⟩
      · rw [hflC, s_A, s_B, s_C, s_D]
        rfl
      · rw [hflC]
        decide
      rw [merge_new _ [] (by rw [hflC]; decide +kernel), List.nil_append]
      have sC : Same H4 (upd (upd H4 Df (.dK [])) Df (.dK (fkv flC))) := fun b o e => by
        rw [upd_ne (ne_of_none e nDf), upd_ne (ne_of_none e nDf)]
        exact e
      have eDf : (upd (upd H4 Df (.dK [])) Df (.dK (fkv flC))) Df = some (.dK (fkv flC)) := upd_same
      generalize upd (upd H4 Df (.dK [])) Df (.dK (fkv flC)) = Hc at sC eDf
      refine ⟨by show 2 ≤ sizeLine; decide, fun t H5 s5 n5 e5 => ⟨mkey onN 97, kt, rfl, ?_, s5 _ _ (sC _ _ (s4 _ _ eDm)), ?_⟩⟩
      · rw [s5 _ _ (sC _ _ e4), s_on, s_a]
        rfl
      rw [putK_end _ (by simp)]
      have e35 : H5 La = some (.lst (txs [onN])) := by
        rw [s5 _ _ (sC _ _ (s4 _ _ (sA _ _ e3))), s_on]
        rfl
      have eDm5 := s5 _ _ (sC _ _ (s4 _ _ eDm))
      have eDf5 := s5 _ _ eDf
      have bD : But Dm H5 (upd H5 Dm (.dT ([] ++ [(mkey onN 97, V.ref t)]))) := But.upd _ _ _
      have eDm6 : (upd H5 Dm (.dT ([] ++ [(mkey onN 97, V.ref t)]))) Dm = some (.dT [(mkey onN 97, V.ref t)]) := upd_same
      have eLa6 := bD _ _ e35 (ne_of e35 eDm5 (by intro z; cases z))
      have eDf6 := bD _ _ eDf5 (ne_of eDf5 eDm5 (by intro z; cases z))
      have et6 := bD _ _ e5 (ne_of e5 eDm5 (by intro z; cases z))
      generalize upd H5 Dm (.dT ([] ++ [(mkey onN 97, V.ref t)])) = Hd at eDm6 eLa6 eDf6 et6
      intro De nDe
      refine ⟨upd_same, fkv pC.ends, ?_, by decide, ?_⟩
      · rw [s_on, s_A]
        rfl
      rw [merge_new _ [] (by decide +kernel), List.nil_append]
      have sE : Same Hd (upd (upd Hd De (.dK [])) De (.dK (fkv pC.ends))) := fun b o e => by
        rw [upd_ne (ne_of_none e nDe), upd_ne (ne_of_none e nDe)]
        exact e
      have eDe : (upd (upd Hd De (.dK [])) De (.dK (fkv pC.ends))) De = some (.dK (fkv pC.ends)) := upd_same
      generalize upd (upd Hd De (.dK [])) De (.dK (fkv pC.ends)) = Hf at sE eDe
      refine ⟨La, Dm, De, pC, ?_, ⟨.inl (sE _ _ eLa6), ⟨_, sE _ _ eDm6, .cons ⟨rfl, t, Df, rfl, .inr ?_, ?_⟩ .nil⟩, eDe⟩, pC_parts, fun cp H7 s7 n7 hcp => ?_⟩
      · rw [s_a, s_ABCD]
        rfl
      · rw [sE _ _ et6, s_on]
      · rw [sE _ _ eDf6, hflC]
      have gm := pC_parts.made
      obtain ⟨lp, lL, nP, nLs, lB, nB, lM, hM⟩ := gm.need
      have hpa := hcp.at
      refine ⟨_, rfl, cp, sortN pC.letters, sortN pC.boxes, pC.places, pC.moves.map keptM, pC.ends, rfl, hpa, lp, lL, nP, nLs, lB, nB, lM, hM, fun Fd fd H8 s8 n8 hfd8 e8 => ?_⟩
      have hfd : ∀ q, q ∈ fd ↔ R0 pC q := fun q => (hfd8 q).trans (rch_made pC_parts)
      rw [pC_need hfd] at e8
      intro Dz nDz
      refine ⟨upd_same, fkv [(onN, [65, 66, 67, 68])], ?_, by decide, ?_⟩
      · rw [s_on, s_ABCD]
        rfl
      rw [merge_new _ [] (by decide +kernel), List.nil_append]
      have sZ : Same H8 (upd (upd H8 Dz (.dK [])) Dz (.dK (fkv [(onN, [65, 66, 67, 68])]))) := fun b o e => by
        rw [upd_ne (ne_of_none e nDz), upd_ne (ne_of_none e nDz)]
        exact e
      have eDz : (upd (upd H8 Dz (.dK [])) Dz (.dK (fkv [(onN, [65, 66, 67, 68])]))) Dz = some (.dK (fkv [(onN, [65, 66, 67, 68])])) := upd_same
      generalize upd (upd H8 Dz (.dK [])) Dz (.dK (fkv [(onN, [65, 66, 67, 68])])) = H9 at sZ eDz
      have ndo : (([(onN, [65, 66, 67, 68])] : Fil).map (·.1)).Nodup := by decide
      refine ⟨1, by decide, .inr ⟨Fd, Dz, _, _, rfl, rfl, sZ _ _ e8, eDz, rfl, fun p0 hp0 => ⟨p0.2, valV_of_mem (fkv_nd ndo) hp0, .inl ⟨rfl, fkv_flat hp0⟩⟩⟩, true, rfl, iteT ?_⟩
      have s79 := s8.trans sZ
      refine ⟨_, rfl, cp, sortN pC.letters, sortN pC.boxes, pC.places, pC.moves.map keptM, pC.ends, rfl, hpa.same s79, gm, fun r fd1 H10 s10 n10 hfd1' hr1 => ?_⟩
      have hfd1 : ∀ q, q ∈ fd1 ↔ R0 pC q := fun q => (hfd1' q).trans (rch_made pC_parts)
      have hw : ∀ p ∈ pC.places, ∀ b, b ∈ wantB (sortN pC.boxes) fd1 p ↔ R0 pC (p, b) := fun p _ b => want_iff hfd1
      have hq := hpa.same (s79.trans s10)
      obtain ⟨x1, _, _, _, _, y1, _⟩ := hr1.at.ob
      obtain ⟨x2, _, _, _, _, y2, _⟩ := hq.ob
      refine ⟨_, rfl, ⟨r, cp, x1, x2, _, _, rfl, rfl, y1, y2, prEq_due pC_parts hfd1 hw hr1.at ?_⟩, fun H' _ => q H'⟩
      rw [pC_clr hw]
      exact hq
end
end Tb

set_option Elab.async false
set_option linter.all false
set_option maxRecDepth 100000
set_option maxHeartbeats 4000000
namespace Tb
open PySem PySem.Spec PyProof.Rows L2 TL
def lw : PySem.W.OpenLaw := PySem.Challenge.rw_textboxes_k50_boxes_needed_and_cleared
theorem all_mk {w : World} {K : PySem.W.Frag} {h : Heap} {mg : Str → Option Value} {fa C : Addr} {g0 g1 g2 g3 g4 g5 g6 g7 g8 g9 g10 g11 g12 g13 g14 g15 g16 g17 g18 g19 g20 g21 g22 g23 g24 g25 g26 g27 g28 g29 g30 g31 g32 g33 g34 g35 g36 g37 gCinit gCmove gCend gCeq gPletters gPboxes gPplaces pPletters pPboxes pPplaces : Addr} (X : K.In h) (G : h.Ns mainGlobals mg) (hfa : mg "law" = some (.ref fa))
    {od0 an0 od1 an1 od2 an2 od3 an3 od4 an4 od5 an5 od6 an6 od7 an7 od8 an8 od9 an9 od10 an10 od11 an11 od12 an12 od13 an13 od14 an14 od15 an15 od16 an16 od17 an17 od18 an18 od19 an19 od20 an20 od21 an21 od22 an22 od23 an23 od24 an24 od25 an25 od26 an26 od27 an27 od28 an28 od29 an29 od30 an30 od31 an31 od32 an32 od33 an33 od34 an34 od35 an35 od36 an36 od37 an37 odCinit anCinit odCmove anCmove odCend anCend odCeq anCeq odPletters anPletters odPboxes anPboxes odPplaces anPplaces : Option Addr} {sl0 sl1 sl2 sl3 sl4 sl5 sl6 sl7 sl8 sl9 sl10 sl11 sl12 sl13 sl14 sl15 sl16 sl17 sl18 sl19 sl20 sl21 sl22 sl23 sl24 sl25 sl26 sl27 sl28 sl29 sl30 sl31 sl32 sl33 sl34 sl35 sl36 sl37 slCinit slCmove slCend slCeq slPletters slPboxes slPplaces : Array (Option Value)} {oc0 kV0 dc0 pm0 cd0 ct0 oc1 kV1 dc1 pm1 cd1 ct1 oc2 kV2 dc2 pm2 cd2 ct2 oc3 kV3 dc3 pm3 cd3 ct3 oc4 kV4 dc4 pm4 cd4 ct4 oc5 kV5 dc5 pm5 cd5 ct5 oc6 kV6 dc6 pm6 cd6 ct6 oc7 kV7 dc7 pm7 cd7 ct7 oc8 kV8 dc8 pm8 cd8 ct8 oc9 kV9 dc9 pm9 cd9 ct9 oc10 kV10 dc10 pm10 cd10 ct10 oc11 kV11 dc11 pm11 cd11 ct11 oc12 kV12 dc12 pm12 cd12 ct12 oc13 kV13 dc13 pm13 cd13 ct13 oc14 kV14 dc14 pm14 cd14 ct14 oc15 kV15 dc15 pm15 cd15 ct15 oc16 kV16 dc16 pm16 cd16 ct16 oc17 kV17 dc17 pm17 cd17 ct17 oc18 kV18 dc18 pm18 cd18 ct18 oc19 kV19 dc19 pm19 cd19 ct19 oc20 kV20 dc20 pm20 cd20 ct20 oc21 kV21 dc21 pm21 cd21 ct21 oc22 kV22 dc22 pm22 cd22 ct22 oc23 kV23 dc23 pm23 cd23 ct23 oc24 kV24 dc24 pm24 cd24 ct24 oc25 kV25 dc25 pm25 cd25 ct25 oc26 kV26 dc26 pm26 cd26 ct26 oc27 kV27 dc27 pm27 cd27 ct27 oc28 kV28 dc28 pm28 cd28 ct28 oc29 kV29 dc29 pm29 cd29 ct29 oc30 kV30 dc30 pm30 cd30 ct30 oc31 kV31 dc31 pm31 cd31 ct31 oc32 kV32 dc32 pm32 cd32 ct32 oc33 kV33 dc33 pm33 cd33 ct33 oc34 kV34 dc34 pm34 cd34 ct34 oc35 kV35 dc35 pm35 cd35 ct35 oc36 kV36 dc36 pm36 cd36 ct36 oc37 kV37 dc37 pm37 cd37 ct37 ocCinit kVCinit dcCinit pmCinit cdCinit ctCinit ocCmove kVCmove dcCmove pmCmove cdCmove ctCmove ocCend kVCend dcCend pmCend cdCend ctCend ocCeq kVCeq dcCeq pmCeq cdCeq ctCeq ocPletters kVPletters dcPletters pmPletters cdPletters ctPletters ocPboxes kVPboxes dcPboxes pmPboxes cdPboxes ctPboxes ocPplaces kVPplaces dcPplaces pmPplaces cdPplaces ctPplaces : Value} {rrPletters rrPboxes rrPplaces : List Value} {tk_BOXES tk_LONGEST_NAME tk_MOST_BOXES tk_MOST_LETTERS tk_MOST_PLACES : Tok}
    (a0 : PySem.W.nsIn K mainGlobals "is_text" = some (some (.ref g0))) (k0 : PySem.W.keepIn K (.ref g0) = true)
    (l0 : K.lookup g0 = some ⟨oc0, od0, .func (PySem.W.fnOf "is_text" "is_text" (defArgs sIsText) (defBody sIsText) (defScope sIsText) .none kV0 dc0 pm0 an0 cd0 ct0), sl0⟩) (e0 : PySem.W.codeIn K cd0 "is_text" = true)
    (a1 : PySem.W.nsIn K mainGlobals "is_name" = some (some (.ref g1))) (k1 : PySem.W.keepIn K (.ref g1) = true)
    (l1 : K.lookup g1 = some ⟨oc1, od1, .func (PySem.W.fnOf "is_name" "is_name" (defArgs sIsName) (defBody sIsName) (defScope sIsName) .none kV1 dc1 pm1 an1 cd1 ct1), sl1⟩) (e1 : PySem.W.codeIn K cd1 "is_name" = true)
    (a2 : PySem.W.nsIn K mainGlobals "is_filling" = some (some (.ref g2))) (k2 : PySem.W.keepIn K (.ref g2) = true)
    (l2 : K.lookup g2 = some ⟨oc2, od2, .func (PySem.W.fnOf "is_filling" "is_filling" (defArgs sIsFilling) (defBody sIsFilling) (defScope sIsFilling) .none kV2 dc2 pm2 an2 cd2 ct2), sl2⟩) (e2 : PySem.W.codeIn K cd2 "is_filling" = true)
    (a3 : PySem.W.nsIn K mainGlobals "are_different" = some (some (.ref g3))) (k3 : PySem.W.keepIn K (.ref g3) = true)
    (l3 : K.lookup g3 = some ⟨oc3, od3, .func (PySem.W.fnOf "are_different" "are_different" (defArgs sAreDiff) (defBody sAreDiff) (defScope sAreDiff) .none kV3 dc3 pm3 an3 cd3 ct3), sl3⟩) (e3 : PySem.W.codeIn K cd3 "are_different" = true)
    (a4 : PySem.W.nsIn K mainGlobals "in_order" = some (some (.ref g4))) (k4 : PySem.W.keepIn K (.ref g4) = true)
    (l4 : K.lookup g4 = some ⟨oc4, od4, .func (PySem.W.fnOf "in_order" "in_order" (defArgs sInOrder) (defBody sInOrder) (defScope sInOrder) .none kV4 dc4 pm4 an4 cd4 ct4), sl4⟩) (e4 : PySem.W.codeIn K cd4 "in_order" = true)
    (a5 : PySem.W.nsIn K mainGlobals "are_letters" = some (some (.ref g5))) (k5 : PySem.W.keepIn K (.ref g5) = true)
    (l5 : K.lookup g5 = some ⟨oc5, od5, .func (PySem.W.fnOf "are_letters" "are_letters" (defArgs sAreLetters) (defBody sAreLetters) (defScope sAreLetters) .none kV5 dc5 pm5 an5 cd5 ct5), sl5⟩) (e5 : PySem.W.codeIn K cd5 "are_letters" = true)
    (a6 : PySem.W.nsIn K mainGlobals "are_names" = some (some (.ref g6))) (k6 : PySem.W.keepIn K (.ref g6) = true)
    (l6 : K.lookup g6 = some ⟨oc6, od6, .func (PySem.W.fnOf "are_names" "are_names" (defArgs sAreNames) (defBody sAreNames) (defScope sAreNames) .none kV6 dc6 pm6 an6 cd6 ct6), sl6⟩) (e6 : PySem.W.codeIn K cd6 "are_names" = true)
    (a7 : PySem.W.nsIn K mainGlobals "is_pair" = some (some (.ref g7))) (k7 : PySem.W.keepIn K (.ref g7) = true)
    (l7 : K.lookup g7 = some ⟨oc7, od7, .func (PySem.W.fnOf "is_pair" "is_pair" (defArgs sIsPair) (defBody sIsPair) (defScope sIsPair) .none kV7 dc7 pm7 an7 cd7 ct7), sl7⟩) (e7 : PySem.W.codeIn K cd7 "is_pair" = true)
    (a8 : PySem.W.nsIn K mainGlobals "is_one_of" = some (some (.ref g8))) (k8 : PySem.W.keepIn K (.ref g8) = true)
    (l8 : K.lookup g8 = some ⟨oc8, od8, .func (PySem.W.fnOf "is_one_of" "is_one_of" (defArgs sIsOneOf) (defBody sIsOneOf) (defScope sIsOneOf) .none kV8 dc8 pm8 an8 cd8 ct8), sl8⟩) (e8 : PySem.W.codeIn K cd8 "is_one_of" = true)
    (a9 : PySem.W.nsIn K mainGlobals "_are_boxes" = some (some (.ref g9))) (k9 : PySem.W.keepIn K (.ref g9) = true)
    (l9 : K.lookup g9 = some ⟨oc9, od9, .func (PySem.W.fnOf "_are_boxes" "_are_boxes" (defArgs sAreBoxes) (defBody sAreBoxes) (defScope sAreBoxes) .none kV9 dc9 pm9 an9 cd9 ct9), sl9⟩) (e9 : PySem.W.codeIn K cd9 "_are_boxes" = true)
    (a10 : PySem.W.nsIn K mainGlobals "_are_places" = some (some (.ref g10))) (k10 : PySem.W.keepIn K (.ref g10) = true)
    (l10 : K.lookup g10 = some ⟨oc10, od10, .func (PySem.W.fnOf "_are_places" "_are_places" (defArgs sArePlaces) (defBody sArePlaces) (defScope sArePlaces) .none kV10 dc10 pm10 an10 cd10 ct10), sl10⟩) (e10 : PySem.W.codeIn K cd10 "_are_places" = true)
    (a11 : PySem.W.nsIn K mainGlobals "_are_fillings" = some (some (.ref g11))) (k11 : PySem.W.keepIn K (.ref g11) = true)
    (l11 : K.lookup g11 = some ⟨oc11, od11, .func (PySem.W.fnOf "_are_fillings" "_are_fillings" (defArgs sAreFillings) (defBody sAreFillings) (defScope sAreFillings) .none kV11 dc11 pm11 an11 cd11 ct11), sl11⟩) (e11 : PySem.W.codeIn K cd11 "_are_fillings" = true)
    (a12 : PySem.W.nsIn K mainGlobals "_are_moves" = some (some (.ref g12))) (k12 : PySem.W.keepIn K (.ref g12) = true)
    (l12 : K.lookup g12 = some ⟨oc12, od12, .func (PySem.W.fnOf "_are_moves" "_are_moves" (defArgs sAreMoves) (defBody sAreMoves) (defScope sAreMoves) .none kV12 dc12 pm12 an12 cd12 ct12), sl12⟩) (e12 : PySem.W.codeIn K cd12 "_are_moves" = true)
    (a13 : PySem.W.nsIn K mainGlobals "_are_ends" = some (some (.ref g13))) (k13 : PySem.W.keepIn K (.ref g13) = true)
    (l13 : K.lookup g13 = some ⟨oc13, od13, .func (PySem.W.fnOf "_are_ends" "_are_ends" (defArgs sAreEnds) (defBody sAreEnds) (defScope sAreEnds) .none kV13 dc13 pm13 an13 cd13 ct13), sl13⟩) (e13 : PySem.W.codeIn K cd13 "_are_ends" = true)
    (a14 : PySem.W.nsIn K mainGlobals "_kept_moves" = some (some (.ref g14))) (k14 : PySem.W.keepIn K (.ref g14) = true)
    (l14 : K.lookup g14 = some ⟨oc14, od14, .func (PySem.W.fnOf "_kept_moves" "_kept_moves" (defArgs sKept) (defBody sKept) (defScope sKept) .none kV14 dc14 pm14 an14 cd14 ct14), sl14⟩) (e14 : PySem.W.codeIn K cd14 "_kept_moves" = true)
    (a15 : PySem.W.nsIn K mainGlobals "_law_source" = some (some (.ref g15))) (k15 : PySem.W.keepIn K (.ref g15) = true)
    (l15 : K.lookup g15 = some ⟨oc15, od15, .func (PySem.W.fnOf "_law_source" "_law_source" (defArgs sSource) (defBody sSource) (defScope sSource) .none kV15 dc15 pm15 an15 cd15 ct15), sl15⟩) (e15 : PySem.W.codeIn K cd15 "_law_source" = true)
    (a16 : PySem.W.nsIn K mainGlobals "_law_draw" = some (some (.ref g16))) (k16 : PySem.W.keepIn K (.ref g16) = true)
    (l16 : K.lookup g16 = some ⟨oc16, od16, .func (PySem.W.fnOf "_law_draw" "_law_draw" (defArgs sDraw) (defBody sDraw) (defScope sDraw) .none kV16 dc16 pm16 an16 cd16 ct16), sl16⟩) (e16 : PySem.W.codeIn K cd16 "_law_draw" = true)
    (a17 : PySem.W.nsIn K mainGlobals "_law_pick" = some (some (.ref g17))) (k17 : PySem.W.keepIn K (.ref g17) = true)
    (l17 : K.lookup g17 = some ⟨oc17, od17, .func (PySem.W.fnOf "_law_pick" "_law_pick" (defArgs sPick) (defBody sPick) (defScope sPick) .none kV17 dc17 pm17 an17 cd17 ct17), sl17⟩) (e17 : PySem.W.codeIn K cd17 "_law_pick" = true)
    (a18 : PySem.W.nsIn K mainGlobals "_law_order" = some (some (.ref g18))) (k18 : PySem.W.keepIn K (.ref g18) = true)
    (l18 : K.lookup g18 = some ⟨oc18, od18, .func (PySem.W.fnOf "_law_order" "_law_order" (defArgs sOrder) (defBody sOrder) (defScope sOrder) .none kV18 dc18 pm18 an18 cd18 ct18), sl18⟩) (e18 : PySem.W.codeIn K cd18 "_law_order" = true)
    (a19 : PySem.W.nsIn K mainGlobals "_law_name" = some (some (.ref g19))) (k19 : PySem.W.keepIn K (.ref g19) = true)
    (l19 : K.lookup g19 = some ⟨oc19, od19, .func (PySem.W.fnOf "_law_name" "_law_name" (defArgs sName) (defBody sName) (defScope sName) .none kV19 dc19 pm19 an19 cd19 ct19), sl19⟩) (e19 : PySem.W.codeIn K cd19 "_law_name" = true)
    (a20 : PySem.W.nsIn K mainGlobals "_law_names" = some (some (.ref g20))) (k20 : PySem.W.keepIn K (.ref g20) = true)
    (l20 : K.lookup g20 = some ⟨oc20, od20, .func (PySem.W.fnOf "_law_names" "_law_names" (defArgs sNames) (defBody sNames) (defScope sNames) .none kV20 dc20 pm20 an20 cd20 ct20), sl20⟩) (e20 : PySem.W.codeIn K cd20 "_law_names" = true)
    (a21 : PySem.W.nsIn K mainGlobals "_law_signs" = some (some (.ref g21))) (k21 : PySem.W.keepIn K (.ref g21) = true)
    (l21 : K.lookup g21 = some ⟨oc21, od21, .func (PySem.W.fnOf "_law_signs" "_law_signs" (defArgs sSigns) (defBody sSigns) (defScope sSigns) .none kV21 dc21 pm21 an21 cd21 ct21), sl21⟩) (e21 : PySem.W.codeIn K cd21 "_law_signs" = true)
    (a22 : PySem.W.nsIn K mainGlobals "_law_piece" = some (some (.ref g22))) (k22 : PySem.W.keepIn K (.ref g22) = true)
    (l22 : K.lookup g22 = some ⟨oc22, od22, .func (PySem.W.fnOf "_law_piece" "_law_piece" (defArgs sPiece) (defBody sPiece) (defScope sPiece) .none kV22 dc22 pm22 an22 cd22 ct22), sl22⟩) (e22 : PySem.W.codeIn K cd22 "_law_piece" = true)
    (a23 : PySem.W.nsIn K mainGlobals "_law_fill" = some (some (.ref g23))) (k23 : PySem.W.keepIn K (.ref g23) = true)
    (l23 : K.lookup g23 = some ⟨oc23, od23, .func (PySem.W.fnOf "_law_fill" "_law_fill" (defArgs sFill) (defBody sFill) (defScope sFill) .none kV23 dc23 pm23 an23 cd23 ct23), sl23⟩) (e23 : PySem.W.codeIn K cd23 "_law_fill" = true)
    (a24 : PySem.W.nsIn K mainGlobals "_law_program" = some (some (.ref g24))) (k24 : PySem.W.keepIn K (.ref g24) = true)
    (l24 : K.lookup g24 = some ⟨oc24, od24, .func (PySem.W.fnOf "_law_program" "_law_program" (defArgs sProgram) (defBody sProgram) (defScope sProgram) .none kV24 dc24 pm24 an24 cd24 ct24), sl24⟩) (e24 : PySem.W.codeIn K cd24 "_law_program" = true)
    (a25 : PySem.W.nsIn K mainGlobals "_law_made" = some (some (.ref g25))) (k25 : PySem.W.keepIn K (.ref g25) = true)
    (l25 : K.lookup g25 = some ⟨oc25, od25, .func (PySem.W.fnOf "_law_made" "_law_made" (defArgs sMade) (defBody sMade) (defScope sMade) .none kV25 dc25 pm25 an25 cd25 ct25), sl25⟩) (e25 : PySem.W.codeIn K cd25 "_law_made" = true)
    (a26 : PySem.W.nsIn K mainGlobals "_law_filled" = some (some (.ref g26))) (k26 : PySem.W.keepIn K (.ref g26) = true)
    (l26 : K.lookup g26 = some ⟨oc26, od26, .func (PySem.W.fnOf "_law_filled" "_law_filled" (defArgs sLFilled) (defBody sLFilled) (defScope sLFilled) .none kV26 dc26 pm26 an26 cd26 ct26), sl26⟩) (e26 : PySem.W.codeIn K cd26 "_law_filled" = true)
    (a27 : PySem.W.nsIn K mainGlobals "moves_of" = some (some (.ref g27))) (k27 : PySem.W.keepIn K (.ref g27) = true)
    (l27 : K.lookup g27 = some ⟨oc27, od27, .func (PySem.W.fnOf "moves_of" "moves_of" (defArgs sMovesOf) (defBody sMovesOf) (defScope sMovesOf) .none kV27 dc27 pm27 an27 cd27 ct27), sl27⟩) (e27 : PySem.W.codeIn K cd27 "moves_of" = true)
    (a28 : PySem.W.nsIn K mainGlobals "ends_of" = some (some (.ref g28))) (k28 : PySem.W.keepIn K (.ref g28) = true)
    (l28 : K.lookup g28 = some ⟨oc28, od28, .func (PySem.W.fnOf "ends_of" "ends_of" (defArgs sEndsOf) (defBody sEndsOf) (defScope sEndsOf) .none kV28 dc28 pm28 an28 cd28 ct28), sl28⟩) (e28 : PySem.W.codeIn K cd28 "ends_of" = true)
    (a29 : PySem.W.nsIn K mainGlobals "_put_by_moves" = some (some (.ref g29))) (k29 : PySem.W.keepIn K (.ref g29) = true)
    (l29 : K.lookup g29 = some ⟨oc29, od29, .func (PySem.W.fnOf "_put_by_moves" "_put_by_moves" (defArgs sPutBy) (defBody sPutBy) (defScope sPutBy) .none kV29 dc29 pm29 an29 cd29 ct29), sl29⟩) (e29 : PySem.W.codeIn K cd29 "_put_by_moves" = true)
    (a30 : PySem.W.nsIn K mainGlobals "needed" = some (some (.ref g30))) (k30 : PySem.W.keepIn K (.ref g30) = true)
    (l30 : K.lookup g30 = some ⟨oc30, od30, .func (PySem.W.fnOf "needed" "needed" (defArgs sNeeded) (defBody sNeeded) (defScope sNeeded) .none kV30 dc30 pm30 an30 cd30 ct30), sl30⟩) (e30 : PySem.W.codeIn K cd30 "needed" = true)
    (a31 : PySem.W.nsIn K mainGlobals "cleared" = some (some (.ref g31))) (k31 : PySem.W.keepIn K (.ref g31) = true)
    (l31 : K.lookup g31 = some ⟨oc31, od31, .func (PySem.W.fnOf "cleared" "cleared" (defArgs sCleared) (defBody sCleared) (defScope sCleared) .none kV31 dc31 pm31 an31 cd31 ct31), sl31⟩) (e31 : PySem.W.codeIn K cd31 "cleared" = true)
    (a32 : PySem.W.nsIn K mainGlobals "_law_state" = some (some (.ref g32))) (k32 : PySem.W.keepIn K (.ref g32) = true)
    (l32 : K.lookup g32 = some ⟨oc32, od32, .func (PySem.W.fnOf "_law_state" "_law_state" (defArgs sLState) (defBody sLState) (defScope sLState) .none kV32 dc32 pm32 an32 cd32 ct32), sl32⟩) (e32 : PySem.W.codeIn K cd32 "_law_state" = true)
    (a33 : PySem.W.nsIn K mainGlobals "_law_told" = some (some (.ref g33))) (k33 : PySem.W.keepIn K (.ref g33) = true)
    (l33 : K.lookup g33 = some ⟨oc33, od33, .func (PySem.W.fnOf "_law_told" "_law_told" (defArgs sLTold) (defBody sLTold) (defScope sLTold) .none kV33 dc33 pm33 an33 cd33 ct33), sl33⟩) (e33 : PySem.W.codeIn K cd33 "_law_told" = true)
    (a34 : PySem.W.nsIn K mainGlobals "_law_all_texts" = some (some (.ref g34))) (k34 : PySem.W.keepIn K (.ref g34) = true)
    (l34 : K.lookup g34 = some ⟨oc34, od34, .func (PySem.W.fnOf "_law_all_texts" "_law_all_texts" (defArgs sLAll) (defBody sLAll) (defScope sLAll) .none kV34 dc34 pm34 an34 cd34 ct34), sl34⟩) (e34 : PySem.W.codeIn K cd34 "_law_all_texts" = true)
    (a35 : PySem.W.nsIn K mainGlobals "_law_needed" = some (some (.ref g35))) (k35 : PySem.W.keepIn K (.ref g35) = true)
    (l35 : K.lookup g35 = some ⟨oc35, od35, .func (PySem.W.fnOf "_law_needed" "_law_needed" (defArgs sLNeed) (defBody sLNeed) (defScope sLNeed) .none kV35 dc35 pm35 an35 cd35 ct35), sl35⟩) (e35 : PySem.W.codeIn K cd35 "_law_needed" = true)
    (a36 : PySem.W.nsIn K mainGlobals "_law_cleared" = some (some (.ref g36))) (k36 : PySem.W.keepIn K (.ref g36) = true)
    (l36 : K.lookup g36 = some ⟨oc36, od36, .func (PySem.W.fnOf "_law_cleared" "_law_cleared" (defArgs sLClr) (defBody sLClr) (defScope sLClr) .none kV36 dc36 pm36 an36 cd36 ct36), sl36⟩) (e36 : PySem.W.codeIn K cd36 "_law_cleared" = true)
    (a37 : PySem.W.nsIn K mainGlobals "law" = some (some (.ref g37))) (k37 : PySem.W.keepIn K (.ref g37) = true)
    (l37 : K.lookup g37 = some ⟨oc37, od37, .func (PySem.W.fnOf "law" "law" (defArgs sLaw) (defBody sLaw) (defScope sLaw) .none kV37 dc37 pm37 an37 cd37 ct37), sl37⟩) (e37 : PySem.W.codeIn K cd37 "law" = true)
    (aC : PySem.W.nsIn K mainGlobals "Program" = some (some (.ref C))) (pgC : PySem.W.plainGet K C Str.empty = true) (hdC : PySem.W.hasDictIn K C = true) (poC : PySem.W.plainOver K C = true) (saC : PySem.W.findIn K (.ref C) "__setattr__" = some (some (.builtin "object.__setattr__"))) (mkC : PySem.W.makesIn K C = true) (kcC : PySem.W.keepIn K (.ref C) = true)
    (aCinit : PySem.W.findIn K (.ref C) "__init__" = some (some (.ref gCinit))) (iCinit : PySem.W.isFn K (.ref gCinit) = true) (kCinit : PySem.W.keepIn K (.ref gCinit) = true)
    (lCinit : K.lookup gCinit = some ⟨ocCinit, odCinit, .func (PySem.W.fnOf "__init__" "Program.__init__" (defArgs sInit) (defBody sInit) (defScope sInit) .none kVCinit dcCinit pmCinit anCinit cdCinit ctCinit), slCinit⟩) (eCinit : PySem.W.codeIn K cdCinit "Program.__init__" = true)
    (aCmove : PySem.W.findIn K (.ref C) "move" = some (some (.ref gCmove))) (iCmove : PySem.W.isFn K (.ref gCmove) = true) (kCmove : PySem.W.keepIn K (.ref gCmove) = true)
    (lCmove : K.lookup gCmove = some ⟨ocCmove, odCmove, .func (PySem.W.fnOf "move" "Program.move" (defArgs sMove) (defBody sMove) (defScope sMove) .none kVCmove dcCmove pmCmove anCmove cdCmove ctCmove), slCmove⟩) (eCmove : PySem.W.codeIn K cdCmove "Program.move" = true)
    (aCend : PySem.W.findIn K (.ref C) "end" = some (some (.ref gCend))) (iCend : PySem.W.isFn K (.ref gCend) = true) (kCend : PySem.W.keepIn K (.ref gCend) = true)
    (lCend : K.lookup gCend = some ⟨ocCend, odCend, .func (PySem.W.fnOf "end" "Program.end" (defArgs sEnd) (defBody sEnd) (defScope sEnd) .none kVCend dcCend pmCend anCend cdCend ctCend), slCend⟩) (eCend : PySem.W.codeIn K cdCend "Program.end" = true)
    (aCeq : PySem.W.findIn K (.ref C) "__eq__" = some (some (.ref gCeq))) (iCeq : PySem.W.isFn K (.ref gCeq) = true) (kCeq : PySem.W.keepIn K (.ref gCeq) = true)
    (lCeq : K.lookup gCeq = some ⟨ocCeq, odCeq, .func (PySem.W.fnOf "__eq__" "Program.__eq__" (defArgs sEq) (defBody sEq) (defScope sEq) .none kVCeq dcCeq pmCeq anCeq cdCeq ctCeq), slCeq⟩) (eCeq : PySem.W.codeIn K cdCeq "Program.__eq__" = true)
    (aPletters : PySem.W.findIn K (.ref C) "letters" = some (some (.ref pPletters))) (sPletters : PySem.W.specialIn K (.ref pPletters) "__get__" = some (some (.builtin "property.__get__"))) (tPletters : PySem.W.takesIn K (.ref pPletters) = some true) (rPletters : PySem.W.recIn K pPletters "property" = some (.ref gPletters :: rrPletters)) (kPletters : PySem.W.keepIn K (.ref gPletters) = true)
    (lPletters : K.lookup gPletters = some ⟨ocPletters, odPletters, .func (PySem.W.fnOf "letters" "Program.letters" (defArgs sLettersP) (defBody sLettersP) (defScope sLettersP) .none kVPletters dcPletters pmPletters anPletters cdPletters ctPletters), slPletters⟩) (ePletters : PySem.W.codeIn K cdPletters "Program.letters" = true)
    (aPboxes : PySem.W.findIn K (.ref C) "boxes" = some (some (.ref pPboxes))) (sPboxes : PySem.W.specialIn K (.ref pPboxes) "__get__" = some (some (.builtin "property.__get__"))) (tPboxes : PySem.W.takesIn K (.ref pPboxes) = some true) (rPboxes : PySem.W.recIn K pPboxes "property" = some (.ref gPboxes :: rrPboxes)) (kPboxes : PySem.W.keepIn K (.ref gPboxes) = true)
    (lPboxes : K.lookup gPboxes = some ⟨ocPboxes, odPboxes, .func (PySem.W.fnOf "boxes" "Program.boxes" (defArgs sBoxesP) (defBody sBoxesP) (defScope sBoxesP) .none kVPboxes dcPboxes pmPboxes anPboxes cdPboxes ctPboxes), slPboxes⟩) (ePboxes : PySem.W.codeIn K cdPboxes "Program.boxes" = true)
    (aPplaces : PySem.W.findIn K (.ref C) "places" = some (some (.ref pPplaces))) (sPplaces : PySem.W.specialIn K (.ref pPplaces) "__get__" = some (some (.builtin "property.__get__"))) (tPplaces : PySem.W.takesIn K (.ref pPplaces) = some true) (rPplaces : PySem.W.recIn K pPplaces "property" = some (.ref gPplaces :: rrPplaces)) (kPplaces : PySem.W.keepIn K (.ref gPplaces) = true)
    (lPplaces : K.lookup gPplaces = some ⟨ocPplaces, odPplaces, .func (PySem.W.fnOf "places" "Program.places" (defArgs sPlacesP) (defBody sPlacesP) (defScope sPlacesP) .none kVPplaces dcPplaces pmPplaces anPplaces cdPplaces ctPplaces), slPplaces⟩) (ePplaces : PySem.W.codeIn K cdPplaces "Program.places" = true)
    (is1 : PySem.W.findIn K (.ref C) "__class__" = some (some (.builtin "object.__class__"))) (is2 : PySem.W.specialIn K (.builtin "object.__class__") "__get__" = some (some (.builtin "getset_descriptor.__get__"))) (is3 : PySem.W.takesIn K (.builtin "object.__class__") = some true) (is4 : PySem.W.mroIn K C (.type "object") = some true)
    (ne1 : PySem.W.findIn K (.ref C) "__ne__" = some (some (.builtin "object.__ne__")))
    (n_letters : PySem.W.findIn K (.ref C) "_letters" = some none)
    (n_boxes : PySem.W.findIn K (.ref C) "_boxes" = some none)
    (n_places : PySem.W.findIn K (.ref C) "_places" = some none)
    (n_moves : PySem.W.findIn K (.ref C) "_moves" = some none)
    (n_ends : PySem.W.findIn K (.ref C) "_ends" = some none)
    (z_all : PySem.W.nsIn K mainGlobals "all" = some none)
    (z_any : PySem.W.nsIn K mainGlobals "any" = some none)
    (z_dict : PySem.W.nsIn K mainGlobals "dict" = some none)
    (z_int : PySem.W.nsIn K mainGlobals "int" = some none)
    (z_isinstance : PySem.W.nsIn K mainGlobals "isinstance" = some none)
    (z_len : PySem.W.nsIn K mainGlobals "len" = some none)
    (z_list : PySem.W.nsIn K mainGlobals "list" = some none)
    (z_range : PySem.W.nsIn K mainGlobals "range" = some none)
    (z_set : PySem.W.nsIn K mainGlobals "set" = some none)
    (z_sorted : PySem.W.nsIn K mainGlobals "sorted" = some none)
    (z_str : PySem.W.nsIn K mainGlobals "str" = some none)
    (z_tuple : PySem.W.nsIn K mainGlobals "tuple" = some none)
    (v_BOXES : PySem.W.nsIn K mainGlobals "BOXES" = some (some (.str (Str.ofString "ABCDEFGHIJKLMNOPQRSTUVWXYZ") tk_BOXES)))
    (v_LONGEST_NAME : PySem.W.nsIn K mainGlobals "LONGEST_NAME" = some (some (.int 8 tk_LONGEST_NAME)))
    (v_MOST_BOXES : PySem.W.nsIn K mainGlobals "MOST_BOXES" = some (some (.int 6 tk_MOST_BOXES)))
    (v_MOST_LETTERS : PySem.W.nsIn K mainGlobals "MOST_LETTERS" = some (some (.int 5 tk_MOST_LETTERS)))
    (v_MOST_PLACES : PySem.W.nsIn K mainGlobals "MOST_PLACES" = some (some (.int 50 tk_MOST_PLACES)))
    : ∃ fd : FuncData, (∀ (s : Shared) (u : Value), BindsTo s fd ⟨[u], []⟩ [("_law_script", u)]) ∧ ∀ base : Heap, K.In base → base.Ns mainGlobals mg → FnOk lw.prog w K mg base CX0 9 fa fd ["_law_script"] (spLaw K) := by
  have e := hfa.symm.trans (PySem.W.mg_of X G a37)
  cases e
  refine ⟨PySem.W.fnOf "law" "law" (defArgs sLaw) (defBody sLaw) (defScope sLaw) .none kV37 dc37 pm37 an37 cd37 ct37, fun s v => .of_eq rfl, fun base _ _ => ?_⟩
  have T : PrTxt K mg C := ⟨⟨pgC, hdC, poC, saC⟩, n_letters, n_boxes, n_places, n_moves, n_ends, PySem.W.mg_of X G aC⟩
  have IS : PrIs K C := ⟨is1, is2, is3, is4⟩
  have m_all := PySem.W.mg_none_of X G z_all
  have m_any := PySem.W.mg_none_of X G z_any
  have m_dict := PySem.W.mg_none_of X G z_dict
  have m_int := PySem.W.mg_none_of X G z_int
  have m_isinstance := PySem.W.mg_none_of X G z_isinstance
  have m_len := PySem.W.mg_none_of X G z_len
  have m_list := PySem.W.mg_none_of X G z_list
  have m_range := PySem.W.mg_none_of X G z_range
  have m_set := PySem.W.mg_none_of X G z_set
  have m_sorted := PySem.W.mg_none_of X G z_sorted
  have m_str := PySem.W.mg_none_of X G z_str
  have m_tuple := PySem.W.mg_none_of X G z_tuple
  have c_BOXES := PySem.W.mg_of X G v_BOXES
  have c_LONGEST_NAME := PySem.W.mg_of X G v_LONGEST_NAME
  have c_MOST_BOXES := PySem.W.mg_of X G v_MOST_BOXES
  have c_MOST_LETTERS := PySem.W.mg_of X G v_MOST_LETTERS
  have c_MOST_PLACES := PySem.W.mg_of X G v_MOST_PLACES
  have F0 := fun_mk (st := sIsText) l0 e0 k0
  have D_is_text : Df lw.prog w K mg base 1 "is_text" ["thing"] (spIsText K) := ⟨⟨_, _, ok_isText (k := 0) F0 m_isinstance m_str, F0.binds (ps := ["thing"]) (fun _ _ _ _ _ _ us hl => match us, hl with | [_], _ => rfl), k0, PySem.W.mg_of X G a0⟩⟩
  have F1 := fun_mk (st := sIsName) l1 e1 k1
  have D_is_name : Df lw.prog w K mg base 2 "is_name" ["thing"] (spIsName K) := ⟨⟨_, _, ok_isName (k := 0) F1 D_is_text m_len ⟨_, c_LONGEST_NAME⟩, F1.binds (ps := ["thing"]) (fun _ _ _ _ _ _ us hl => match us, hl with | [_], _ => rfl), k1, PySem.W.mg_of X G a1⟩⟩
  have F2 := fun_mk (st := sIsFilling) l2 e2 k2
  have D_is_filling : Df lw.prog w K mg base 2 "is_filling" ["thing", "boxes"] (spIsFilling K) := ⟨⟨_, _, ok_isFilling (k := 0) F2 D_is_text m_isinstance m_str, F2.binds (ps := ["thing", "boxes"]) (fun _ _ _ _ _ _ us hl => match us, hl with | [_, _], _ => rfl), k2, PySem.W.mg_of X G a2⟩⟩
  have F3 := fun_mk (st := sAreDiff) l3 e3 k3
  have D_are_different : Df lw.prog w K mg base 1 "are_different" ["strings"] (spAreDiff K) := ⟨⟨_, _, ok_areDiff (k := 0) F3 m_len m_set, F3.binds (ps := ["strings"]) (fun _ _ _ _ _ _ us hl => match us, hl with | [_], _ => rfl), k3, PySem.W.mg_of X G a3⟩⟩
  have F4 := fun_mk (st := sInOrder) l4 e4 k4
  have D_in_order : Df lw.prog w K mg base 1 "in_order" ["signs"] (spInOrder) := ⟨⟨_, _, ok_inOrder (k := 0) F4 m_sorted, F4.binds (ps := ["signs"]) (fun _ _ _ _ _ _ us hl => match us, hl with | [_], _ => rfl), k4, PySem.W.mg_of X G a4⟩⟩
  have F5 := fun_mk (st := sAreLetters) l5 e5 k5
  have D_are_letters : Df lw.prog w K mg base 2 "are_letters" ["thing", "most"] (spAreLetters K) := ⟨⟨_, _, ok_areLetters (k := 0) F5 D_is_text D_are_different m_len, F5.binds (ps := ["thing", "most"]) (fun _ _ _ _ _ _ us hl => match us, hl with | [_, _], _ => rfl), k5, PySem.W.mg_of X G a5⟩⟩
  have F6 := fun_mk (st := sAreNames) l6 e6 k6
  have D_are_names : Df lw.prog w K mg base 3 "are_names" ["thing"] (spAreNames) := ⟨⟨_, _, ok_areNames (k := 0) F6 D_is_name D_are_different m_isinstance m_list m_tuple m_all m_len, F6.binds (ps := ["thing"]) (fun _ _ _ _ _ _ us hl => match us, hl with | [_], _ => rfl), k6, PySem.W.mg_of X G a6⟩⟩
  have F7 := fun_mk (st := sIsPair) l7 e7 k7
  have D_is_pair : Df lw.prog w K mg base 1 "is_pair" ["thing"] (spIsPair K) := ⟨⟨_, _, ok_isPair (k := 0) F7 m_isinstance m_list m_tuple m_len, F7.binds (ps := ["thing"]) (fun _ _ _ _ _ _ us hl => match us, hl with | [_], _ => rfl), k7, PySem.W.mg_of X G a7⟩⟩
  have F8 := fun_mk (st := sIsOneOf) l8 e8 k8
  have D_is_one_of : Df lw.prog w K mg base 1 "is_one_of" ["thing", "strings"] (spIsOneOf K) := ⟨⟨_, _, ok_isOneOf (k := 0) F8 m_isinstance m_str, F8.binds (ps := ["thing", "strings"]) (fun _ _ _ _ _ _ us hl => match us, hl with | [_, _], _ => rfl), k8, PySem.W.mg_of X G a8⟩⟩
  have F9 := fun_mk (st := sAreBoxes) l9 e9 k9
  have D__are_boxes : Df lw.prog w K mg base 2 "_are_boxes" ["thing"] (spAreBoxes K) := ⟨⟨_, _, ok_areBoxes (k := 0) F9 D_are_different m_isinstance m_str m_all m_len ⟨_, c_MOST_BOXES⟩ ⟨_, c_BOXES⟩, F9.binds (ps := ["thing"]) (fun _ _ _ _ _ _ us hl => match us, hl with | [_], _ => rfl), k9, PySem.W.mg_of X G a9⟩⟩
  have F10 := fun_mk (st := sArePlaces) l10 e10 k10
  have D__are_places : Df lw.prog w K mg base 4 "_are_places" ["thing"] (spArePlaces) := ⟨⟨_, _, ok_arePlaces (k := 2) F10 D_are_names m_len ⟨_, c_MOST_PLACES⟩, F10.binds (ps := ["thing"]) (fun _ _ _ _ _ _ us hl => match us, hl with | [_], _ => rfl), k10, PySem.W.mg_of X G a10⟩⟩
  have F11 := fun_mk (st := sAreFillings) l11 e11 k11
  have D__are_fillings : Df lw.prog w K mg base 3 "_are_fillings" ["thing", "boxes"] (spAreFillings) := ⟨⟨_, _, ok_areFillings (k := 0) F11 D_is_one_of D_is_filling m_isinstance m_dict m_list m_str m_all, F11.binds (ps := ["thing", "boxes"]) (fun _ _ _ _ _ _ us hl => match us, hl with | [_, _], _ => rfl), k11, PySem.W.mg_of X G a11⟩⟩
  have F12 := fun_mk (st := sAreMoves) l12 e12 k12
  have D__are_moves : Df lw.prog w K mg base 4 "_are_moves" ["thing", "letters", "boxes", "places"] (spAreMoves) := ⟨⟨_, _, ok_areMoves (k := 0) F12 D_is_pair D_is_one_of D__are_fillings m_isinstance m_dict m_list, F12.binds (ps := ["thing", "letters", "boxes", "places"]) (fun _ _ _ _ _ _ us hl => match us, hl with | [_, _, _, _], _ => rfl), k12, PySem.W.mg_of X G a12⟩⟩
  have F13 := fun_mk (st := sAreEnds) l13 e13 k13
  have D__are_ends : Df lw.prog w K mg base 3 "_are_ends" ["thing", "boxes", "places"] (spAreEnds) := ⟨⟨_, _, ok_areEnds (k := 0) F13 D_is_one_of D_is_filling m_isinstance m_dict, F13.binds (ps := ["thing", "boxes", "places"]) (fun _ _ _ _ _ _ us hl => match us, hl with | [_, _, _], _ => rfl), k13, PySem.W.mg_of X G a13⟩⟩
  have F14 := fun_mk (st := sKept) l14 e14 k14
  have D__kept_moves : Df lw.prog w K mg base 1 "_kept_moves" ["moves"] (spKept) := ⟨⟨_, _, ok_kept (k := 0) F14 m_sorted, F14.binds (ps := ["moves"]) (fun _ _ _ _ _ _ us hl => match us, hl with | [_], _ => rfl), k14, PySem.W.mg_of X G a14⟩⟩
  have FPletters := fun_mk (st := sLettersP) lPletters ePletters kPletters
  have R_letters : Prp lw.prog w K mg base C 1 "letters" (getSp C "_letters") := ⟨⟨pPletters, _, _, ⟨aPletters, sPletters, tPletters, ⟨_, rPletters⟩⟩, ok_letters (k := 0) FPletters T, FPletters.binds (ps := ["self"]) (fun _ _ _ _ _ _ us hl => match us, hl with | [_], _ => rfl)⟩⟩
  have FPboxes := fun_mk (st := sBoxesP) lPboxes ePboxes kPboxes
  have R_boxes : Prp lw.prog w K mg base C 1 "boxes" (getSp C "_boxes") := ⟨⟨pPboxes, _, _, ⟨aPboxes, sPboxes, tPboxes, ⟨_, rPboxes⟩⟩, ok_boxes (k := 0) FPboxes T, FPboxes.binds (ps := ["self"]) (fun _ _ _ _ _ _ us hl => match us, hl with | [_], _ => rfl)⟩⟩
  have FPplaces := fun_mk (st := sPlacesP) lPplaces ePplaces kPplaces
  have R_places : Prp lw.prog w K mg base C 1 "places" (getSp C "_places") := ⟨⟨pPplaces, _, _, ⟨aPplaces, sPplaces, tPplaces, ⟨_, rPplaces⟩⟩, ok_places (k := 0) FPplaces T, FPplaces.binds (ps := ["self"]) (fun _ _ _ _ _ _ us hl => match us, hl with | [_], _ => rfl)⟩⟩
  have FCinit := fun_mk (st := sInit) lCinit eCinit kCinit
  have FCmove := fun_mk (st := sMove) lCmove eCmove kCmove
  have FCend := fun_mk (st := sEnd) lCend eCend kCend
  have FCeq := fun_mk (st := sEq) lCeq eCeq kCeq
  have M_move : Mth lw.prog w K mg base C 1 "move" ["place", "letter"] (spMove C) := ⟨⟨_, _, ⟨aCmove, iCmove, kCmove⟩, ok_move (k := 0) FCmove T m_dict, FCmove.binds (ps := ["self", "place", "letter"]) (fun _ _ _ _ _ _ us hl => match us, hl with | [_, _, _], _ => rfl)⟩⟩
  have M_end : Mth lw.prog w K mg base C 1 "end" ["place"] (spEnd C) := ⟨⟨_, _, ⟨aCend, iCend, kCend⟩, ok_end (k := 0) FCend T, FCend.binds (ps := ["self", "place"]) (fun _ _ _ _ _ _ us hl => match us, hl with | [_, _], _ => rfl)⟩⟩
  have MK : Mkr lw.prog w K mg base C 5 := ⟨⟨_, _, ⟨mkC, aCinit, iCinit, kcC⟩, ok_init (k := 0) FCinit T D_are_letters ⟨_, c_MOST_LETTERS⟩ D__are_boxes D__are_places D__are_moves D__are_ends D_in_order D__kept_moves m_tuple, FCinit.binds (ps := psInit) (fun _ _ _ _ _ _ us hl => match us, hl with | [_, _, _, _, _, _], _ => rfl)⟩⟩
  have F15 := fun_mk (st := sSource) l15 e15 k15
  have D__law_source : Df lw.prog w K mg base 1 "_law_source" ["_law_script"] (spSource K) := ⟨⟨_, _, ok_source (k := 0) F15 m_int, F15.binds (ps := ["_law_script"]) (fun _ _ _ _ _ _ us hl => match us, hl with | [_], _ => rfl), k15, PySem.W.mg_of X G a15⟩⟩
  have F16 := fun_mk (st := sDraw) l16 e16 k16
  have D__law_draw : Df lw.prog w K mg base 1 "_law_draw" ["_law_source_here", "_law_many"] (spDrawS) := ⟨⟨_, _, (ok_draw (k := 0) F16 m_int).imp draw_soft, F16.binds (ps := ["_law_source_here", "_law_many"]) (fun _ _ _ _ _ _ us hl => match us, hl with | [_, _], _ => rfl), k16, PySem.W.mg_of X G a16⟩⟩
  have F17 := fun_mk (st := sPick) l17 e17 k17
  have D__law_pick : Df lw.prog w K mg base 2 "_law_pick" ["_law_source_here", "_law_things"] (spPick K) := ⟨⟨_, _, ok_pick (k := 0) F17 D__law_draw m_len, F17.binds (ps := ["_law_source_here", "_law_things"]) (fun _ _ _ _ _ _ us hl => match us, hl with | [_, _], _ => rfl), k17, PySem.W.mg_of X G a17⟩⟩
  have F18 := fun_mk (st := sOrder) l18 e18 k18
  have D__law_order : Df lw.prog w K mg base 2 "_law_order" ["_law_source_here", "_law_many"] (spOrder) := ⟨⟨_, _, ok_order (k := 0) F18 D__law_draw m_len m_list m_range, F18.binds (ps := ["_law_source_here", "_law_many"]) (fun _ _ _ _ _ _ us hl => match us, hl with | [_, _], _ => rfl), k18, PySem.W.mg_of X G a18⟩⟩
  have F19 := fun_mk (st := sName) l19 e19 k19
  have D__law_name : Df lw.prog w K mg base 2 "_law_name" ["_law_source_here", "_law_taken"] (spName K) := ⟨⟨_, _, ok_name (k := 0) F19 D__law_draw m_range, F19.binds (ps := ["_law_source_here", "_law_taken"]) (fun _ _ _ _ _ _ us hl => match us, hl with | [_, _], _ => rfl), k19, PySem.W.mg_of X G a19⟩⟩
  have F20 := fun_mk (st := sNames) l20 e20 k20
  have D__law_names : Df lw.prog w K mg base 3 "_law_names" ["_law_source_here", "_law_many"] (spNames) := ⟨⟨_, _, ok_names (k := 1) F20 D__law_name m_range, F20.binds (ps := ["_law_source_here", "_law_many"]) (fun _ _ _ _ _ _ us hl => match us, hl with | [_, _], _ => rfl), k20, PySem.W.mg_of X G a20⟩⟩
  have F21 := fun_mk (st := sSigns) l21 e21 k21
  have D__law_signs : Df lw.prog w K mg base 3 "_law_signs" ["_law_source_here", "_law_signs_here", "_law_many"] (spSigns) := ⟨⟨_, _, ok_signs (k := 1) F21 D__law_order m_len, F21.binds (ps := ["_law_source_here", "_law_signs_here", "_law_many"]) (fun _ _ _ _ _ _ us hl => match us, hl with | [_, _, _], _ => rfl), k21, PySem.W.mg_of X G a21⟩⟩
  have F22 := fun_mk (st := sPiece) l22 e22 k22
  have D__law_piece : Df lw.prog w K mg base 3 "_law_piece" ["_law_source_here", "_law_out"] (spPiece) := ⟨⟨_, _, ok_piece (k := 0) F22 D__law_draw D__law_pick m_range, F22.binds (ps := ["_law_source_here", "_law_out"]) (fun _ _ _ _ _ _ us hl => match us, hl with | [_, _], _ => rfl), k22, PySem.W.mg_of X G a22⟩⟩
  have F23 := fun_mk (st := sFill) l23 e23 k23
  have D__law_fill : Df lw.prog w K mg base 4 "_law_fill" ["_law_source_here", "_law_boxes", "_law_holders", "_law_out"] (spFill K) := ⟨⟨_, _, ok_fill (k := 0) F23 D__law_draw D__law_pick D__law_order D__law_piece m_len m_dict, F23.binds (ps := ["_law_source_here", "_law_boxes", "_law_holders", "_law_out"]) (fun _ _ _ _ _ _ us hl => match us, hl with | [_, _, _, _], _ => rfl), k23, PySem.W.mg_of X G a23⟩⟩
  have F24 := fun_mk (st := sProgram) l24 e24 k24
  have D__law_program : Df lw.prog w K mg base 5 "_law_program" ["_law_source_here", "_law_letters", "_law_most_boxes", "_law_most_places"] (spProgram) := ⟨⟨_, _, ok_program (k := 0) F24 D__law_draw D__law_pick D__law_signs D__law_names D__law_fill m_list, F24.binds (ps := ["_law_source_here", "_law_letters", "_law_most_boxes", "_law_most_places"]) (fun _ _ _ _ _ _ us hl => match us, hl with | [_, _, _, _], _ => rfl), k24, PySem.W.mg_of X G a24⟩⟩
  have F25 := fun_mk (st := sMade) l25 e25 k25
  have D__law_made : Df lw.prog w K mg base 7 "_law_made" ["_law_parts"] (spMade C) := ⟨⟨_, _, ok_made (k := 5) F25 MK T.mgC, F25.binds (ps := ["_law_parts"]) (fun _ _ _ _ _ _ us hl => match us, hl with | [_], _ => rfl), k25, PySem.W.mg_of X G a25⟩⟩
  have F26 := fun_mk (st := sLFilled) l26 e26 k26
  have D__law_filled : Df lw.prog w K mg base 1 "_law_filled" ["_law_filling", "_law_texts"] (spLFilled) := ⟨⟨_, _, ok_lfilled (k := 0) F26 , F26.binds (ps := ["_law_filling", "_law_texts"]) (fun _ _ _ _ _ _ us hl => match us, hl with | [_, _], _ => rfl), k26, PySem.W.mg_of X G a26⟩⟩
  have F27 := fun_mk (st := sMovesOf) l27 e27 k27
  have D_moves_of : Df lw.prog w K mg base 3 "moves_of" ["program"] (spMovesOf C) := ⟨⟨_, _, ok_movesOf (k := 0) F27 T R_places R_letters M_move, F27.binds (ps := ["program"]) (fun _ _ _ _ _ _ us hl => match us, hl with | [_], _ => rfl), k27, PySem.W.mg_of X G a27⟩⟩
  have F28 := fun_mk (st := sEndsOf) l28 e28 k28
  have D_ends_of : Df lw.prog w K mg base 3 "ends_of" ["program"] (spEndsOf C) := ⟨⟨_, _, ok_endsOf (k := 0) F28 T R_places M_end, F28.binds (ps := ["program"]) (fun _ _ _ _ _ _ us hl => match us, hl with | [_], _ => rfl), k28, PySem.W.mg_of X G a28⟩⟩
  have F29 := fun_mk (st := sPutBy) l29 e29 k29
  have D__put_by_moves : Df lw.prog w K mg base 4 "_put_by_moves" ["program"] (spPutBy C) := ⟨⟨_, _, ok_putBy (k := 0) F29 T D_moves_of R_boxes, F29.binds (ps := ["program"]) (fun _ _ _ _ _ _ us hl => match us, hl with | [_], _ => rfl), k29, PySem.W.mg_of X G a29⟩⟩
  have F30 := fun_mk (st := sNeeded) l30 e30 k30
  have D_needed : Df lw.prog w K mg base 5 "needed" ["program"] (spNeeded C) := ⟨⟨_, _, ok_needed (k := 0) F30 T D__put_by_moves D_ends_of R_boxes R_places, F30.binds (ps := ["program"]) (fun _ _ _ _ _ _ us hl => match us, hl with | [_], _ => rfl), k30, PySem.W.mg_of X G a30⟩⟩
  have F31 := fun_mk (st := sCleared) l31 e31 k31
  have D_cleared : Df lw.prog w K mg base 7 "cleared" ["program"] (spCleared C) := ⟨⟨_, _, ok_cleared (k := 0) F31 T D_needed D_moves_of D_ends_of R_boxes R_places R_letters MK, F31.binds (ps := ["program"]) (fun _ _ _ _ _ _ us hl => match us, hl with | [_], _ => rfl), k31, PySem.W.mg_of X G a31⟩⟩
  have F32 := fun_mk (st := sLState) l32 e32 k32
  have D__law_state : Df lw.prog w K mg base 2 "_law_state" ["_law_parts", "_law_text"] (spLState) := ⟨⟨_, _, ok_lstate (k := 0) F32 D__law_filled m_dict m_sorted, F32.binds (ps := ["_law_parts", "_law_text"]) (fun _ _ _ _ _ _ us hl => match us, hl with | [_, _], _ => rfl), k32, PySem.W.mg_of X G a32⟩⟩
  have F33 := fun_mk (st := sLTold) l33 e33 k33
  have D__law_told : Df lw.prog w K mg base 3 "_law_told" ["_law_parts", "_law_text"] (spLTold) := ⟨⟨_, _, ok_ltold (k := 0) F33 D__law_state D__law_filled, F33.binds (ps := ["_law_parts", "_law_text"]) (fun _ _ _ _ _ _ us hl => match us, hl with | [_, _], _ => rfl), k33, PySem.W.mg_of X G a33⟩⟩
  have F34 := fun_mk (st := sLAll) l34 e34 k34
  have D__law_all_texts : Df lw.prog w K mg base 1 "_law_all_texts" ["_law_letters", "_law_most"] (spLAll) := ⟨⟨_, _, ok_lall (k := 0) F34 m_range m_sorted, F34.binds (ps := ["_law_letters", "_law_most"]) (fun _ _ _ _ _ _ us hl => match us, hl with | [_, _], _ => rfl), k34, PySem.W.mg_of X G a34⟩⟩
  have F35 := fun_mk (st := sLNeed) l35 e35 k35
  have D__law_needed : Df lw.prog w K mg base 1 "_law_needed" ["_law_parts"] (spLNeed) := ⟨⟨_, _, ok_lneed (k := 0) F35 m_dict m_range m_len m_list m_sorted, F35.binds (ps := ["_law_parts"]) (fun _ _ _ _ _ _ us hl => match us, hl with | [_], _ => rfl), k35, PySem.W.mg_of X G a35⟩⟩
  have F36 := fun_mk (st := sLClr) l36 e36 k36
  have D__law_cleared : Df lw.prog w K mg base 1 "_law_cleared" ["_law_parts", "_law_wanted"] (spLClr) := ⟨⟨_, _, ok_lclr (k := 0) F36 m_any m_dict, F36.binds (ps := ["_law_parts", "_law_wanted"]) (fun _ _ _ _ _ _ us hl => match us, hl with | [_, _], _ => rfl), k36, PySem.W.mg_of X G a36⟩⟩
  have F37 := fun_mk (st := sLaw) l37 e37 k37
  have M_eq : EqM lw.prog w K mg base C 1 (PrEq C) := ⟨⟨_, _, aCeq, iCeq, ok_eq (k := 0) FCeq T IS m_isinstance, FCeq.binds (ps := ["self", "other"]) (fun _ _ _ _ _ _ us hl => match us, hl with | [_, _], _ => rfl)⟩⟩
  exact ok_law F37 D__law_source D__law_pick D__law_program D__law_made D__law_needed D_needed D__law_cleared D_cleared D__law_all_texts D__law_told MK M_eq ne1 is4 T m_list m_range
theorem walk {l : PySem.W.OpenLaw} {q : Program} {loose : List Str} {XP : (Str → Option Value) → Heap → Prop} {YP : World → Heap → Prop} {d : DefRec} {K : Params → PySem.W.Frag} (hn : l.most = some 63) (hdf : d.params.defaults = [])
    (hY : ∀ (w : World) (h : Heap), YP w h → (K w.params).In h)
    (F : ∀ (w : World) (mg : Str → Option Value) (fa : Addr) (h : Heap), (K w.params).In h → h.Ns mainGlobals mg → mg d.name = some (.ref fa) →
      ∃ fd : FuncData, (∀ (s : Shared) (u : Value), BindsTo s fd ⟨[u], []⟩ [("_law_script", u)]) ∧ ∀ base : Heap, (K w.params).In base → base.Ns mainGlobals mg → FnOk l.prog w (K w.params) mg base CX0 9 fa fd ["_law_script"] (spLaw (K w.params))) :
    PySem.W.WalkO q loose XP YP l.row.toRowW d [] (fun f vs => PySem.call f vs) :=
  L2.walk_of (n := 63) (k := 9) (x := "_law_script") (CX := fun _ => CX0) (sp := fun w => spLaw (K w.params)) hn (by decide) hdf ⟨rfl, by decide, by decide⟩ hY F (fun _ _ a ns hl _ hS => ⟨a, ns, rfl, hS, hl, fun _ => rfl⟩) fun _ _ _ _ _ z => z
end Tb
open PySem PySem.W PyProof.Rows
set_option maxRecDepth 100000 in
set_option maxHeartbeats 0 in
theorem PySem.Challenge.cw_textboxes_k50_boxes_needed_and_cleared_holds : PySem.Challenge.rw_textboxes_k50_boxes_needed_and_cleared.Holds := by
  w_on; o_law; k_head; (case hw => w_witness2)
  k_fill
  refine Tb.walk (l := PySem.Challenge.rw_textboxes_k50_boxes_needed_and_cleared) rfl rfl (fun w h Y => by first | exact PySem.W.km_in_of Y | exact PySem.W.kIn_of Y) ?F
  case F =>
    intro w mg fa h KX G hmg
    refine' Tb.all_mk (fa := fa) (w := w) KX G hmg ?a0 ?k0 ?l0 ?e0 ?a1 ?k1 ?l1 ?e1 ?a2 ?k2 ?l2 ?e2 ?a3 ?k3 ?l3 ?e3 ?a4 ?k4 ?l4 ?e4 ?a5 ?k5 ?l5 ?e5 ?a6 ?k6 ?l6 ?e6 ?a7 ?k7 ?l7 ?e7 ?a8 ?k8 ?l8 ?e8 ?a9 ?k9 ?l9 ?e9 ?a10 ?k10 ?l10 ?e10 ?a11 ?k11 ?l11 ?e11 ?a12 ?k12 ?l12 ?e12 ?a13 ?k13 ?l13 ?e13 ?a14 ?k14 ?l14 ?e14 ?a15 ?k15 ?l15 ?e15 ?a16 ?k16 ?l16 ?e16 ?a17 ?k17 ?l17 ?e17 ?a18 ?k18 ?l18 ?e18 ?a19 ?k19 ?l19 ?e19 ?a20 ?k20 ?l20 ?e20 ?a21 ?k21 ?l21 ?e21 ?a22 ?k22 ?l22 ?e22 ?a23 ?k23 ?l23 ?e23 ?a24 ?k24 ?l24 ?e24 ?a25 ?k25 ?l25 ?e25 ?a26 ?k26 ?l26 ?e26 ?a27 ?k27 ?l27 ?e27 ?a28 ?k28 ?l28 ?e28 ?a29 ?k29 ?l29 ?e29 ?a30 ?k30 ?l30 ?e30 ?a31 ?k31 ?l31 ?e31 ?a32 ?k32 ?l32 ?e32 ?a33 ?k33 ?l33 ?e33 ?a34 ?k34 ?l34 ?e34 ?a35 ?k35 ?l35 ?e35 ?a36 ?k36 ?l36 ?e36 ?a37 ?k37 ?l37 ?e37 ?aC ?pgC ?hdC ?poC ?saC ?mkC ?kcC ?aCinit ?iCinit ?kCinit ?lCinit ?eCinit ?aCmove ?iCmove ?kCmove ?lCmove ?eCmove ?aCend ?iCend ?kCend ?lCend ?eCend ?aCeq ?iCeq ?kCeq ?lCeq ?eCeq ?aPletters ?sPletters ?tPletters ?rPletters ?kPletters ?lPletters ?ePletters ?aPboxes ?sPboxes ?tPboxes ?rPboxes ?kPboxes ?lPboxes ?ePboxes ?aPplaces ?sPplaces ?tPplaces ?rPplaces ?kPplaces ?lPplaces ?ePplaces ?is1 ?is2 ?is3 ?is4 ?ne1 ?n_letters ?n_boxes ?n_places ?n_moves ?n_ends ?z_all ?z_any ?z_dict ?z_int ?z_isinstance ?z_len ?z_list ?z_range ?z_set ?z_sorted ?z_str ?z_tuple ?v_BOXES ?v_LONGEST_NAME ?v_MOST_BOXES ?v_MOST_LETTERS ?v_MOST_PLACES
    (case a0 => k_is)
    (case k0 => k_is)
    (case l0 => k_is)
    (case e0 => k_is)
    (case a1 => k_is)
    (case k1 => k_is)
    (case l1 => k_is)
    (case e1 => k_is)
    (case a2 => k_is)
    (case k2 => k_is)
    (case l2 => k_is)
    (case e2 => k_is)
    (case a3 => k_is)
    (case k3 => k_is)
    (case l3 => k_is)
    (case e3 => k_is)
    (case a4 => k_is)
    (case k4 => k_is)
    (case l4 => k_is)
    (case e4 => k_is)
    (case a5 => k_is)
    (case k5 => k_is)
    (case l5 => k_is)
    (case e5 => k_is)
    (case a6 => k_is)
    (case k6 => k_is)
    (case l6 => k_is)
    (case e6 => k_is)
    (case a7 => k_is)
    (case k7 => k_is)
    (case l7 => k_is)
    (case e7 => k_is)
    (case a8 => k_is)
    (case k8 => k_is)
    (case l8 => k_is)
    (case e8 => k_is)
    (case a9 => k_is)
    (case k9 => k_is)
    (case l9 => k_is)
    (case e9 => k_is)
    (case a10 => k_is)
    (case k10 => k_is)
    (case l10 => k_is)
    (case e10 => k_is)
    (case a11 => k_is)
    (case k11 => k_is)
    (case l11 => k_is)
    (case e11 => k_is)
    (case a12 => k_is)
    (case k12 => k_is)
    (case l12 => k_is)
    (case e12 => k_is)
    (case a13 => k_is)
    (case k13 => k_is)
    (case l13 => k_is)
    (case e13 => k_is)
    (case a14 => k_is)
    (case k14 => k_is)
    (case l14 => k_is)
    (case e14 => k_is)
    (case a15 => k_is)
    (case k15 => k_is)
    (case l15 => k_is)
    (case e15 => k_is)
    (case a16 => k_is)
    (case k16 => k_is)
    (case l16 => k_is)
    (case e16 => k_is)
    (case a17 => k_is)
    (case k17 => k_is)
    (case l17 => k_is)
    (case e17 => k_is)
    (case a18 => k_is)
    (case k18 => k_is)
    (case l18 => k_is)
    (case e18 => k_is)
    (case a19 => k_is)
    (case k19 => k_is)
    (case l19 => k_is)
    (case e19 => k_is)
    (case a20 => k_is)
    (case k20 => k_is)
    (case l20 => k_is)
    (case e20 => k_is)
    (case a21 => k_is)
    (case k21 => k_is)
    (case l21 => k_is)
    (case e21 => k_is)
    (case a22 => k_is)
    (case k22 => k_is)
    (case l22 => k_is)
    (case e22 => k_is)
    (case a23 => k_is)
    (case k23 => k_is)
    (case l23 => k_is)
    (case e23 => k_is)
    (case a24 => k_is)
    (case k24 => k_is)
    (case l24 => k_is)
    (case e24 => k_is)
    (case a25 => k_is)
    (case k25 => k_is)
    (case l25 => k_is)
    (case e25 => k_is)
    (case a26 => k_is)
    (case k26 => k_is)
    (case l26 => k_is)
    (case e26 => k_is)
    (case a27 => k_is)
    (case k27 => k_is)
    (case l27 => k_is)
    (case e27 => k_is)
    (case a28 => k_is)
    (case k28 => k_is)
    (case l28 => k_is)
    (case e28 => k_is)
    (case a29 => k_is)
    (case k29 => k_is)
    (case l29 => k_is)
    (case e29 => k_is)
    (case a30 => k_is)
    (case k30 => k_is)
    (case l30 => k_is)
    (case e30 => k_is)
    (case a31 => k_is)
    (case k31 => k_is)
    (case l31 => k_is)
    (case e31 => k_is)
    (case a32 => k_is)
    (case k32 => k_is)
    (case l32 => k_is)
    (case e32 => k_is)
    (case a33 => k_is)
    (case k33 => k_is)
    (case l33 => k_is)
    (case e33 => k_is)
    (case a34 => k_is)
    (case k34 => k_is)
    (case l34 => k_is)
    (case e34 => k_is)
    (case a35 => k_is)
    (case k35 => k_is)
    (case l35 => k_is)
    (case e35 => k_is)
    (case a36 => k_is)
    (case k36 => k_is)
    (case l36 => k_is)
    (case e36 => k_is)
    (case a37 => k_is)
    (case k37 => k_is)
    (case l37 => k_is)
    (case e37 => k_is)
    (case aC => k_is)
    (case pgC => k_is)
    (case hdC => k_is)
    (case poC => k_is)
    (case saC => k_is)
    (case mkC => k_is)
    (case kcC => k_is)
    (case aCinit => k_is)
    (case iCinit => k_is)
    (case kCinit => k_is)
    (case lCinit => k_is)
    (case eCinit => k_is)
    (case aCmove => k_is)
    (case iCmove => k_is)
    (case kCmove => k_is)
    (case lCmove => k_is)
    (case eCmove => k_is)
    (case aCend => k_is)
    (case iCend => k_is)
    (case kCend => k_is)
    (case lCend => k_is)
    (case eCend => k_is)
    (case aCeq => k_is)
    (case iCeq => k_is)
    (case kCeq => k_is)
    (case lCeq => k_is)
    (case eCeq => k_is)
    (case aPletters => k_is)
    (case sPletters => k_is)
    (case tPletters => k_is)
    (case rPletters => k_is)
    (case kPletters => k_is)
    (case lPletters => k_is)
    (case ePletters => k_is)
    (case aPboxes => k_is)
    (case sPboxes => k_is)
    (case tPboxes => k_is)
    (case rPboxes => k_is)
    (case kPboxes => k_is)
    (case lPboxes => k_is)
    (case ePboxes => k_is)
    (case aPplaces => k_is)
    (case sPplaces => k_is)
    (case tPplaces => k_is)
    (case rPplaces => k_is)
    (case kPplaces => k_is)
    (case lPplaces => k_is)
    (case ePplaces => k_is)
    (case is1 => k_is)
    (case is2 => k_is)
    (case is3 => k_is)
    (case is4 => k_is)
    (case ne1 => k_is)
    (case n_letters => k_is)
    (case n_boxes => k_is)
    (case n_places => k_is)
    (case n_moves => k_is)
    (case n_ends => k_is)
    (case z_all => k_is)
    (case z_any => k_is)
    (case z_dict => k_is)
    (case z_int => k_is)
    (case z_isinstance => k_is)
    (case z_len => k_is)
    (case z_list => k_is)
    (case z_range => k_is)
    (case z_set => k_is)
    (case z_sorted => k_is)
    (case z_str => k_is)
    (case z_tuple => k_is)
    (case v_BOXES => k_is)
    (case v_LONGEST_NAME => k_is)
    (case v_MOST_BOXES => k_is)
    (case v_MOST_LETTERS => k_is)
    (case v_MOST_PLACES => k_is)

