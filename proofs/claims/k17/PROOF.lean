import PyProof.Rows.All
import Wide.All
import OpenK.AllK
import Wide.FinOn
import KE.KExcIs
import HandS.ForMost
import HandS.Exc
import HandS.ExcOwn
import HandS.ExcInit
import HandS.ExcField
import HandS.ExcValue
import HandS.ExcIs
import HandS.Defaults
import HandS.More
import PySem.Challenge.RW_textboxes_k17_errors_made
set_option Elab.async false
set_option linter.all false
set_option maxRecDepth 100000
set_option maxHeartbeats 4000000
/-! Own exceptions over ValueError as values: made with keywords and without arguments, their fields read, isinstance of them. -/
namespace PySem
namespace Tx
open HandSPX Builtin Builtin.ObjectAttr PySem.W PySem.Calls PyProof.Rows
section
variable {prog : Program} {w : World} {A : Around} {E : Value → Shared → Prop} {R : Result → Shared → Prop} {h : Heap} {g : Array GenState} {d : Drawn} {t : Nat} {os : OsState}
variable {nm q : Str} {C N : Addr} {bs bm bmB : List Value} {hdct : Bool} {sn : List Str} {sub : List Value} {ab : Bool} {col : Option Bool} {dd : Option Addr} {k0 k1 k2 k3 k5 : Option Value} {B newId initId : String}

theorem newCheckKw {M : Model} (F : ExcBaseFacts B newId initId bmB) (hT : ∀ Y : String, bm.contains (.type Y) = bmB.contains (.type Y)) {us : List Value} {kw : List (Str × Value)} {Q : Unit → Shared → Prop}
    (hC : h.get? C = some (excClassObj nm q C N bs bm hdct sn sub ab col dd k0 k1 k2 k3 k5 newId)) (z : Q () ⟨h, g, d, t, os⟩) :
    wpAny M A (checkBuiltinCall newId ⟨.ref C :: us, kw⟩) Q E ⟨h, g, d, t, os⟩ := by
  have c0 : (Value.ref C :: bm).contains (.type B) = true := by
    rw [List.contains_cons, hT, F.hasB, Bool.or_true]
  have c1 := F.noStar
  simp only [checkBuiltinCall, F.newKind, F.newSplit, F.newRow]
  repeat (first
    | refine wpAny_loadPart_at hC ?_
    | (refine wpAny_isSubtype_exc hC ?_
       rw [c0])
    | refine wpAny_staticBase_exc hC ?_
    | refine wpAny_madeBy_exc hC ?_
    | simp only [bne_self_eq_false, Bool.false_eq_true, if_false]
    | wp_step)
  exact z

theorem newRunKw (F : ExcBaseFacts B newId initId bmB) (hT : ∀ Y : String, bm.contains (.type Y) = bmB.contains (.type Y)) {us : List Value} {kw : List (Str × Value)}
    (hC : h.get? C = some (excClassObj nm q C N bs bm hdct sn sub ab col dd k0 k1 k2 k3 k5 newId)) (hl : us.length ≤ sizeLine)
    (z : R (.ok (.ret (.ref (h.objs.size + 1)))) ⟨(h.push (W.kdv_tup us)).push (excO C h.objs.size), g, d, t, os⟩) :
    codeAny (model prog w) A (.builtin newId ⟨.ref C :: us, kw⟩) R ⟨h, g, d, t, os⟩ := by
  have e0 := F.ends
  have c0 : (Value.ref C :: bm).contains (.type B) = true := by
    rw [List.contains_cons, hT, F.hasB, Bool.or_true]
  have c1 : (Value.ref C :: bm).contains (.type "AttributeError") = false := by
    rw [List.contains_cons, hT, F.noAttr]
    rfl
  have c2 : (Value.ref C :: bm).contains (.type "NameError") = false := by
    rw [List.contains_cons, hT, F.noName]
    rfl
  refine codeAny_builtinAt F.entry ?_
  unfold Builtin.«BaseException.__new__»
  refine wpAt_bind ?_
  show wpAt _ _ _ (stack >>= _) _ _ _
  refine wpAt_bind (wpAt_stack fun p below => wpAt_of_wpAny ?_)
  wp_walk
  refine wpAt_of_wpAny ?_
  rw [F.owner]
  repeat (first
    | with_reducible refine wpAny_madeHere_exc F.canon hC ?_
    | with_reducible refine wpAny_loadPart_at hC ?_
    | (with_reducible refine wpAny_isSubtype_exc hC ?_
       first
         | rw [c0]
         | rw [c1]
         | rw [c2])
    | wp_step)
  show R _ _
  rw [Heap.size_push]
  exact z

theorem typeCallKw (F : ExcBaseFacts B newId initId bmB) (hT : ∀ Y : String, bm.contains (.type Y) = bmB.contains (.type Y)) {us : List Value} {kw : List (Str × Value)} {fI : Addr} {Q : Fin → Shared → Prop}
    (hC : h.get? C = some (excClassObj nm q C N bs bm hdct sn sub ab col dd k0 k1 k2 k3 k5 newId))
    (hi : W.Looks (model prog w) h (typeLookup (.ref C) "__init__") (some (.ref fI))) (hb : ∀ self, W.Looks (model prog w) h (bindSpecial (.ref fI) self) (.ref fI, [self])) (hl : us.length ≤ sizeLine)
    (z : codeAny (model prog w) A (.call (.ref fI) ⟨.ref (h.objs.size + 1) :: us, kw⟩)
      (fun r s' => match r with
        | .ok (.ret v) => v = .none ∧ Q (.done (.ret (.ref (h.objs.size + 1)))) s'
        | .ok _ => False
        | .error e => E e s')
      ⟨(h.push (W.kdv_tup us)).push (excO C h.objs.size), g, d, t, os⟩) :
    wpAny (model prog w) A (Builtin.«type.__call__» ⟨.ref C :: us, kw⟩) Q E ⟨h, g, d, t, os⟩ := by
  repeat (first
    | with_reducible refine wpAny_loadPart_at hC ?_
    | with_reducible refine wpAny_madeBy_exc hC ?_
    | wp_step)
  refine codeAny_call_builtin_code (Code.quiet_builtin _ F.quiet) (newCheckKw F hT hC ?_)
  refine newRunKw F hT hC hl ?_
  show wpAny _ _ _ _ _ _
  have kp : ∀ b o, h.get? b = some o → ((h.push (W.kdv_tup us)).push (excO C h.objs.size)).get? b = some o := fun b o e => Heap.get?_push_of_some _ (Heap.get?_push_of_some _ e)
  have hC1 := kp _ _ hC
  have hnew : ((h.push (W.kdv_tup us)).push (excO C h.objs.size)).get? (h.objs.size + 1) = some (excO C h.objs.size) := by
    heap_get
  have c3 : (Value.ref C :: bm).contains (.ref C) = true := by simp
  have i1 := hi.keeps kp
  have b1 := (hb (.ref (h.objs.size + 1))).keeps kp
  unfold isInstance
  repeat (first
    | with_reducible refine wpAny_loadPart_at hnew ?_
    | (with_reducible refine wpAny_isSubtype_exc hC1 ?_
       rw [c3])
    | wp_step)
  show wpAny _ _ (typeLookup (.ref C) _) _ _ _
  refine i1.at ?_
  refine wpAny_holding (wpAny_bind (b1.at ?_))
  refine wpAny_bind (wpAny_call (codeAny_mono z fun r s' y => ?_))
  rcases r with e | (v | _ | _ | _) <;> first | exact y | exact y.elim | skip
  obtain ⟨rfl, y⟩ := y
  first
    | exact wpAny_pure (wpAny_pure y)
    | (wp_walk
       exact y)

theorem callKw (F : ExcBaseFacts B newId initId bmB) (hT : ∀ Y : String, bm.contains (.type Y) = bmB.contains (.type Y)) {us : List Value} {kw : List (Str × Value)} {fI : Addr}
    (hC : h.get? C = some (excClassObj nm q C N bs bm hdct sn sub ab col dd k0 k1 k2 k3 k5 newId))
    (hi : W.Looks (model prog w) h (typeLookup (.ref C) "__init__") (some (.ref fI))) (hb : ∀ self, W.Looks (model prog w) h (bindSpecial (.ref fI) self) (.ref fI, [self])) (hl : us.length ≤ sizeLine)
    (z : codeAny (model prog w) (A.under (.builtin "type.__call__" ⟨.ref C :: us, kw⟩)) (.call (.ref fI) ⟨.ref (h.objs.size + 1) :: us, kw⟩) (W.InitBack (h.objs.size + 1) R)
      ⟨(h.push (W.kdv_tup us)).push (excO C h.objs.size), g, d, t, os⟩) :
    codeAny (model prog w) A (.call (.ref C) ⟨us, kw⟩) R ⟨h, g, d, t, os⟩ := by
  have f1 := tc_lookup
  have f2 := tc_bind (.ref C)
  have hTy : (⟨h, g, d, t, os⟩ : Shared).TypeIs (.ref C) "type" := ⟨_, hC, rfl⟩
  refine codeAny_of_tree ?_
  show wpAny _ _ (callAny (.ref C) _) _ _ _
  repeat (any_goals (first
    | assumption
    | with_reducible refine wpAny_loadPart_at hC ?_
    | wp_step))
  refine ⟨rfl, ?_⟩
  refine codeAny_call_builtin_at (Code.quiet_builtin _ (by decide +kernel)) entry_typeCall (wpAny_check_type_call_sub hC (typeCallKw F hT hC hi hb hl ?_))
  refine codeAny_mono z fun r s' y => ?_
  rcases r with e | (v | _ | _ | _) <;> exact y
end
end Tx
end PySem

set_option Elab.async false
set_option linter.all false
set_option maxRecDepth 100000
set_option maxHeartbeats 1000000
/-! Rules that speak of a new object without telling the heap: what stood stands (Same), the new one is at p. -/
namespace Tb
open PySem PySem.Spec PyProof.Rows L2
theorem same_upd {H : Hp} {p : Addr} {o : HO} (h : H p = none) : Same H (upd H p o) := fun b x e => by
  rw [upd_ne (ne_of_none e h)]
  exact e
theorem sql_upd {K : PySem.W.Frag} {H : Hp} {a p : Addr} {o : HO} {xs : List V} (h : SqL K H a xs) (ne : a ≠ p) : SqL K (upd H p o) a xs := by
  rcases h with (h | ⟨u, h⟩) | h
  · exact .inl (.inl (by rw [upd_ne ne]; exact h))
  · exact .inl (.inr ⟨u, by rw [upd_ne ne]; exact h⟩)
  · exact .inr h
theorem PE.weak {X : Cx} {e : Expr} {t t' : TE} (h : PE X e t) (w : ∀ σ H Q, t' σ H Q → t σ H Q) : PE X e t' := ⟨fun pins s σ H Q I z => h.run pins s σ H Q I (w σ H Q z)⟩
theorem PA.weak {X : Cx} {es : List Expr} {t t' : TA} (h : PA X es t) (w : ∀ σ H Q, t' σ H Q → t σ H Q) : PA X es t' := ⟨fun pos pins s σ H Q I z => h.run pos pins s σ H Q I (w σ H Q z)⟩
theorem OpR.weak {X : Cx} {f : Value → Value → Sem Value} {r r' : R2} (h : OpR X f r) (w : ∀ x y H Q, r' x y H Q → r x y H Q) : OpR X f r' := fun pins s σ H x y v u Q I rx ry z => h pins s σ H x y v u Q I rx ry (w x y H Q z)
theorem CallR.weak {X : Cx} {f : Value} {r r' : List V → Hp → VK → Prop} (h : CallR X f r) (w : ∀ xs H Q, r' xs H Q → r xs H Q) : CallR X f r' := fun pins s σ H xs us Q I rx z => h pins s σ H xs us Q I rx (w xs H Q z)
/-- what holds of a new object o -/
def New (H : Hp) (o : HO) (Q : VK) : Prop := ∀ p H', Same H H' → H p = none → H' p = some o → Q (.ref p) H'
theorem New.at {H : Hp} {o : HO} {Q : VK} (h : New H o Q) : ∀ p, H p = none → Q (.ref p) (upd H p o) := fun p np => h p _ (same_upd np) np upd_same
theorem tYes_if {A B : Hp → Prop} {σ : L2.St} {H : Hp} (h : A H) : tYes σ H (fun b H3 => if b = true then A H3 else B H3) := by
  show (if true = true then A H else B H)
  rw [if_pos rfl]
  exact h
section
variable {X : Cx} {es : List Expr} {t : TA} {p : Pos}
def tLstS (t : TA) : TE := fun σ H Q => t σ H fun xs H1 => xs.length ≤ sizeLine ∧ New H1 (.lst xs) Q
def tTupS (t : TA) : TE := fun σ H Q => t σ H fun xs H1 => xs.length ≤ sizeLine ∧ New H1 (.tup xs) Q
theorem PA.mono (h : PA X es t) : PA X es (fun σ H Q => ∃ R, t σ H R ∧ ∀ xs H1, R xs H1 → Q xs H1) := ⟨fun pos pins s σ H Q I ⟨R, z, m⟩ => thn (h.run pos pins s σ H R I z) fun us s1 ⟨vs, H1, I1, r1, q1⟩ => ⟨vs, H1, I1, r1, m vs H1 q1⟩⟩
theorem pe_lstS (h : PA X es t) : PE X (.List es p) (tLstS t) := PE.weak (pe_lst (PA.mono h)) fun σ H Q z => ⟨_, z, fun xs H1 q => ⟨q.1, q.2.at⟩⟩
theorem pe_tupS {k : Nat} (h : PA X es t) : PE X (.Tuple es k p) (tTupS t) := PE.weak (pe_tup (PA.mono h)) fun σ H Q z => ⟨_, z, fun xs H1 q => ⟨q.1, q.2.at⟩⟩
def rCatS : R2 := fun x y H Q => ∃ l b xs zs ys, x = .ref l ∧ y = .ref b ∧ H l = some (.lst xs) ∧ H b = some (.lst zs) ∧ xs.length + zs.length ≤ sizeLine ∧ xs ++ zs = ys ∧ New H (.lst ys) Q
theorem op_catS : OpR X (binaryOp .Add) rCatS := OpR.weak op_cat fun x y H Q ⟨l, b, xs, zs, ys, e1, e2, h1, h2, hl, e, h⟩ => ⟨l, b, xs, zs, e1, e2, h1, h2, hl, by rw [e]; exact h.at⟩
def rRepS : R2 := fun x y H Q => ∃ l k xs ys, x = .ref l ∧ y = .int k ∧ H l = some (.lst xs) ∧ -(2 ^ 63) ≤ k ∧ k < 2 ^ 63 ∧ xs.length * k.toNat ≤ sizeLine ∧ (List.replicate k.toNat xs).flatten = ys ∧ New H (.lst ys) Q
theorem op_repS : OpR X (binaryOp .Mult) rRepS := OpR.weak op_rep fun x y H Q ⟨l, k, xs, ys, e1, e2, h1, k0, k1, hl, e, h⟩ => ⟨l, k, xs, e1, e2, h1, k0, k1, hl, by rw [e]; exact h.at⟩
def tNewK : TE := fun _ H Q => New H (.dK []) Q
def tNewT : TE := fun _ H Q => New H (.dT []) Q
theorem pe_newK : PE X (.Dict [] [] p) tNewK := PE.weak pe_dnewK fun σ H Q z => z.at
theorem pe_newT : PE X (.Dict [] [] p) tNewT := PE.weak pe_dnewT fun σ H Q z => z.at
end
end Tb

set_option Elab.async false
set_option linter.all false
set_option maxRecDepth 100000
set_option maxHeartbeats 4000000
namespace Tx
open PySem PySem.Spec PyProof.Rows L2
/-- at a an exception of the class at C, whose one field f holds v -/
def IsEx (H : Hp) (a C : Addr) (f : Str) (v : V) : Prop := ∃ d, H a = some (exo a C (some d)) ∧ H d = some (exd d [(f, v)])
theorem IsEx.same {H H' : Hp} {a C : Addr} {f : Str} {v : V} (s : Same H H') (h : IsEx H a C f v) : IsEx H' a C f v := by
  obtain ⟨d, h1, h2⟩ := h
  exact ⟨d, s _ _ h1, s _ _ h2⟩
/-- what the written part says of such a class, for all that is done with it here -/
structure ExTxt (K : PySem.W.Frag) (mg : Str → Option Value) (nm : Str) (C : Addr) : Prop where
  ox : OexC K C
  xf : XfC K C
  g : mg nm = some (.ref C)
  ca : PySem.W.findIn K (.ref C) "__class__" = some (some (.builtin "object.__class__"))
  cn : PySem.W.specialIn K (.builtin "object.__class__") "__get__" = some (some (.builtin "getset_descriptor.__get__"))
  ct : PySem.W.takesIn K (.builtin "object.__class__") = some true
  cm : PySem.W.mroIn K C (.type "object") = some true
section
variable {X : Cx} {CX : CXT} {k : Nat} {fI C : Addr} {fd : FuncData} {ps ks : List Str} {sp : Sp} {x f : Str} {v : V} {p pos kpos : Pos} {e : Expr} {te : TE} {ta : TA} {tk : TA} {g : List Value → List Value → List Value} {gV : List V → List V → List V}
/-- an exception made, whatever the arguments are: its __init__ keeps sp -/
theorem run_ex {pins : List (Addr × Obj)} {σ : L2.St} {H : Hp} {s : Shared} {Q : VK} {us ws : List Value} {vs zs : List V} (T : OexC X.K C) (iC : PySem.W.findIn X.K (.ref C) "__init__" = some (some (.ref fI))) (tI : PySem.W.typeIn X.K (.ref fI) = some (.type "function"))
    (G1 : FnOk X.prog X.w X.K X.mg X.base CX0 k fI fd ps sp) (hr : Room (k + 1) X.A) (l0 : us.length ≤ 1000) (hb : ∀ (s' : Shared) (a : Addr), X.K.In s'.heap → BindsTo s' fd ⟨.ref a :: us, ks.zip ws⟩ (ps.zip (g (.ref a :: us) ws)))
    (rel : ∀ a : Addr, Vals (gV (.ref a :: vs) zs) (g (.ref a :: us) ws)) (I : Inv X pins σ H s)
    (h : ∀ a, H a = none → sp (gV (.ref a :: vs) zs) (upd H a (exo a C none)) (fun v H2 => v = .non ∧ Q (.ref a) H2) E0) :
    wpAny (model X.prog X.w) X.A (call (.ref C) us (ks.zip ws)) (EP X pins σ Q) X.xe s := by
  obtain ⟨nm, q, N, bs, bm, sn, sub, ab, col, dd, k0, k1, k2, k3, k5, hC, hbm⟩ := T.cls
  obtain ⟨hp, g0, dr, tk, os⟩ := s
  have hsz : hp.objs.size ≤ hp.objs.size + 1 := Nat.le_succ _
  have hn : H (hp.objs.size + 1) = none := I.hok.fresh hsz
  have hq := h (hp.objs.size + 1) hn
  have kk : ∀ b o, hp.get? b = some o → ((hp.push (PySem.W.kdv_tup us)).push (PySem.HandSPX.excO C hp.objs.size)).get? b = some o := fun b o e => Heap.get?_push_of_some _ (Heap.get?_push_of_some _ e)
  have hget : ((hp.push (PySem.W.kdv_tup us)).push (PySem.HandSPX.excO C hp.objs.size)).get? (hp.objs.size + 1) = some (PySem.HandSPX.excO C hp.objs.size) := by heap_get
  have I2 : Inv X pins σ (upd H (hp.objs.size + 1) (exo (hp.objs.size + 1) C none)) ⟨(hp.push (PySem.W.kdv_tup us)).push (PySem.HandSPX.excO C hp.objs.size), g0, dr, tk, os⟩ :=
    I.laid (t' := tk) (a := hp.objs.size + 1) (o := exo (hp.objs.size + 1) C none) (h' := (hp.push (PySem.W.kdv_tup us)).push (PySem.HandSPX.excO C hp.objs.size)) kk hsz (exo_ok hget)
  have hus : us.length ≤ sizeLine := by
    rw [sizeLine_eq]
    omega
  refine wpAny_call (PySem.Tx.callKw F.excBase_ValueError (fun Y => PySem.HandSPX.refsVE_contains Y bm hbm) (I.kIn _ _ hC) (PySem.W.looks_findIn I.kIn iC) (fun self => PySem.W.bind_fn I.kIn self tI) hus
    (codeAny_mono (G1.run _ X.stack _ _ ⟨Value.ref (hp.objs.size + 1) :: us, ks.zip ws⟩ (g (Value.ref (hp.objs.size + 1) :: us) ws) _ _ E0 (hr.make C us (ks.zip ws)) (I2.env0.make C us (ks.zip ws)) (hb _ _ I2.kIn) (rel _) hq) fun r s' hq' => ?_))
  cases r with
  | error er => exact pass0 pins σ _ _ er s' I2 hq'
  | ok fl =>
    cases fl with
    | ret u =>
      obtain ⟨v, H2, I3, rv, ev, q3⟩ := I2.after hq'
      subst ev
      exact ⟨rv, ⟨V.ref (hp.objs.size + 1), H2, I3, rfl, q3⟩⟩
    | next => exact False.elim hq'
    | brk => exact False.elim hq'
    | cont => exact False.elim hq'

/-- C(): no arguments, the __init__ stores nothing -/
def tEx0 (C : Addr) : TE := fun _ H Q => ∀ a, H a = none → Q (.ref a) (upd H a (exo a C none))
def spInit0 (C : Addr) : Sp := fun vs H Q _ => ∃ a, vs = [.ref a] ∧ Q .non H
theorem pe_ex0 {nm : Str} (T : ExTxt X.K X.mg nm C) (iC : PySem.W.findIn X.K (.ref C) "__init__" = some (some (.ref fI))) (tI : PySem.W.typeIn X.K (.ref fI) = some (.type "function"))
    (G1 : FnOk X.prog X.w X.K X.mg X.base CX0 k fI fd ["self"] (spInit0 C)) (hr : Room (k + 1) X.A) (hb : Binds X.K fd ["self"] []) (hg : Gl X nm) (hdb : (nm == ("__debug__" : Str)) = false := by decide) :
    PE X (.Call (.Name nm p) [] [] pos) (tEx0 C) := by
  refine ⟨fun pins s σ H Q I h => ?_⟩
  refine wpAny_Call_Name_kw (ld_glob I hg T.g ?_ hdb)
  refine PySem.W.callWith_K0 I.kIn T.ox.kC ?_
  show wpAny _ _ (call (.ref C) [] (([] : List Str).zip [])) _ _ _
  exact run_ex (us := []) (ws := []) (vs := []) (zs := []) (g := fun us _ => us) (gV := fun vs _ => vs) T.ox iC tI G1 hr (by decide) (fun s' a K' => hb s' [.ref a] K' rfl) (fun a => .cons rfl .nil) I fun a na => ⟨a, rfl, rfl, h a na⟩
/-- C(e), C(f = e): the __init__ stores e as the field f -/
def tEx (C : Addr) (f : Str) (te : TE) : TE := fun σ H Q => te σ H fun v H1 => ∀ a H2, Same H1 H2 → H1 a = none → IsEx H2 a C f v → Q (.ref a) H2
def spInit (C : Addr) (f : Str) : Sp := fun vs H Q _ => ∃ a v, vs = [.ref a, v] ∧ H a = some (exo a C none) ∧ ∀ d, H d = none → d ≠ a → Q .non (upd (upd H d (exd d [(f, v)])) a (exo a C (some d)))
theorem ex_of {H : Hp} {Q : VK} {v : V} {a : Addr} (na : H a = none) (h : ∀ a H2, Same H H2 → H a = none → IsEx H2 a C f v → Q (.ref a) H2) : spInit C f [.ref a, v] (upd H a (exo a C none)) (fun u H2 => u = .non ∧ Q (.ref a) H2) E0 := by
  refine ⟨a, v, rfl, upd_same, fun d hd ne => ⟨rfl, h a _ (fun b o e => ?_) na ⟨d, upd_same, by rw [upd_ne ne, upd_same]⟩⟩⟩
  have nb : b ≠ a := ne_of_none e na
  have nd : b ≠ d := ne_of_none (H := upd H a (exo a C none)) (o := o) (by rw [upd_ne nb]; exact e) hd
  rw [upd_ne nb, upd_ne nd, upd_ne nb]
  exact e
theorem pe_exp {nm : Str} (T : ExTxt X.K X.mg nm C) (iC : PySem.W.findIn X.K (.ref C) "__init__" = some (some (.ref fI))) (tI : PySem.W.typeIn X.K (.ref fI) = some (.type "function"))
    (G1 : FnOk X.prog X.w X.K X.mg X.base CX0 k fI fd ["self", f] (spInit C f)) (hr : Room (k + 1) X.A) (hb : Binds X.K fd ["self", f] []) (hg : Gl X nm) (he : PE X e te) (hdb : (nm == ("__debug__" : Str)) = false := by decide)
    (hs : starEach [e] X.env = (false, eval e X.env) :: starEach [] X.env := by rfl) :
    PE X (.Call (.Name nm p) [e] [] pos) (tEx C f te) := by
  refine ⟨fun pins s σ H Q I h => ?_⟩
  refine wpAny_Call_Name_kw (ld_glob I hg T.g ?_ hdb)
  refine PySem.W.callWith_K (h₀ := X.base) I.ok.mod.kin T.ox.kC ?_ hs (by rfl)
  rw [hs]
  show wpAny _ _ (spliced ((false, eval e X.env) :: backTo pos (starEach [] X.env))) _ _ s
  refine Calls.spliced_cons (thn (he.run pins s σ H _ I h) fun u s1 ⟨v, H1, I1, r1, q1⟩ => ?_)
  refine Calls.spliced_nil ⟨I1.kIn, ?_⟩
  show wpAny _ _ (call (.ref C) [u] (([] : List Str).zip [])) _ _ _
  exact run_ex (us := [u]) (ws := []) (vs := [v]) (zs := []) (g := fun us _ => us) (gV := fun vs _ => vs) T.ox iC tI G1 hr (by show 1 ≤ 1000; decide) (fun s' a K' => hb s' [.ref a, u] K' rfl) (fun a => .cons rfl (.cons r1 .nil)) I1 fun a na => ex_of na q1
theorem pe_exk {nm : Str} (T : ExTxt X.K X.mg nm C) (iC : PySem.W.findIn X.K (.ref C) "__init__" = some (some (.ref fI))) (tI : PySem.W.typeIn X.K (.ref fI) = some (.type "function"))
    (G1 : FnOk X.prog X.w X.K X.mg X.base CX0 k fI fd ["self", f] (spInit C f)) (hr : Room (k + 1) X.A) (hb : KBn X.K fd ["self", f] 1 [f] (fun us ws => us ++ ws) (fun vs zs => vs ++ zs)) (hg : Gl X nm) (he : PE X e te) (hdb : (nm == ("__debug__" : Str)) = false := by decide)
    (hall : (backToKw pos (keywordEach [⟨some f, e, kpos⟩] X.env)).all (·.1.isSome) = true := by rfl) (hks : (backToKw pos (keywordEach [⟨some f, e, kpos⟩] X.env)).filterMap (·.1) = [f] := by rfl)
    (hpl : ((backTo pos (starEach [] X.env)).any (·.1) || (backToKw pos (keywordEach [⟨some f, e, kpos⟩] X.env)).any (·.1.isNone)) = false := by rfl) :
    PE X (.Call (.Name nm p) [] [⟨some f, e, kpos⟩] pos) (tEx C f te) := by
  refine ⟨fun pins s σ H Q I h => ?_⟩
  refine wpAny_Call_Name_kw (ld_glob I hg T.g ?_ hdb)
  refine PySem.W.callWith_KW0 (h₀ := X.base) I.ok.mod.kin T.ox.kC hall ?_ hpl
  show wpAny _ _ (evalAll ((do let v ← eval e X.env; standAt pos; pure v) :: [])) _ _ s
  refine wpAny_evalAll_cons (wpAny_bind (thn (he.run pins s σ H _ I h) fun u s1 ⟨v, H1, I1, r1, q1⟩ => wpAny_bind (wpAny_standAt (wpAny_pure ?_))))
  refine wpAny_evalAll_nil ⟨I1.kIn, ?_⟩
  rw [hks]
  exact run_ex (us := []) (ws := [u]) (vs := []) (zs := [v]) (g := fun us ws => us ++ ws) (gV := fun vs zs => vs ++ zs) T.ox iC tI G1 hr (by decide) (fun s' a K' => hb.to s' [.ref a] [u] K' rfl rfl) (fun a => .cons rfl (.cons r1 .nil)) I1 fun a na => ex_of na q1
/-- e.f, e such an exception -/
def tExF (K : PySem.W.Frag) (mg : Str → Option Value) (f : Str) (te : TE) : TE := fun σ H Q => te σ H fun x H1 => ∃ (a C : Addr) (nm : Str) (v : V), x = .ref a ∧ ExTxt K mg nm C ∧ PySem.W.findIn K (.ref C) f = some none ∧ IsEx H1 a C f v ∧ Q v H1
theorem pe_exf (he : PE X e te) (hb : attributeBase e f X.env (eval e X.env) = eval e X.env := by rfl) : PE X (.Attribute e f pos) (tExF X.K X.mg f te) := by
  refine ⟨fun pins s σ H Q I h => ?_⟩
  refine attr_of hb (thn (he.run pins s σ H _ I h) fun u s1 hh => ?_)
  obtain ⟨x, H1, I1, rx, a, C, nm, v, ex, T, hno, ⟨d, ea, ed⟩, q⟩ := hh
  subst ex
  obtain rfl : u = Value.ref a := rx
  obtain ⟨t1, ho⟩ := exo_at I1.hok ea
  obtain ⟨mA, hns, hr⟩ := exd_at I1.hok ed
  obtain ⟨od, hod, hl⟩ := lookIn_ns hns
  obtain ⟨u, hu, ru⟩ := RelO.some_of (v := v) (o := mA f) (by
    have z := hr f
    rw [lookup_put, if_pos rfl] at z
    exact z)
  have J : PySem.W.InstAt s1.heap a ({ cls := .ref C, dict := some d, data := .fields #[.ref t1, .none, .none, .none, .bool false, .none] } : Obj) C (some od) := ⟨ho, rfl, rfl, hod⟩
  exact HandSPX.exc_get I1.kIn J T.xf.ga T.xf.gg T.xf.exC (PySem.W.findObj_own T.xf.hdC hno rfl (by rw [hl, hu])) (handed_of ru) ⟨v, H1, I1.tok _, ru, q⟩
/-- an exception of the class at C: with its field, without one, or of a class without __init__ -/
def Exn (H : Hp) (a C : Addr) : Prop := (∃ f v, IsEx H a C f v) ∨ H a = some (exo a C none) ∨ H a = some (ExO (.ref C) a)
theorem Exn.same {H H' : Hp} {a C : Addr} (s : Same H H') (h : Exn H a C) : Exn H' a C := by
  rcases h with ⟨f, v, h⟩ | h | h
  · exact .inl ⟨f, v, h.same s⟩
  · exact .inr (.inl (s _ _ h))
  · exact .inr (.inr (s _ _ h))
/-- isinstance(e, c), e such an exception -/
def rIsX (K : PySem.W.Frag) (mg : Str → Option Value) : List V → Hp → VK → Prop := fun xs H Q => ∃ (a C : Addr) (nm : Str) (c : V) (cv : Value) (b : Bool), xs = [.ref a, c] ∧ ExTxt K mg nm C ∧ Exn H a C ∧
  (∀ u, RelV c u → u = cv) ∧ PySem.W.kitOne K (.ref C) cv = some b ∧ Q (.bl b) H
theorem ExTxt.cls {K : PySem.W.Frag} {mg : Str → Option Value} {nm : Str} (T : ExTxt K mg nm C) : (PySem.W.clsIn K C).isSome = true := by
  obtain ⟨_, q, N, bs, bm, sn, sub, ab, col, dd, k0, k1, k2, k3, k5, hC, hbm⟩ := T.ox.cls
  unfold PySem.W.clsIn
  rw [hC]
  rfl
theorem call_isX : CallR X (.builtin "isinstance") (rIsX X.K X.mg) := by
  intro pins s σ H xs us Q I r h
  obtain ⟨a, C, nm, c, cv, b, rfl, T, ha, hcv, e, q⟩ := h
  cases r with
  | cons rx rr =>
    cases rr with
    | cons rt rr =>
      cases rr
      cases rx
      have ec := hcv _ rt
      subst ec
      rcases ha with ⟨f, v, d, ea, ed⟩ | ea | ea
      · obtain ⟨t1, ho⟩ := exo_at I.hok ea
        obtain ⟨mA, hns, hr⟩ := exd_at I.hok ed
        obtain ⟨od, hod, hl⟩ := lookIn_ns hns
        have J : PySem.W.InstAt s.heap a ({ cls := .ref C, dict := some d, data := .fields #[.ref t1, .none, .none, .none, .bool false, .none] } : Obj) C (some od) := ⟨ho, rfl, rfl, hod⟩
        exact PySem.W.kia_one (PySem.W.kitx_exc T.cls T.xf.ga T.xf.gg T.xf.exC T.ca T.cn T.ct T.cm) I.kIn J e (fun z => nomatch z) fun tk => ⟨.bl b, H, I.kept (t' := tk) fun _ _ z => z, rfl, q⟩
      · obtain ⟨t1, ho⟩ := exo_at I.hok ea
        have J : PySem.W.InstAt s.heap a ({ cls := .ref C, dict := none, data := .fields #[.ref t1, .none, .none, .none, .bool false, .none] } : Obj) C none := ⟨ho, rfl, rfl, trivial⟩
        exact PySem.W.kia_one (PySem.W.kitx_exc T.cls T.xf.ga T.xf.gg T.xf.exC T.ca T.cn T.ct T.cm) I.kIn J e (fun z => nomatch z) fun tk => ⟨.bl b, H, I.kept (t' := tk) fun _ _ z => z, rfl, q⟩
      · obtain ⟨⟨oe, vs, ho, hz, hd, h1, _⟩, _, _⟩ := I.hok a _ ea
        have J : PySem.W.InstAt s.heap a oe C none := by
          obtain ⟨oc, od, oda, osl⟩ := oe
          obtain ⟨h1, h2⟩ := hz
          dsimp only at h1 h2 hd
          subst h1 h2 hd
          exact ⟨ho, rfl, rfl, trivial⟩
        exact PySem.W.kia_one (PySem.W.kitx_exc T.cls T.xf.ga T.xf.gg T.xf.exC T.ca T.cn T.ct T.cm) I.kIn J e (fun z => nomatch z) fun tk => ⟨.bl b, H, I.kept (t' := tk) fun _ _ z => z, rfl, q⟩
/-- two values that are one by what is known of them are equal -/
theorem eqAt_one {A : Around} {s : Shared} {v : V} {u u' : Value} (r : RelV v u) (r' : RelV v u') (hv : ∀ b, v ≠ .flt b) : SeqAt.EqAt A s u u' true := by
  cases v with
  | ref a =>
    cases (show u = Value.ref a from r)
    cases (show u' = Value.ref a from r')
    exact SeqAt.EqAt.same _
  | flt b => exact absurd rfl (hv b)
  | ty n =>
    cases (show u = Value.type n from r)
    cases (show u' = Value.type n from r')
    exact SeqAt.EqAt.same _
  | non => exact eqAt_same r r' rfl
  | bl b => exact eqAt_same r r' rfl
  | int i => exact eqAt_same r r' rfl
  | str x => exact eqAt_same r r' rfl
  | byt b => exact eqAt_same r r' rfl
/-- xs != ys, two lists of the very same things -/
def rNeS (K : PySem.W.Frag) : R2 := fun x y H Q => ∃ a b xs, x = .ref a ∧ y = .ref b ∧ SqL K H a xs ∧ SqL K H b xs ∧ (∀ z ∈ xs, ∀ b, z ≠ V.flt b) ∧ Q (.bl false) H
theorem vals_get : ∀ {xs : List V} {us : List Value}, Vals xs us → ∀ (j : Nat) (h : j < us.length), ∃ x, x ∈ xs ∧ xs[j]? = some x ∧ RelV x us[j] := by
  intro xs us r
  induction r with
  | nil => intro j h; exact absurd h (Nat.not_lt_zero j)
  | @cons x u xs us h t ih =>
    intro j hj
    cases j with
    | zero => exact ⟨x, List.mem_cons_self, rfl, h⟩
    | succ j =>
      obtain ⟨y, hy, e, ry⟩ := ih j (Nat.lt_of_succ_lt_succ hj)
      exact ⟨y, List.mem_cons_of_mem _ hy, e, ry⟩
theorem op_neS (hu : X.A.units + 1 < cLine) : OpR X (compareOp .NotEq) (rNeS X.K) := by
  intro pins s σ H x y v u Q I rx ry h
  obtain ⟨a, b, xs, rfl, rfl, ha, hb, hf, q⟩ := h
  cases (show v = Value.ref a from rx)
  cases (show u = Value.ref b from ry)
  obtain ⟨us, r1, p1, _⟩ := I.list ha
  obtain ⟨ws, r2, p2, _⟩ := I.list hb
  have hsz : us.toArray.size = ws.toArray.size := by
    rw [List.size_toArray, List.size_toArray, ← r1.length, ← r2.length]
  have key := SeqAt.RcNeAt.lists (A := X.A) (s := s) (e := fun _ => true) p1.isList p2.isList hsz (by omega) (fun j h1 h2 => by
    obtain ⟨x1, m1, e1, q1⟩ := vals_get r1 j (by simpa using h1)
    obtain ⟨x2, _, e2, q2⟩ := vals_get r2 j (by simpa using h2)
    obtain rfl : x1 = x2 := Option.some.inj (e1.symm.trans e2)
    simpa using eqAt_one (A := X.A.in1) (s := s) q1 q2 (hf _ m1))
  refine key X.prog X.w _ _ ?_
  rw [show ((List.range us.toArray.size).all fun _ => true) = true from List.all_eq_true.mpr fun _ _ => rfl]
  exact ⟨.bl false, H, I, rfl, q⟩
/-- a ** b of greater numbers -/
theorem op_powB : OpR X (binaryOp .Pow) (rI (fun i j => 0 ≤ j ∧ (Builtin.Int.intBits i : Int) * j ≤ 2 ^ 27) fun i j => .int (i ^ j.toNat)) := opI fun _ _ _ _ _ _ _ hc q => pow_int hc.1 hc.2 q
/-- made exceptions, one behind another: their classes and fields are told, all hold v -/
def Exs (H : Hp) (v : V) : List Addr → List (Addr × Str) → Prop
  | [], [] => True
  | a :: as, (C, f) :: sp => IsEx H a C f v ∧ Exs H v as sp
  | _, _ => False
theorem Exs.same {H H' : Hp} (s : Same H H') {v : V} : ∀ {as : List Addr} {sp : List (Addr × Str)}, Exs H v as sp → Exs H' v as sp
  | [], [], _ => trivial
  | a :: as, (C, f) :: sp, h => ⟨h.1.same s, Exs.same s h.2⟩
  | [], _ :: _, h => h.elim
  | _ :: _, [], h => h.elim
theorem Exs.length {H : Hp} {v : V} : ∀ {as : List Addr} {sp : List (Addr × Str)}, Exs H v as sp → as.length = sp.length
  | [], [], _ => rfl
  | a :: as, (C, f) :: sp, h => congrArg (· + 1) (Exs.length h.2)
  | [], _ :: _, h => h.elim
  | _ :: _, [], h => h.elim
theorem Exs.append {H : Hp} {v : V} : ∀ {as : List Addr} {sp : List (Addr × Str)} {bs : List Addr} {tp : List (Addr × Str)}, Exs H v as sp → Exs H v bs tp → Exs H v (as ++ bs) (sp ++ tp)
  | [], [], _, _, _, k => k
  | a :: as, (C, f) :: sp, _, _, h, k => ⟨h.1, Exs.append h.2 k⟩
  | [], _ :: _, _, _, h, _ => h.elim
  | _ :: _, [], _, _, h, _ => h.elim
theorem Exs.get {H : Hp} {v : V} : ∀ {as : List Addr} {sp : List (Addr × Str)} {i : Nat} {C : Addr} {f : Str}, Exs H v as sp → sp[i]? = some (C, f) → ∃ a, as[i]? = some a ∧ IsEx H a C f v
  | [], [], i, C, f, _, e => by simp at e
  | a :: as, (D, g) :: sp, 0, C, f, h, e => by
    have e' : (D, g) = (C, f) := Option.some.inj e
    cases e'
    exact ⟨a, rfl, h.1⟩
  | a :: as, (D, g) :: sp, i + 1, C, f, h, e => Exs.get (i := i) h.2 e
  | [], _ :: _, _, _, _, h, _ => h.elim
  | _ :: _, [], _, _, _, h, _ => h.elim
def tMk (sl : Nat) (sp : List (Addr × Str)) : TA := fun σ H Q => ∃ v, σ[sl]? = some (some v) ∧ ∀ as H', Same H H' → Exs H' v as sp → Q (as.map V.ref) H'
theorem pa_mk0 {sl : Nat} : PA X [] (tMk sl []) := ⟨fun pos pins s σ H Q I ⟨v, _, h⟩ => (pa_nil (X := X)).run pos pins s σ H Q I (h [] H (Same.refl H) trivial)⟩
theorem pa_mk {sl : Nat} {es : List Expr} {sp : List (Addr × Str)} (he : PE X e (tEx C f (tVar sl))) (hs : PA X es (tMk sl sp)) (hq : starEach (e :: es) X.env = (false, eval e X.env) :: starEach es X.env := by rfl) : PA X (e :: es) (tMk sl ((C, f) :: sp)) :=
  ⟨fun pos pins s σ H Q I ⟨v, hv, h⟩ => (pa_cons he hs (hs := hq)).run pos pins s σ H Q I ⟨v, hv, fun a H2 s2 na hx => ⟨v, hv, fun as H3 s3 hxs => h (a :: as) H3 (s2.trans s3) ⟨hx.same s3, hxs⟩⟩⟩⟩
end
end Tx

set_option Elab.async false
set_option linter.all false
set_option maxRecDepth 100000
set_option maxHeartbeats 1000000
namespace Tb
open PySem PySem.Spec PyProof.Rows L2
def topS (i : Nat) : Stmt := PySem.Challenge.pw_textboxes_k17_errors_made.main.body.getD i (.Pass ⟨0, 0, 0, 0⟩)
abbrev sSource : Stmt := topS 16
abbrev sDraw : Stmt := topS 17
abbrev sPick : Stmt := topS 18
/-! ### the source of draws -/
/-- a list [great, seed, how many were drawn], of at most n draws -/
def SrcO (n : Nat) (o : HO) : Prop := ∃ g s c : Int, o = .lst [.int g, .int s, .int c] ∧ 0 ≤ g ∧ 0 ≤ s ∧ s < 2147483647 ∧ 0 ≤ c ∧ c ≤ n
section
variable {P : Program} {w : World} {K : PySem.W.Frag} {mg : Str → Option Value} {base : Heap}
theorem scSource : FnScope ["_law_script", "_law_great", "_law_seed", "_law_cell"] ["_law_script"] (defScope sSource) := ⟨rfl, rfl, rfl, by decide +kernel, rfl, by decide +kernel, by decide +kernel⟩
def spSource (K : PySem.W.Frag) : Sp := fun vs H Q _ => ∃ (a : Addr) (ns : List Int), vs = [.ref a] ∧ SqL K H a (ns.map V.int) ∧ ∀ p o H', Same H H' → H p = none → H' p = some o → SrcO 0 o → Q (.ref p) H'
theorem ok_source {f : Addr} {fd : FuncData} {k : Nat} (F : Fun K "_law_source" "_law_source" sSource f fd) (mi : mg "int" = none) : FnOk P w K mg base CX0 (k + 1) f fd ["_law_script"] (spSource K) := by
  refine F.ok scSource (fun vs H Q E h => ?_) (fun cdv A outer s H vs Q E hr h => ?_)
  · obtain ⟨a, ns, rfl, _⟩ := h
    rfl
  · obtain ⟨a, ns, rfl, hS, q⟩ := h
    refine ⟨_, pss_cons (ps_asg (pe_tup (pa_cons pe_int (pa_cons pe_int pa_nil))) (pg_tup (by rfl) (pgs_cons (pg_name (i := 1) scSource.nd rfl (.inl rfl)) (pgs_cons (pg_name (i := 2) scSource.nd rfl (.inl rfl)) pgs_nil))))
      (pss_cons (ps_for PassesOwn.never rfl (pi_list (pv 0)) (pg_name (i := 3) scSource.nd rfl (.inl rfl))
        (pss_cons (ps_if (PW.pt (pw_and (pt_cmpR op_eq (pv 1) pe_int (nomark _)) (pw_and1 (pt_cmpR op_ge (pv 3) (pe_op op_pow pe_int pe_int) (nomark _))))) (pss_one (ps_set (i := 1) scSource.nd rfl (.inl rfl) (pv 3))) pss_nil)
        (pss_one (ps_set (i := 2) scSource.nd rfl (.inl rfl) (pe_op op_mod (pe_callTy call_int1 (by rfl) mi (by decide +kernel) (pa_cons (pe_op op_add (pe_op op_add (pe_op op_mul (pv 2) pe_int) (pv 3)) pe_int) pa_nil)) pe_int)))))
      (pss_one (ps_ret (pe_lst (pa_cons (pv 1) (pa_cons (pv 2) (pa_cons pe_int pa_nil))))))), ?_⟩
    refine ⟨by show 2 ≤ sizeLine; decide, fun tp ntp => ⟨tp, _, rfl, .inl (.inl upd_same), rfl, _, _, rfl, _, _, rfl, rfl, ?_⟩⟩
    have s1 : Same H (upd H tp (.tup [.int 0, .int 17])) := same_upd ntp
    generalize upd H tp (.tup [.int 0, .int 17]) = H1 at s1
    refine ⟨_, rfl, a, rfl, ⟨_, s1.seq hS⟩, for_list (K := K) (a := a) (xs := ns.map V.int) (fun i σ H2 => H2 = H1 ∧ ∃ (g s : Int) (v : Option V), σ = [some (.ref a), some (.int g), some (.int s), v] ∧ 0 ≤ g ∧ 0 ≤ s ∧ s < 2147483647) ⟨rfl, 0, 17, none, rfl, by decide, by decide, by decide⟩ (fun i σ H2 _ z => by rw [z.1]; exact s1.seq hS) ?_ ?_⟩
    · rintro i y σ H2 hi ⟨rfl, g, sd, v, rfl, g0, s0, s2⟩
      obtain ⟨z, rfl⟩ : ∃ z, y = V.int z := by
        rw [List.getElem?_map] at hi
        cases e : ns[i]? with
        | none =>
          rw [e] at hi
          cases hi
        | some z =>
          rw [e] at hi
          exact ⟨z, (Option.some.inj hi).symm⟩
      have fin : ∀ g' : Int, 0 ≤ g' → tAsg
        (tOp (rI (fun x j => 0 < j) fun i j => V.int (i % j))
          (tCB (fun xs H Q => (∃ i, xs = [V.int i] ∧ Q (V.int i) H) ∨ ∃ k, xs = [V.bl k] ∧ Q (V.int (if k = true then 1 else 0)) H)
            (tCons (tOp (rI0 fun i j => V.int (i + j)) (tOp (rI0 fun i j => V.int (i + j)) (tOp (rI CMul fun i j => V.int (i * j)) (tVar 2) (tC (V.int 31))) (tVar 3)) (tC (V.int 7))) tNil))
          (tC (V.int 2147483647))) (gName 2) { nx := fun σ H3 => H3 = H2 ∧ ∃ g s v, σ = [some (V.ref a), some (V.int g), some (V.int s), v] ∧ 0 ≤ g ∧ 0 ≤ s ∧ s < 2147483647, rt := Q } [some (.ref a), some (.int g'), some (.int sd), some (.int z)] H2 := fun g' hg => by
        refine ⟨_, rfl, _, _, rfl, rfl, .inl ⟨by omega, by omega⟩, _, rfl, _, _, rfl, rfl, _, _, rfl, rfl, .inl ⟨_, rfl, ?_⟩⟩
        exact ⟨_, _, rfl, rfl, by show (0 : Int) < 2147483647; decide, rfl, g', _, some (.int z), rfl, hg, Int.emod_nonneg _ (by decide), Int.emod_lt_of_pos _ (by decide)⟩
      refine ⟨_, rfl, rfl, _, rfl, ite2 (fun e0 => ?_) (fun e0 => ?_)⟩
      · refine ⟨_, rfl, _, _, rfl, rfl, ⟨by decide, by decide, by decide⟩, _, _, rfl, rfl, _, rfl, ite2 (fun e1 => ?_) (fun e1 => fin g g0)⟩
        have hz : (10 : Int) ^ (18 : Int).toNat ≤ z := of_decide_eq_true e1
        have h10 : (0 : Int) ≤ (10 : Int) ^ (18 : Int).toNat := by decide
        exact ⟨_, rfl, fin z (by omega)⟩
      · exact fin g g0
    · rintro σ H2 ⟨rfl, g, sd, v, rfl, g0, s0, s2⟩
      refine ⟨_, rfl, _, rfl, by show 3 ≤ sizeLine; decide, fun p np => ?_⟩
      exact q p _ _ (s1.trans (same_upd np)) (s1.free np) upd_same ⟨g, sd, 0, rfl, g0, s0, s2, by decide, by decide⟩
theorem scDraw : FnScope ["_law_source_here", "_law_many", "_law_digit", "_law_mixed"] ["_law_source_here", "_law_many"] (defScope sDraw) := ⟨rfl, rfl, rfl, by decide +kernel, rfl, by decide +kernel, by decide +kernel⟩
def spDraw : Sp := fun vs H Q _ => ∃ (p : Addr) (m : Int) (n : Nat) (o : HO), vs = [.ref p, .int m] ∧ H p = some o ∧ SrcO n o ∧ n < 1000000 ∧ 0 < m ∧ m < 1073741824 ∧ ∀ d o', 0 ≤ d → d < m → SrcO (n + 1) o' → Q (.int d) (upd H p o')
theorem ok_draw {f : Addr} {fd : FuncData} {k : Nat} (F : Fun K "_law_draw" "_law_draw" sDraw f fd) (mi : mg "int" = none) : FnOk P w K mg base CX0 (k + 1) f fd ["_law_source_here", "_law_many"] spDraw := by
  refine F.ok scDraw (fun vs H Q E h => ?_) (fun cdv A outer s H vs Q E hr h => ?_)
  · obtain ⟨p, m, n, o, rfl, _⟩ := h
    rfl
  · obtain ⟨p, m, n, o, rfl, hp, ⟨g, sd, c, rfl, g0, s0, s1, c0, c1⟩, hn, m0, m1, q⟩ := h
    refine ⟨_, pss_cons (ps_asg (pe_op op_add (pe_ix ix_list (pv 0) pe_int (fun _ _ => rfl)) pe_int) (pg_sub (pv 0) pe_int set_list))
      (pss_cons (ps_if (pt_cmpR op_gt (pe_ix ix_list (pv 0) pe_int (fun _ _ => rfl)) pe_int (nomark _))
        (pss_cons (ps_set (i := 2) scDraw.nd rfl (.inl rfl) (pe_op op_mod (pe_callTy call_int1 (by rfl) mi (by decide +kernel) (pa_cons (pe_ix ix_list (pv 0) pe_int (fun _ _ => rfl)) pa_nil)) (pv 1)))
        (pss_cons (ps_asg (pe_op op_fdiv (pe_ix ix_list (pv 0) pe_int (fun _ _ => rfl)) (pv 1)) (pg_sub (pv 0) pe_int set_list))
        (pss_one (ps_ret (pv 2))))) pss_nil)
      (pss_cons (ps_set (i := 3) scDraw.nd rfl (.inl rfl) (pe_op op_mod (pe_op op_pow (pe_op op_add (pe_ix ix_list (pv 0) pe_int (fun _ _ => rfl)) (pe_op op_mul pe_int (pe_ix ix_list (pv 0) pe_int (fun _ _ => rfl)))) pe_int) pe_int))
      (pss_one (ps_ret (pe_op op_mod (pe_op op_mod (pe_op op_pow (pe_op op_add (pe_op op_add (pe_op op_mul (pv 3) pe_int) (pe_op op_mul (pe_op op_mul pe_int (pe_ix ix_list (pv 0) pe_int (fun _ _ => rfl))) (pe_ix ix_list (pv 0) pe_int (fun _ _ => rfl)))) pe_int) pe_int) pe_int) (pv 1)))))), ?_⟩
    -- one more was drawn
    refine ⟨_, rfl, p, _, _, _, rfl, rfl, SqL.of hp, atI_nat (j := 2) rfl, _, _, rfl, rfl, _, rfl, p, _, _, 2, rfl, rfl, hp, rfl, ?_⟩
    have h1 : (upd H p (.lst ([V.int g, .int sd, .int c].set 2 (.int (c + 1))))) p = some (.lst [V.int g, .int sd, .int (c + 1)]) := upd_same
    -- a great number gives its digits
    refine ⟨_, rfl, p, _, _, _, rfl, rfl, SqL.of h1, atI_nat (j := 0) rfl, _, _, rfl, rfl, _, rfl, ite2 (fun e0 => ?_) (fun e0 => ?_)⟩
    · have hg : (1 : Int) < g := of_decide_eq_true e0
      refine ⟨_, rfl, p, _, _, _, rfl, rfl, SqL.of h1, atI_nat (j := 0) rfl, .inl ⟨_, rfl, _, rfl, _, _, rfl, rfl, m0, ?_⟩⟩
      refine ⟨_, rfl, p, _, _, _, rfl, rfl, SqL.of h1, atI_nat (j := 0) rfl, _, rfl, _, _, rfl, rfl, ⟨m0, m1⟩, _, rfl, p, _, _, 0, rfl, rfl, h1, rfl, ?_⟩
      refine ⟨_, rfl, ?_⟩
      rw [upd_upd]
      exact q _ _ (Int.emod_nonneg _ (by omega)) (Int.emod_lt_of_pos _ m0) ⟨g / m, sd, c + 1, rfl, Int.ediv_nonneg g0 (by omega), s0, s1, by omega, by omega⟩
    · refine ⟨_, rfl, p, _, _, _, rfl, rfl, SqL.of h1, atI_nat (j := 1) rfl, _, rfl, p, _, _, _, rfl, rfl, SqL.of h1, atI_nat (j := 2) rfl, _, _, rfl, rfl, .inl ⟨by omega, by omega⟩, _, _, rfl, rfl, _, _, rfl, rfl, ⟨by decide, by decide, by omega⟩, _, _, rfl, rfl, by show (0 : Int) < 2147483629; decide, ?_⟩
      have x0 : 0 ≤ (sd + 7919 * (c + 1)) ^ (5 : Int).toNat % 2147483629 := Int.emod_nonneg _ (by decide)
      have x1 : (sd + 7919 * (c + 1)) ^ (5 : Int).toNat % 2147483629 < 2147483629 := Int.emod_lt_of_pos _ (by decide)
      generalize (sd + 7919 * (c + 1)) ^ (5 : Int).toNat % 2147483629 = x at x0 x1
      have y0 : 0 ≤ (c + 1) * (c + 1) := Int.mul_nonneg (by omega) (by omega)
      have y1 : (c + 1) * (c + 1) ≤ 1000000 * 1000000 := Int.mul_le_mul (by omega) (by omega) (by omega) (by decide)
      have e : 16807 * (c + 1) * (c + 1) = 16807 * ((c + 1) * (c + 1)) := Int.mul_assoc _ _ _
      refine ⟨_, rfl, _, _, rfl, rfl, .inl ⟨by omega, by omega⟩, _, rfl, p, _, _, _, rfl, rfl, SqL.of h1, atI_nat (j := 2) rfl, _, _, rfl, rfl, .inl ⟨by decide, by decide⟩, _, rfl, p, _, _, _, rfl, rfl, SqL.of h1, atI_nat (j := 2) rfl, _, _, rfl, rfl, .inr ⟨by omega, by omega⟩, _, _, rfl, rfl, _, _, rfl, rfl, _, _, rfl, rfl, ⟨by decide, by decide, by omega⟩, _, _, rfl, rfl, by show (0 : Int) < 1000000007; decide, _, rfl, _, _, rfl, rfl, m0, ?_⟩
      exact q _ _ (Int.emod_nonneg _ (by omega)) (Int.emod_lt_of_pos _ m0) ⟨g, sd, c + 1, rfl, g0, s0, s1, by omega, by omega⟩
theorem scPick : FnScope ["_law_source_here", "_law_things"] ["_law_source_here", "_law_things"] (defScope sPick) := ⟨rfl, rfl, rfl, by decide +kernel, rfl, by decide +kernel, by decide +kernel⟩
/-- one of a list's things -/
def spPick (K : PySem.W.Frag) : Sp := fun vs H Q _ => ∃ (p t : Addr) (xs : List V) (n : Nat) (o : HO), vs = [.ref p, .ref t] ∧ H p = some o ∧ SrcO n o ∧ n < 1000000 ∧ SqL K H t xs ∧ t ≠ p ∧ 0 < xs.length ∧ xs.length < 1073741824 ∧ ∀ x o', x ∈ xs → SrcO (n + 1) o' → Q x (upd H p o')
theorem ok_pick {f f2 : Addr} {fd fd2 : FuncData} {k : Nat} (F : Fun K "_law_pick" "_law_pick" sPick f fd) (G2 : FnOk P w K mg base CX0 (k + 1) f2 fd2 ["_law_source_here", "_law_many"] spDraw) (b2 : Binds K fd2 ["_law_source_here", "_law_many"] []) (k2 : PySem.W.keepIn K (.ref f2) = true)
    (m2 : mg "_law_draw" = some (.ref f2)) (ml : mg "len" = none) : FnOk P w K mg base CX0 (k + 2) f fd ["_law_source_here", "_law_things"] (spPick K) := by
  refine F.ok scPick (fun vs H Q E h => ?_) (fun cdv A outer s H vs Q E hr h => ?_)
  · obtain ⟨p, t, xs, n, o, rfl, _⟩ := h
    rfl
  · obtain ⟨p, t, xs, n, o, rfl, hp, ho, hn, ht, ne, l0, l1, q⟩ := h
    refine ⟨_, pss_one (ps_ret (pe_ix ix_list (pv 1) (pe_call G2 hr (by rfl) m2 k2 b2 .nil pass0 (pa_cons (pv 0) (pa_cons (pe_callB call_len_seq (by rfl) ml PySem.boot_len (pa_cons (pv 1) pa_nil)) pa_nil))) (fun _ _ => rfl))), ?_⟩
    refine ⟨_, rfl, _, rfl, _, rfl, t, xs, rfl, .inl ht, p, _, n, o, rfl, hp, ho, hn, by omega, by omega, fun d o' d0 d1 ho' => ?_⟩
    have hd : d.toNat < xs.length := by omega
    refine ⟨t, xs, d, xs[d.toNat], rfl, rfl, sql_upd ht ne, ?_, ?_⟩
    · have e := atI_nat (xs := xs) (j := d.toNat) (List.getElem?_eq_getElem hd)
      rw [Int.toNat_of_nonneg d0] at e
      exact e
    · exact q _ _ (List.getElem_mem hd) ho'
end
end Tb

set_option Elab.async false
set_option linter.all false
set_option maxRecDepth 100000
set_option maxHeartbeats 4000000
namespace Tb
open PySem PySem.Spec PyProof.Rows L2 Tx
abbrev sKinds : Stmt := topS 19
abbrev sLaw : Stmt := topS 20
/-- a class with one field and its __init__ -/
structure Cl (K : PySem.W.Frag) (mg : Str → Option Value) (nm f q : Str) (st : Stmt) (C fI : Addr) (fd : FuncData) : Prop where
  T : ExTxt K mg nm C
  iC : PySem.W.findIn K (.ref C) "__init__" = some (some (.ref fI))
  tI : PySem.W.typeIn K (.ref fI) = some (.type "function")
  F : Fun K "__init__" q st fI fd
  no : PySem.W.findIn K (.ref C) f = some none
  b : Binds K fd ["self", f] []
  kb : KBn K fd ["self", f] 1 [f] (fun us ws => us ++ ws) (fun vs zs => vs ++ zs)
structure Cl0 (K : PySem.W.Frag) (mg : Str → Option Value) (nm q : Str) (st : Stmt) (C fI : Addr) (fd : FuncData) : Prop where
  T : ExTxt K mg nm C
  iC : PySem.W.findIn K (.ref C) "__init__" = some (some (.ref fI))
  tI : PySem.W.typeIn K (.ref fI) = some (.type "function")
  F : Fun K "__init__" q st fI fd
  b : Binds K fd ["self"] []
section
variable {P : Program} {w : World} {K : PySem.W.Frag} {mg : Str → Option Value} {base : Heap}

abbrev sI0 : Stmt := inClass (topS 2) 0
theorem scI0 : FnScope ["self", "part"] ["self", "part"] (defScope sI0) := ⟨rfl, rfl, rfl, by decide +kernel, rfl, by decide +kernel, by decide +kernel⟩
theorem ok_i0 {C fI : Addr} {fd : FuncData} (c : Cl K mg "BadProgram" "part" "BadProgram.__init__" sI0 C fI fd) : FnOk P w K mg base CX0 1 fI fd ["self", "part"] (spInit C "part") := by
  refine c.F.ok scI0 (fun vs H Q E h => ?_) (fun cdv A outer s H vs Q E hr h => ?_)
  · obtain ⟨a, v, rfl, _⟩ := h
    rfl
  · obtain ⟨a, v, rfl, ha, q⟩ := h
    refine ⟨_, pss_one (ps_ost (pv 0) (pv 1)), ?_⟩
    exact ⟨_, rfl, _, rfl, a, C, rfl, c.T.ox, c.no, .inl ⟨ha, fun d hd ne => q d hd ne⟩⟩
abbrev sI1 : Stmt := inClass (topS 3) 0
theorem scI1 : FnScope ["self", "line"] ["self", "line"] (defScope sI1) := ⟨rfl, rfl, rfl, by decide +kernel, rfl, by decide +kernel, by decide +kernel⟩
theorem ok_i1 {C fI : Addr} {fd : FuncData} (c : Cl K mg "BadText" "line" "BadText.__init__" sI1 C fI fd) : FnOk P w K mg base CX0 1 fI fd ["self", "line"] (spInit C "line") := by
  refine c.F.ok scI1 (fun vs H Q E h => ?_) (fun cdv A outer s H vs Q E hr h => ?_)
  · obtain ⟨a, v, rfl, _⟩ := h
    rfl
  · obtain ⟨a, v, rfl, ha, q⟩ := h
    refine ⟨_, pss_one (ps_ost (pv 0) (pv 1)), ?_⟩
    exact ⟨_, rfl, _, rfl, a, C, rfl, c.T.ox, c.no, .inl ⟨ha, fun d hd ne => q d hd ne⟩⟩
abbrev sI2 : Stmt := inClass (topS 4) 0
theorem scI2 : FnScope ["self", "letter"] ["self", "letter"] (defScope sI2) := ⟨rfl, rfl, rfl, by decide +kernel, rfl, by decide +kernel, by decide +kernel⟩
theorem ok_i2 {C fI : Addr} {fd : FuncData} (c : Cl K mg "NotLetter" "letter" "NotLetter.__init__" sI2 C fI fd) : FnOk P w K mg base CX0 1 fI fd ["self", "letter"] (spInit C "letter") := by
  refine c.F.ok scI2 (fun vs H Q E h => ?_) (fun cdv A outer s H vs Q E hr h => ?_)
  · obtain ⟨a, v, rfl, _⟩ := h
    rfl
  · obtain ⟨a, v, rfl, ha, q⟩ := h
    refine ⟨_, pss_one (ps_ost (pv 0) (pv 1)), ?_⟩
    exact ⟨_, rfl, _, rfl, a, C, rfl, c.T.ox, c.no, .inl ⟨ha, fun d hd ne => q d hd ne⟩⟩
abbrev sI3 : Stmt := inClass (topS 5) 0
theorem scI3 : FnScope ["self", "letter"] ["self", "letter"] (defScope sI3) := ⟨rfl, rfl, rfl, by decide +kernel, rfl, by decide +kernel, by decide +kernel⟩
theorem ok_i3 {C fI : Addr} {fd : FuncData} (c : Cl K mg "BadLetters" "letter" "BadLetters.__init__" sI3 C fI fd) : FnOk P w K mg base CX0 1 fI fd ["self", "letter"] (spInit C "letter") := by
  refine c.F.ok scI3 (fun vs H Q E h => ?_) (fun cdv A outer s H vs Q E hr h => ?_)
  · obtain ⟨a, v, rfl, _⟩ := h
    rfl
  · obtain ⟨a, v, rfl, ha, q⟩ := h
    refine ⟨_, pss_one (ps_ost (pv 0) (pv 1)), ?_⟩
    exact ⟨_, rfl, _, rfl, a, C, rfl, c.T.ox, c.no, .inl ⟨ha, fun d hd ne => q d hd ne⟩⟩
abbrev sI4 : Stmt := inClass (topS 6) 0
theorem scI4 : FnScope ["self", "letter"] ["self", "letter"] (defScope sI4) := ⟨rfl, rfl, rfl, by decide +kernel, rfl, by decide +kernel, by decide +kernel⟩
theorem ok_i4 {C fI : Addr} {fd : FuncData} (c : Cl K mg "OtherLetters" "letter" "OtherLetters.__init__" sI4 C fI fd) : FnOk P w K mg base CX0 1 fI fd ["self", "letter"] (spInit C "letter") := by
  refine c.F.ok scI4 (fun vs H Q E h => ?_) (fun cdv A outer s H vs Q E hr h => ?_)
  · obtain ⟨a, v, rfl, _⟩ := h
    rfl
  · obtain ⟨a, v, rfl, ha, q⟩ := h
    refine ⟨_, pss_one (ps_ost (pv 0) (pv 1)), ?_⟩
    exact ⟨_, rfl, _, rfl, a, C, rfl, c.T.ox, c.no, .inl ⟨ha, fun d hd ne => q d hd ne⟩⟩
abbrev sI5 : Stmt := inClass (topS 7) 0
theorem scI5 : FnScope ["self", "what"] ["self", "what"] (defScope sI5) := ⟨rfl, rfl, rfl, by decide +kernel, rfl, by decide +kernel, by decide +kernel⟩
theorem ok_i5 {C fI : Addr} {fd : FuncData} (c : Cl K mg "TooMany" "what" "TooMany.__init__" sI5 C fI fd) : FnOk P w K mg base CX0 1 fI fd ["self", "what"] (spInit C "what") := by
  refine c.F.ok scI5 (fun vs H Q E h => ?_) (fun cdv A outer s H vs Q E hr h => ?_)
  · obtain ⟨a, v, rfl, _⟩ := h
    rfl
  · obtain ⟨a, v, rfl, ha, q⟩ := h
    refine ⟨_, pss_one (ps_ost (pv 0) (pv 1)), ?_⟩
    exact ⟨_, rfl, _, rfl, a, C, rfl, c.T.ox, c.no, .inl ⟨ha, fun d hd ne => q d hd ne⟩⟩
abbrev sI6 : Stmt := inClass (topS 8) 0
theorem scI6 : FnScope ["self", "place"] ["self", "place"] (defScope sI6) := ⟨rfl, rfl, rfl, by decide +kernel, rfl, by decide +kernel, by decide +kernel⟩
theorem ok_i6 {C fI : Addr} {fd : FuncData} (c : Cl K mg "BadTable" "place" "BadTable.__init__" sI6 C fI fd) : FnOk P w K mg base CX0 1 fI fd ["self", "place"] (spInit C "place") := by
  refine c.F.ok scI6 (fun vs H Q E h => ?_) (fun cdv A outer s H vs Q E hr h => ?_)
  · obtain ⟨a, v, rfl, _⟩ := h
    rfl
  · obtain ⟨a, v, rfl, ha, q⟩ := h
    refine ⟨_, pss_one (ps_ost (pv 0) (pv 1)), ?_⟩
    exact ⟨_, rfl, _, rfl, a, C, rfl, c.T.ox, c.no, .inl ⟨ha, fun d hd ne => q d hd ne⟩⟩
abbrev sI7 : Stmt := inClass (topS 9) 0
theorem scI7 : FnScope ["self", "box"] ["self", "box"] (defScope sI7) := ⟨rfl, rfl, rfl, by decide +kernel, rfl, by decide +kernel, by decide +kernel⟩
theorem ok_i7 {C fI : Addr} {fd : FuncData} (c : Cl K mg "BadBox" "box" "BadBox.__init__" sI7 C fI fd) : FnOk P w K mg base CX0 1 fI fd ["self", "box"] (spInit C "box") := by
  refine c.F.ok scI7 (fun vs H Q E h => ?_) (fun cdv A outer s H vs Q E hr h => ?_)
  · obtain ⟨a, v, rfl, _⟩ := h
    rfl
  · obtain ⟨a, v, rfl, ha, q⟩ := h
    refine ⟨_, pss_one (ps_ost (pv 0) (pv 1)), ?_⟩
    exact ⟨_, rfl, _, rfl, a, C, rfl, c.T.ox, c.no, .inl ⟨ha, fun d hd ne => q d hd ne⟩⟩
abbrev sI8 : Stmt := inClass (topS 12) 0
theorem scI8 : FnScope ["self", "index"] ["self", "index"] (defScope sI8) := ⟨rfl, rfl, rfl, by decide +kernel, rfl, by decide +kernel, by decide +kernel⟩
theorem ok_i8 {C fI : Addr} {fd : FuncData} (c : Cl K mg "BadGreat" "index" "BadGreat.__init__" sI8 C fI fd) : FnOk P w K mg base CX0 1 fI fd ["self", "index"] (spInit C "index") := by
  refine c.F.ok scI8 (fun vs H Q E h => ?_) (fun cdv A outer s H vs Q E hr h => ?_)
  · obtain ⟨a, v, rfl, _⟩ := h
    rfl
  · obtain ⟨a, v, rfl, ha, q⟩ := h
    refine ⟨_, pss_one (ps_ost (pv 0) (pv 1)), ?_⟩
    exact ⟨_, rfl, _, rfl, a, C, rfl, c.T.ox, c.no, .inl ⟨ha, fun d hd ne => q d hd ne⟩⟩
abbrev sI9 : Stmt := inClass (topS 13) 0
theorem scI9 : FnScope ["self", "number"] ["self", "number"] (defScope sI9) := ⟨rfl, rfl, rfl, by decide +kernel, rfl, by decide +kernel, by decide +kernel⟩
theorem ok_i9 {C fI : Addr} {fd : FuncData} (c : Cl K mg "BadPiece" "number" "BadPiece.__init__" sI9 C fI fd) : FnOk P w K mg base CX0 1 fI fd ["self", "number"] (spInit C "number") := by
  refine c.F.ok scI9 (fun vs H Q E h => ?_) (fun cdv A outer s H vs Q E hr h => ?_)
  · obtain ⟨a, v, rfl, _⟩ := h
    rfl
  · obtain ⟨a, v, rfl, ha, q⟩ := h
    refine ⟨_, pss_one (ps_ost (pv 0) (pv 1)), ?_⟩
    exact ⟨_, rfl, _, rfl, a, C, rfl, c.T.ox, c.no, .inl ⟨ha, fun d hd ne => q d hd ne⟩⟩
abbrev sI10 : Stmt := inClass (topS 10) 0
theorem scI10 : FnScope ["self", "letter"] ["self", "letter"] (defScope sI10) := ⟨rfl, rfl, rfl, by decide +kernel, rfl, by decide +kernel, by decide +kernel⟩
theorem ok_i10 {C fI : Addr} {fd : FuncData} (c : Cl K mg "BadWorths" "letter" "BadWorths.__init__" sI10 C fI fd) : FnOk P w K mg base CX0 1 fI fd ["self", "letter"] (spInit C "letter") := by
  refine c.F.ok scI10 (fun vs H Q E h => ?_) (fun cdv A outer s H vs Q E hr h => ?_)
  · obtain ⟨a, v, rfl, _⟩ := h
    rfl
  · obtain ⟨a, v, rfl, ha, q⟩ := h
    refine ⟨_, pss_one (ps_ost (pv 0) (pv 1)), ?_⟩
    exact ⟨_, rfl, _, rfl, a, C, rfl, c.T.ox, c.no, .inl ⟨ha, fun d hd ne => q d hd ne⟩⟩
abbrev sI11 : Stmt := inClass (topS 11) 0
theorem scI11 : FnScope ["self", "number"] ["self", "number"] (defScope sI11) := ⟨rfl, rfl, rfl, by decide +kernel, rfl, by decide +kernel, by decide +kernel⟩
theorem ok_i11 {C fI : Addr} {fd : FuncData} (c : Cl K mg "BadNumber" "number" "BadNumber.__init__" sI11 C fI fd) : FnOk P w K mg base CX0 1 fI fd ["self", "number"] (spInit C "number") := by
  refine c.F.ok scI11 (fun vs H Q E h => ?_) (fun cdv A outer s H vs Q E hr h => ?_)
  · obtain ⟨a, v, rfl, _⟩ := h
    rfl
  · obtain ⟨a, v, rfl, ha, q⟩ := h
    refine ⟨_, pss_one (ps_ost (pv 0) (pv 1)), ?_⟩
    exact ⟨_, rfl, _, rfl, a, C, rfl, c.T.ox, c.no, .inl ⟨ha, fun d hd ne => q d hd ne⟩⟩
abbrev sI12 : Stmt := inClass (topS 14) 0
theorem scI12 : FnScope ["self"] ["self"] (defScope sI12) := ⟨rfl, rfl, rfl, by decide +kernel, rfl, by decide +kernel, by decide +kernel⟩
theorem ok_i12 {C fI : Addr} {fd : FuncData} (c : Cl0 K mg "NoDeed" "NoDeed.__init__" sI12 C fI fd) : FnOk P w K mg base CX0 1 fI fd ["self"] (spInit0 C) := by
  refine c.F.ok scI12 (fun vs H Q E h => ?_) (fun cdv A outer s H vs Q E hr h => ?_)
  · obtain ⟨a, rfl, _⟩ := h
    rfl
  · obtain ⟨a, rfl, q⟩ := h
    exact ⟨_, pss_one ps_pass, q⟩
/-! ### which of the classes an error is of -/
def Kit (K : PySem.W.Frag) (C : Addr) : List Addr → List Bool → Prop
  | [], [] => True
  | c :: cs, b :: bs => PySem.W.kitOne K (.ref C) (.ref c) = some b ∧ Kit K C cs bs
  | _, _ => False
def spKinds (K : PySem.W.Frag) (mg : Str → Option Value) (cs : List Addr) : Sp := fun vs H Q _ => ∃ (a C : Addr) (nm : Str) (bs : List Bool), vs = [.ref a] ∧ ExTxt K mg nm C ∧ Exn H a C ∧ Kit K C cs bs ∧ ∀ H' p, Same H H' → H p = none → H' p = some (.lst (bs.map V.bl)) → Q (.ref p) H'
theorem scKinds : FnScope ["_law_e", "_law_found"] ["_law_e"] (defScope sKinds) := ⟨rfl, rfl, rfl, by decide +kernel, rfl, by decide +kernel, by decide +kernel⟩
theorem ok_kinds {C0 C1 C2 C3 C4 C5 C6 C7 C8 C9 C10 C11 C12 f : Addr} {fd : FuncData} {k : Nat} (F : Fun K "_law_kinds" "_law_kinds" sKinds f fd) (g0 : mg "BadProgram" = some (.ref C0)) (g1 : mg "BadText" = some (.ref C1)) (g2 : mg "NotLetter" = some (.ref C2)) (g3 : mg "BadLetters" = some (.ref C3)) (g4 : mg "OtherLetters" = some (.ref C4)) (g5 : mg "TooMany" = some (.ref C5)) (g6 : mg "BadTable" = some (.ref C6)) (g7 : mg "BadBox" = some (.ref C7)) (g8 : mg "BadGreat" = some (.ref C8)) (g9 : mg "BadPiece" = some (.ref C9)) (g10 : mg "BadWorths" = some (.ref C10)) (g11 : mg "BadNumber" = some (.ref C11)) (g12 : mg "NoDeed" = some (.ref C12)) (mIs : mg "isinstance" = none) : FnOk P w K mg base CX0 (k + 1) f fd ["_law_e"] (spKinds K mg [C0, C1, C2, C3, C4, C5, C6, C7, C8, C9, C10, C11, C12]) := by
  refine F.ok scKinds (fun vs H Q E h => ?_) (fun cdv A outer s H vs Q E hr h => ?_)
  · obtain ⟨a, C, nm, bs, rfl, _⟩ := h
    rfl
  · obtain ⟨a, C, nm, bs, rfl, T, ha, hk, q⟩ := h
    obtain ⟨b0, b1, b2, b3, b4, b5, b6, b7, b8, b9, b10, b11, b12, rfl, k0, k1, k2, k3, k4, k5, k6, k7, k8, k9, k10, k11, k12⟩ : ∃ b0 b1 b2 b3 b4 b5 b6 b7 b8 b9 b10 b11 b12, bs = [b0, b1, b2, b3, b4, b5, b6, b7, b8, b9, b10, b11, b12] ∧ PySem.W.kitOne K (.ref C) (.ref C0) = some b0 ∧ PySem.W.kitOne K (.ref C) (.ref C1) = some b1 ∧ PySem.W.kitOne K (.ref C) (.ref C2) = some b2 ∧ PySem.W.kitOne K (.ref C) (.ref C3) = some b3 ∧ PySem.W.kitOne K (.ref C) (.ref C4) = some b4 ∧ PySem.W.kitOne K (.ref C) (.ref C5) = some b5 ∧ PySem.W.kitOne K (.ref C) (.ref C6) = some b6 ∧ PySem.W.kitOne K (.ref C) (.ref C7) = some b7 ∧ PySem.W.kitOne K (.ref C) (.ref C8) = some b8 ∧ PySem.W.kitOne K (.ref C) (.ref C9) = some b9 ∧ PySem.W.kitOne K (.ref C) (.ref C10) = some b10 ∧ PySem.W.kitOne K (.ref C) (.ref C11) = some b11 ∧ PySem.W.kitOne K (.ref C) (.ref C12) = some b12 :=
      match bs, hk with
      | [b0, b1, b2, b3, b4, b5, b6, b7, b8, b9, b10, b11, b12], ⟨k0, k1, k2, k3, k4, k5, k6, k7, k8, k9, k10, k11, k12, _⟩ => ⟨b0, b1, b2, b3, b4, b5, b6, b7, b8, b9, b10, b11, b12, rfl, k0, k1, k2, k3, k4, k5, k6, k7, k8, k9, k10, k11, k12⟩
    refine ⟨_, pss_cons (ps_set (i := 1) scKinds.nd rfl (.inl rfl) (pe_lstS (pa_cons (pe_callB call_isX (by rfl) mIs PyProof.Rows.boot_isinstance (pa_cons (pv 0) (pa_cons (pe_glob (v := .ref C0) rfl g0 rfl) pa_nil))) (pa_cons (pe_callB call_isX (by rfl) mIs PyProof.Rows.boot_isinstance (pa_cons (pv 0) (pa_cons (pe_glob (v := .ref C1) rfl g1 rfl) pa_nil))) (pa_cons (pe_callB call_isX (by rfl) mIs PyProof.Rows.boot_isinstance (pa_cons (pv 0) (pa_cons (pe_glob (v := .ref C2) rfl g2 rfl) pa_nil))) (pa_cons (pe_callB call_isX (by rfl) mIs PyProof.Rows.boot_isinstance (pa_cons (pv 0) (pa_cons (pe_glob (v := .ref C3) rfl g3 rfl) pa_nil))) pa_nil))))))
      (pss_cons (ps_set (i := 1) scKinds.nd rfl (.inl rfl) (pe_op op_catS (pv 1) (pe_lstS (pa_cons (pe_callB call_isX (by rfl) mIs PyProof.Rows.boot_isinstance (pa_cons (pv 0) (pa_cons (pe_glob (v := .ref C4) rfl g4 rfl) pa_nil))) (pa_cons (pe_callB call_isX (by rfl) mIs PyProof.Rows.boot_isinstance (pa_cons (pv 0) (pa_cons (pe_glob (v := .ref C5) rfl g5 rfl) pa_nil))) (pa_cons (pe_callB call_isX (by rfl) mIs PyProof.Rows.boot_isinstance (pa_cons (pv 0) (pa_cons (pe_glob (v := .ref C6) rfl g6 rfl) pa_nil))) pa_nil))))))
      (pss_cons (ps_set (i := 1) scKinds.nd rfl (.inl rfl) (pe_op op_catS (pv 1) (pe_lstS (pa_cons (pe_callB call_isX (by rfl) mIs PyProof.Rows.boot_isinstance (pa_cons (pv 0) (pa_cons (pe_glob (v := .ref C7) rfl g7 rfl) pa_nil))) (pa_cons (pe_callB call_isX (by rfl) mIs PyProof.Rows.boot_isinstance (pa_cons (pv 0) (pa_cons (pe_glob (v := .ref C8) rfl g8 rfl) pa_nil))) (pa_cons (pe_callB call_isX (by rfl) mIs PyProof.Rows.boot_isinstance (pa_cons (pv 0) (pa_cons (pe_glob (v := .ref C9) rfl g9 rfl) pa_nil))) pa_nil))))))
      (pss_one (ps_ret (pe_op op_catS (pv 1) (pe_lstS (pa_cons (pe_callB call_isX (by rfl) mIs PyProof.Rows.boot_isinstance (pa_cons (pv 0) (pa_cons (pe_glob (v := .ref C10) rfl g10 rfl) pa_nil))) (pa_cons (pe_callB call_isX (by rfl) mIs PyProof.Rows.boot_isinstance (pa_cons (pv 0) (pa_cons (pe_glob (v := .ref C11) rfl g11 rfl) pa_nil))) (pa_cons (pe_callB call_isX (by rfl) mIs PyProof.Rows.boot_isinstance (pa_cons (pv 0) (pa_cons (pe_glob (v := .ref C12) rfl g12 rfl) pa_nil))) pa_nil))))))))), ?_⟩
    refine ⟨_, rfl, a, C, nm, _, _, b0, rfl, T, ha, (fun _ z => z), k0, _, rfl, a, C, nm, _, _, b1, rfl, T, ha, (fun _ z => z), k1, _, rfl, a, C, nm, _, _, b2, rfl, T, ha, (fun _ z => z), k2, _, rfl, a, C, nm, _, _, b3, rfl, T, ha, (fun _ z => z), k3, by show 4 ≤ sizeLine; decide, fun p1 H1 s1 n1 e1 => ?_⟩
    have ha1 := ha.same s1
    refine ⟨_, rfl, _, rfl, a, C, nm, _, _, b4, rfl, T, ha1, (fun _ z => z), k4, _, rfl, a, C, nm, _, _, b5, rfl, T, ha1, (fun _ z => z), k5, _, rfl, a, C, nm, _, _, b6, rfl, T, ha1, (fun _ z => z), k6, by show 3 ≤ sizeLine; decide, fun p2 H2 s2 n2 e2 => ?_⟩
    refine ⟨p1, p2, _, _, _, rfl, rfl, s2 _ _ e1, e2, by show 4 + 3 ≤ sizeLine; decide, rfl, fun p3 H3 s3 n3 e3 => ?_⟩
    have ha3 := (ha1.same s2).same s3
    refine ⟨_, rfl, _, rfl, a, C, nm, _, _, b7, rfl, T, ha3, (fun _ z => z), k7, _, rfl, a, C, nm, _, _, b8, rfl, T, ha3, (fun _ z => z), k8, _, rfl, a, C, nm, _, _, b9, rfl, T, ha3, (fun _ z => z), k9, by show 3 ≤ sizeLine; decide, fun p4 H4 s4 n4 e4 => ?_⟩
    refine ⟨p3, p4, _, _, _, rfl, rfl, s4 _ _ e3, e4, by show 7 + 3 ≤ sizeLine; decide, rfl, fun p5 H5 s5 n5 e5 => ?_⟩
    have ha5 := (ha3.same s4).same s5
    refine ⟨_, rfl, _, rfl, a, C, nm, _, _, b10, rfl, T, ha5, (fun _ z => z), k10, _, rfl, a, C, nm, _, _, b11, rfl, T, ha5, (fun _ z => z), k11, _, rfl, a, C, nm, _, _, b12, rfl, T, ha5, (fun _ z => z), k12, by show 3 ≤ sizeLine; decide, fun p6 H6 s6 n6 e6 => ?_⟩
    refine ⟨p5, p6, _, _, _, rfl, rfl, s6 _ _ e5, e6, by show 10 + 3 ≤ sizeLine; decide, rfl, fun p7 H7 s7 n7 e7 => ?_⟩
    have sa := s1.trans (s2.trans (s3.trans (s4.trans (s5.trans s6))))
    exact q H7 p7 (sa.trans s7) (sa.free n7) e7
def tFd (sl : Nat) (sp : List (Addr × Str)) (n : Nat) : TA := fun σ H Q => ∃ (L : Addr) (as : List Addr) (v : V), σ[sl]? = some (some (.ref L)) ∧ H L = some (.lst (as.map V.ref)) ∧ Exs H v as sp ∧ Q (List.replicate n v) H
theorem pa_fd0 {X : Cx} {sl : Nat} {sp : List (Addr × Str)} : PA X [] (tFd sl sp 0) := PA.weak pa_nil fun σ H Q ⟨L, as, v, h1, h2, h3, q⟩ => q
theorem pa_fd {X : Cx} {e : Expr} {es : List Expr} {sl n : Nat} (i : Nat) {j : Int} {sp : List (Addr × Str)} {C : Addr} {f nm : Str} (hi : sp[i]? = some (C, f)) (T : ExTxt X.K X.mg nm C) (no : PySem.W.findIn X.K (.ref C) f = some none)
    (he : PE X e (tExF X.K X.mg f (tOp (rIxL X.K) (tVar sl) (tC (.int j))))) (hs : PA X es (tFd sl sp n)) (hj : j = (i : Int) := by rfl) (hq : starEach (e :: es) X.env = (false, eval e X.env) :: starEach es X.env := by rfl) : PA X (e :: es) (tFd sl sp (n + 1)) :=
  PA.weak (pa_cons he hs (hs := hq)) fun σ H Q ⟨L, as, v, h1, h2, h3, q⟩ => by
    obtain ⟨a, ea, ha⟩ := h3.get hi
    refine ⟨.ref L, h1, L, _, _, _, rfl, rfl, SqL.of h2, ?_, a, C, nm, v, rfl, T, no, ha, L, as, v, h1, h2, h3, q⟩
    subst hj
    exact atI_nat (by rw [List.getElem?_map, ea]; rfl)
theorem noflt (a z : Int) (s : Str) (t l d : Addr) (k : Bool) : ∀ x ∈ [V.non, .int a, .str s, .ref t, .ref l, .ref d, .int z, .bl k], ∀ b, x ≠ .flt b := by
  intro x hx b e
  subst e
  simp only [List.mem_cons, List.not_mem_nil, or_false, reduceCtorEq] at hx
theorem IsEx.lst {H : Hp} {a C L : Addr} {f : Str} {v : V} {xs ys : List V} (h : IsEx H a C f v) (hL : H L = some (.lst xs)) : IsEx (upd H L (.lst ys)) a C f v := by
  obtain ⟨d, h1, h2⟩ := h
  have n1 : a ≠ L := ne_of h1 hL (fun z => by
    have z' : HO.ext _ = HO.lst xs := z
    cases z')
  have n2 : d ≠ L := ne_of h2 hL (fun z => by
    have z' : HO.ext _ = HO.lst xs := z
    cases z')
  exact ⟨d, by rw [upd_ne n1]; exact h1, by rw [upd_ne n2]; exact h2⟩
theorem Exs.lst {H : Hp} {v : V} {L : Addr} {xs ys : List V} (hL : H L = some (.lst xs)) : ∀ {as : List Addr} {sp : List (Addr × Str)}, Exs H v as sp → Exs (upd H L (.lst ys)) v as sp
  | [], [], _ => trivial
  | a :: as, (C, f) :: sp, h => ⟨IsEx.lst h.1 hL, Exs.lst hL h.2⟩
  | [], _ :: _, h => h.elim
  | _ :: _, [], h => h.elim
theorem mem_rep {α : Type} {x : α} {n : Nat} {P : α → Prop} (h : P x) : ∀ z ∈ List.replicate n x, P z := fun z hz => by
  rw [(List.mem_replicate.mp hz).2]
  exact h
def spLaw (K : PySem.W.Frag) : Sp := fun vs H Q _ => ∃ (a : Addr) (ns : List Int), vs = [.ref a] ∧ SqL K H a (ns.map V.int) ∧ ns.length ≤ 63 ∧ ∀ H', Q (.bl true) H'
theorem scLaw : FnScope ["_law_script", "_law_source_here", "_law_x", "_law_errors", "_law_others", "_law_made", "_law_fields", "_law_k", "_law_base", "_law_j"] ["_law_script"] (defScope sLaw) := ⟨rfl, rfl, rfl, by decide +kernel, rfl, by decide +kernel, by decide +kernel⟩
theorem ok_law {C0 C1 C2 C3 C4 C5 C6 C7 C8 C9 C10 C11 C12 CB f0 f1 f2 f3 f4 f5 f6 f7 f8 f9 f10 f11 f12 f fS fP fK : Addr} {fd0 fd1 fd2 fd3 fd4 fd5 fd6 fd7 fd8 fd9 fd10 fd11 fd12 fd fdS fdP fdK : FuncData} (F : Fun K "law" "law" sLaw f fd)
    (c0 : Cl K mg "BadProgram" "part" "BadProgram.__init__" sI0 C0 f0 fd0)
    (c1 : Cl K mg "BadText" "line" "BadText.__init__" sI1 C1 f1 fd1)
    (c2 : Cl K mg "NotLetter" "letter" "NotLetter.__init__" sI2 C2 f2 fd2)
    (c3 : Cl K mg "BadLetters" "letter" "BadLetters.__init__" sI3 C3 f3 fd3)
    (c4 : Cl K mg "OtherLetters" "letter" "OtherLetters.__init__" sI4 C4 f4 fd4)
    (c5 : Cl K mg "TooMany" "what" "TooMany.__init__" sI5 C5 f5 fd5)
    (c6 : Cl K mg "BadTable" "place" "BadTable.__init__" sI6 C6 f6 fd6)
    (c7 : Cl K mg "BadBox" "box" "BadBox.__init__" sI7 C7 f7 fd7)
    (c8 : Cl K mg "BadGreat" "index" "BadGreat.__init__" sI8 C8 f8 fd8)
    (c9 : Cl K mg "BadPiece" "number" "BadPiece.__init__" sI9 C9 f9 fd9)
    (c10 : Cl K mg "BadWorths" "letter" "BadWorths.__init__" sI10 C10 f10 fd10)
    (c11 : Cl K mg "BadNumber" "number" "BadNumber.__init__" sI11 C11 f11 fd11)
    (c12 : Cl0 K mg "NoDeed" "NoDeed.__init__" sI12 C12 f12 fd12)
    (TB : ExTxt K mg "BoxError" CB)
    (xB : PySem.W.excIn K CB PySem.HandSPX.veTail "ValueError.__new__" = true)
    (k0 : Kit K C0 [C0, C1, C2, C3, C4, C5, C6, C7, C8, C9, C10, C11, C12] [true, false, false, false, false, false, false, false, false, false, false, false, false]) (vv0 : PySem.W.kitOne K (.ref C0) (.type "ValueError") = some true) (xx0 : PySem.W.kitOne K (.ref C0) (.ref CB) = some true)
    (k1 : Kit K C1 [C0, C1, C2, C3, C4, C5, C6, C7, C8, C9, C10, C11, C12] [false, true, false, false, false, false, false, false, false, false, false, false, false]) (vv1 : PySem.W.kitOne K (.ref C1) (.type "ValueError") = some true) (xx1 : PySem.W.kitOne K (.ref C1) (.ref CB) = some true)
    (k2 : Kit K C2 [C0, C1, C2, C3, C4, C5, C6, C7, C8, C9, C10, C11, C12] [false, false, true, false, false, false, false, false, false, false, false, false, false]) (vv2 : PySem.W.kitOne K (.ref C2) (.type "ValueError") = some true) (xx2 : PySem.W.kitOne K (.ref C2) (.ref CB) = some true)
    (k3 : Kit K C3 [C0, C1, C2, C3, C4, C5, C6, C7, C8, C9, C10, C11, C12] [false, false, false, true, false, false, false, false, false, false, false, false, false]) (vv3 : PySem.W.kitOne K (.ref C3) (.type "ValueError") = some true) (xx3 : PySem.W.kitOne K (.ref C3) (.ref CB) = some true)
    (k4 : Kit K C4 [C0, C1, C2, C3, C4, C5, C6, C7, C8, C9, C10, C11, C12] [false, false, false, false, true, false, false, false, false, false, false, false, false]) (vv4 : PySem.W.kitOne K (.ref C4) (.type "ValueError") = some true) (xx4 : PySem.W.kitOne K (.ref C4) (.ref CB) = some true)
    (k5 : Kit K C5 [C0, C1, C2, C3, C4, C5, C6, C7, C8, C9, C10, C11, C12] [false, false, false, false, false, true, false, false, false, false, false, false, false]) (vv5 : PySem.W.kitOne K (.ref C5) (.type "ValueError") = some true) (xx5 : PySem.W.kitOne K (.ref C5) (.ref CB) = some true)
    (k6 : Kit K C6 [C0, C1, C2, C3, C4, C5, C6, C7, C8, C9, C10, C11, C12] [false, false, false, false, false, false, true, false, false, false, false, false, false]) (vv6 : PySem.W.kitOne K (.ref C6) (.type "ValueError") = some true) (xx6 : PySem.W.kitOne K (.ref C6) (.ref CB) = some true)
    (k7 : Kit K C7 [C0, C1, C2, C3, C4, C5, C6, C7, C8, C9, C10, C11, C12] [false, false, false, false, false, false, false, true, false, false, false, false, false]) (vv7 : PySem.W.kitOne K (.ref C7) (.type "ValueError") = some true) (xx7 : PySem.W.kitOne K (.ref C7) (.ref CB) = some true)
    (k8 : Kit K C8 [C0, C1, C2, C3, C4, C5, C6, C7, C8, C9, C10, C11, C12] [false, false, false, false, false, false, false, false, true, false, false, false, false]) (vv8 : PySem.W.kitOne K (.ref C8) (.type "ValueError") = some true) (xx8 : PySem.W.kitOne K (.ref C8) (.ref CB) = some true)
    (k9 : Kit K C9 [C0, C1, C2, C3, C4, C5, C6, C7, C8, C9, C10, C11, C12] [false, false, false, false, false, false, false, false, false, true, false, false, false]) (vv9 : PySem.W.kitOne K (.ref C9) (.type "ValueError") = some true) (xx9 : PySem.W.kitOne K (.ref C9) (.ref CB) = some true)
    (k10 : Kit K C10 [C0, C1, C2, C3, C4, C5, C6, C7, C8, C9, C10, C11, C12] [false, false, false, false, false, false, false, false, false, false, true, false, false]) (vv10 : PySem.W.kitOne K (.ref C10) (.type "ValueError") = some true) (xx10 : PySem.W.kitOne K (.ref C10) (.ref CB) = some true)
    (k11 : Kit K C11 [C0, C1, C2, C3, C4, C5, C6, C7, C8, C9, C10, C11, C12] [false, false, false, false, false, false, false, false, false, false, false, true, false]) (vv11 : PySem.W.kitOne K (.ref C11) (.type "ValueError") = some true) (xx11 : PySem.W.kitOne K (.ref C11) (.ref CB) = some true)
    (k12 : Kit K C12 [C0, C1, C2, C3, C4, C5, C6, C7, C8, C9, C10, C11, C12] [false, false, false, false, false, false, false, false, false, false, false, false, true]) (vv12 : PySem.W.kitOne K (.ref C12) (.type "ValueError") = some true) (xx12 : PySem.W.kitOne K (.ref C12) (.ref CB) = some true)
    (kB : Kit K CB [C0, C1, C2, C3, C4, C5, C6, C7, C8, C9, C10, C11, C12] [false, false, false, false, false, false, false, false, false, false, false, false, false]) (vB : PySem.W.kitOne K (.ref CB) (.type "ValueError") = some true)
    (mIs : mg "isinstance" = none) (mLen : mg "len" = none) (mAny : mg "any" = none) (mR : mg "range" = none) (mVE : mg "ValueError" = none)
    (GS : FnOk P w K mg base CX0 1 fS fdS ["_law_script"] (spSource K)) (bS : Binds K fdS ["_law_script"] []) (kS : PySem.W.keepIn K (.ref fS) = true) (mS : mg "_law_source" = some (.ref fS))
    (GP : FnOk P w K mg base CX0 2 fP fdP ["_law_source_here", "_law_things"] (spPick K)) (bP : Binds K fdP ["_law_source_here", "_law_things"] []) (kP : PySem.W.keepIn K (.ref fP) = true) (mP : mg "_law_pick" = some (.ref fP))
    (GK : FnOk P w K mg base CX0 1 fK fdK ["_law_e"] (spKinds K mg [C0, C1, C2, C3, C4, C5, C6, C7, C8, C9, C10, C11, C12])) (bK : Binds K fdK ["_law_e"] []) (kK : PySem.W.keepIn K (.ref fK) = true) (mK : mg "_law_kinds" = some (.ref fK)) : FnOk P w K mg base CX0 3 f fd ["_law_script"] (spLaw K) := by
  refine F.ok scLaw (fun vs H Q E h => ?_) (fun cdv A outer s H vs Q E hr h => ?_)
  · obtain ⟨a, ns, rfl, _⟩ := h
    rfl
  · obtain ⟨a, ns, rfl, hS, hlen, q⟩ := h
    have hr2 : Room 2 _ := hr
    have hr1 : Room 1 _ := hr.mono (by decide)
    have hu := hu_of hr
    refine ⟨_, pss_cons (ps_set (i := 1) scLaw.nd rfl (.inl rfl) (pe_call GS hr1 (by rfl) mS kS bS .nil pass0 (pa_cons (pv 0) pa_nil)))
      (pss_cons (ps_set (i := 2) scLaw.nd rfl (.inl rfl) (pe_call GP hr2 (by rfl) mP kP bP .nil pass0 (pa_cons (pv 1) (pa_cons (pe_lstS (pa_cons pe_non (pa_cons pe_int (pa_cons pe_str (pa_cons (pe_tupS (pa_cons pe_str (pa_cons pe_int pa_nil))) (pa_cons (pe_lstS (pa_cons pe_str pa_nil)) (pa_cons pe_newK (pa_cons (pe_op op_powB (pe_op op_powB (pe_op op_powB pe_int pe_int) pe_int) pe_int) (pa_cons pe_bl pa_nil))))))))) pa_nil))))
      (pss_cons (ps_set (i := 3) scLaw.nd rfl (.inl rfl) (pe_lstS (pa_mk (pe_exk c0.T c0.iC c0.tI (ok_i0 c0) hr2 c0.kb (by rfl) (pv 2)) (pa_mk (pe_exk c1.T c1.iC c1.tI (ok_i1 c1) hr2 c1.kb (by rfl) (pv 2)) (pa_mk (pe_exk c2.T c2.iC c2.tI (ok_i2 c2) hr2 c2.kb (by rfl) (pv 2)) (pa_mk (pe_exk c3.T c3.iC c3.tI (ok_i3 c3) hr2 c3.kb (by rfl) (pv 2)) (pa_mk (pe_exk c4.T c4.iC c4.tI (ok_i4 c4) hr2 c4.kb (by rfl) (pv 2)) pa_mk0)))))))
      (pss_cons (ps_set (i := 3) scLaw.nd rfl (.inl rfl) (pe_op op_catS (pv 3) (pe_lstS (pa_mk (pe_exk c5.T c5.iC c5.tI (ok_i5 c5) hr2 c5.kb (by rfl) (pv 2)) (pa_mk (pe_exk c6.T c6.iC c6.tI (ok_i6 c6) hr2 c6.kb (by rfl) (pv 2)) (pa_mk (pe_exk c7.T c7.iC c7.tI (ok_i7 c7) hr2 c7.kb (by rfl) (pv 2)) (pa_mk (pe_exk c8.T c8.iC c8.tI (ok_i8 c8) hr2 c8.kb (by rfl) (pv 2)) (pa_mk (pe_exk c9.T c9.iC c9.tI (ok_i9 c9) hr2 c9.kb (by rfl) (pv 2)) pa_mk0))))))))
      (pss_cons (ps_set (i := 3) scLaw.nd rfl (.inl rfl) (pe_op op_catS (pv 3) (pe_lstS (pa_mk (pe_exk c10.T c10.iC c10.tI (ok_i10 c10) hr2 c10.kb (by rfl) (pv 2)) (pa_mk (pe_exk c11.T c11.iC c11.tI (ok_i11 c11) hr2 c11.kb (by rfl) (pv 2)) pa_mk0)))))
      (pss_cons (ps_set (i := 4) scLaw.nd rfl (.inl rfl) (pe_lstS (pa_mk (pe_exp c0.T c0.iC c0.tI (ok_i0 c0) hr2 c0.b (by rfl) (pv 2)) (pa_mk (pe_exp c1.T c1.iC c1.tI (ok_i1 c1) hr2 c1.b (by rfl) (pv 2)) (pa_mk (pe_exp c2.T c2.iC c2.tI (ok_i2 c2) hr2 c2.b (by rfl) (pv 2)) (pa_mk (pe_exp c3.T c3.iC c3.tI (ok_i3 c3) hr2 c3.b (by rfl) (pv 2)) (pa_mk (pe_exp c4.T c4.iC c4.tI (ok_i4 c4) hr2 c4.b (by rfl) (pv 2)) (pa_mk (pe_exp c5.T c5.iC c5.tI (ok_i5 c5) hr2 c5.b (by rfl) (pv 2)) (pa_mk (pe_exp c6.T c6.iC c6.tI (ok_i6 c6) hr2 c6.b (by rfl) (pv 2)) pa_mk0)))))))))
      (pss_cons (ps_set (i := 4) scLaw.nd rfl (.inl rfl) (pe_op op_catS (pv 4) (pe_lstS (pa_mk (pe_exp c7.T c7.iC c7.tI (ok_i7 c7) hr2 c7.b (by rfl) (pv 2)) (pa_mk (pe_exp c8.T c8.iC c8.tI (ok_i8 c8) hr2 c8.b (by rfl) (pv 2)) (pa_mk (pe_exp c9.T c9.iC c9.tI (ok_i9 c9) hr2 c9.b (by rfl) (pv 2)) (pa_mk (pe_exp c10.T c10.iC c10.tI (ok_i10 c10) hr2 c10.b (by rfl) (pv 2)) (pa_mk (pe_exp c11.T c11.iC c11.tI (ok_i11 c11) hr2 c11.b (by rfl) (pv 2)) pa_mk0))))))))
      (pss_cons (ps_for PassesOwn.never rfl (pi_tup (pe_tupS (pa_cons (pv 3) (pa_cons (pv 4) pa_nil)))) (pg_name (i := 5) scLaw.nd rfl (.inl rfl))
        (pss_cons (ps_set (i := 6) scLaw.nd rfl (.inl rfl) (pe_lstS (pa_fd (sp := ([(C0, "part"), (C1, "line"), (C2, "letter"), (C3, "letter"), (C4, "letter"), (C5, "what"), (C6, "place"), (C7, "box"), (C8, "index"), (C9, "number"), (C10, "letter"), (C11, "number")] : List (Addr × Str))) 0 rfl c0.T c0.no (pe_exf (pe_ix ix_list (pv 5) pe_int (fun _ _ => rfl))) (pa_fd (sp := ([(C0, "part"), (C1, "line"), (C2, "letter"), (C3, "letter"), (C4, "letter"), (C5, "what"), (C6, "place"), (C7, "box"), (C8, "index"), (C9, "number"), (C10, "letter"), (C11, "number")] : List (Addr × Str))) 1 rfl c1.T c1.no (pe_exf (pe_ix ix_list (pv 5) pe_int (fun _ _ => rfl))) (pa_fd (sp := ([(C0, "part"), (C1, "line"), (C2, "letter"), (C3, "letter"), (C4, "letter"), (C5, "what"), (C6, "place"), (C7, "box"), (C8, "index"), (C9, "number"), (C10, "letter"), (C11, "number")] : List (Addr × Str))) 2 rfl c2.T c2.no (pe_exf (pe_ix ix_list (pv 5) pe_int (fun _ _ => rfl))) (pa_fd (sp := ([(C0, "part"), (C1, "line"), (C2, "letter"), (C3, "letter"), (C4, "letter"), (C5, "what"), (C6, "place"), (C7, "box"), (C8, "index"), (C9, "number"), (C10, "letter"), (C11, "number")] : List (Addr × Str))) 3 rfl c3.T c3.no (pe_exf (pe_ix ix_list (pv 5) pe_int (fun _ _ => rfl))) (pa_fd (sp := ([(C0, "part"), (C1, "line"), (C2, "letter"), (C3, "letter"), (C4, "letter"), (C5, "what"), (C6, "place"), (C7, "box"), (C8, "index"), (C9, "number"), (C10, "letter"), (C11, "number")] : List (Addr × Str))) 4 rfl c4.T c4.no (pe_exf (pe_ix ix_list (pv 5) pe_int (fun _ _ => rfl))) (pa_fd (sp := ([(C0, "part"), (C1, "line"), (C2, "letter"), (C3, "letter"), (C4, "letter"), (C5, "what"), (C6, "place"), (C7, "box"), (C8, "index"), (C9, "number"), (C10, "letter"), (C11, "number")] : List (Addr × Str))) 5 rfl c5.T c5.no (pe_exf (pe_ix ix_list (pv 5) pe_int (fun _ _ => rfl))) pa_fd0))))))))
        (pss_cons (ps_set (i := 6) scLaw.nd rfl (.inl rfl) (pe_op op_catS (pv 6) (pe_lstS (pa_fd (sp := ([(C0, "part"), (C1, "line"), (C2, "letter"), (C3, "letter"), (C4, "letter"), (C5, "what"), (C6, "place"), (C7, "box"), (C8, "index"), (C9, "number"), (C10, "letter"), (C11, "number")] : List (Addr × Str))) 6 rfl c6.T c6.no (pe_exf (pe_ix ix_list (pv 5) pe_int (fun _ _ => rfl))) (pa_fd (sp := ([(C0, "part"), (C1, "line"), (C2, "letter"), (C3, "letter"), (C4, "letter"), (C5, "what"), (C6, "place"), (C7, "box"), (C8, "index"), (C9, "number"), (C10, "letter"), (C11, "number")] : List (Addr × Str))) 7 rfl c7.T c7.no (pe_exf (pe_ix ix_list (pv 5) pe_int (fun _ _ => rfl))) (pa_fd (sp := ([(C0, "part"), (C1, "line"), (C2, "letter"), (C3, "letter"), (C4, "letter"), (C5, "what"), (C6, "place"), (C7, "box"), (C8, "index"), (C9, "number"), (C10, "letter"), (C11, "number")] : List (Addr × Str))) 8 rfl c8.T c8.no (pe_exf (pe_ix ix_list (pv 5) pe_int (fun _ _ => rfl))) (pa_fd (sp := ([(C0, "part"), (C1, "line"), (C2, "letter"), (C3, "letter"), (C4, "letter"), (C5, "what"), (C6, "place"), (C7, "box"), (C8, "index"), (C9, "number"), (C10, "letter"), (C11, "number")] : List (Addr × Str))) 9 rfl c9.T c9.no (pe_exf (pe_ix ix_list (pv 5) pe_int (fun _ _ => rfl))) (pa_fd (sp := ([(C0, "part"), (C1, "line"), (C2, "letter"), (C3, "letter"), (C4, "letter"), (C5, "what"), (C6, "place"), (C7, "box"), (C8, "index"), (C9, "number"), (C10, "letter"), (C11, "number")] : List (Addr × Str))) 10 rfl c10.T c10.no (pe_exf (pe_ix ix_list (pv 5) pe_int (fun _ _ => rfl))) pa_fd0))))))))
        (pss_one (ps_if (pt_cmpR (op_neS hu) (pe_op op_catS (pv 6) (pe_lstS (pa_fd (sp := ([(C0, "part"), (C1, "line"), (C2, "letter"), (C3, "letter"), (C4, "letter"), (C5, "what"), (C6, "place"), (C7, "box"), (C8, "index"), (C9, "number"), (C10, "letter"), (C11, "number")] : List (Addr × Str))) 11 rfl c11.T c11.no (pe_exf (pe_ix ix_list (pv 5) pe_int (fun _ _ => rfl))) pa_fd0))) (pe_op op_repS (pe_lstS (pa_cons (pv 2) pa_nil)) pe_int) (nomark _)) (pss_one (ps_ret pe_bl)) pss_nil)))))
      (pss_cons (ps_expr (pe_bm PySem.F.plainAttrs_list PySem.F.slot_list_append PySem.F.type_list_append mt_append (pv 3) (pa_cons (pe_ex0 c12.T c12.iC c12.tI (ok_i12 c12) hr2 c12.b (by rfl)) pa_nil)))
      (pss_cons (ps_for PassesOwn.never rfl (pi_range1 rfl mR (pa_cons (pe_callB call_len_seq (by rfl) mLen PySem.boot_len (pa_cons (pv 3) pa_nil)) pa_nil)) (pg_name (i := 7) scLaw.nd rfl (.inr rfl))
        (pss_cons (ps_if (PW.pt (pw_or (pt_not (pt_val (pe_callB call_isX (by rfl) mIs PyProof.Rows.boot_isinstance (pa_cons (pe_ix ix_list (pv 3) (pv 7) (fun _ _ => rfl)) (pa_cons (pe_glob (v := .ref CB) rfl TB.g rfl) pa_nil)))))
            (pw_or1 (pt_not (pt_val (pe_callB call_isX (by rfl) mIs PyProof.Rows.boot_isinstance (pa_cons (pe_ix ix_list (pv 3) (pv 7) (fun _ _ => rfl)) (pa_cons (pe_bltn (v := .ty "ValueError") rfl mVE (by decide +kernel) rfl) pa_nil)))))))) (pss_one (ps_ret pe_bl)) pss_nil)
        (pss_one (ps_if (pt_cmpR (op_neS hu) (pe_call GK hr1 (by rfl) mK kK bK .nil pass0 (pa_cons (pe_ix ix_list (pv 3) (pv 7) (fun _ _ => rfl)) pa_nil))
            (pe_lc (own := [("_law_j", 9)]) (g := gName 9) (tt := tYes) rfl scLaw.nd (pi_range1 rfl mR (pa_cons (pe_callB call_len_seq (by rfl) mLen PySem.boot_len (pa_cons (pv 3) pa_nil)) pa_nil)) (blkOk_by (own := [("_law_j", 9)]) (N := ["_law_script", "_law_source_here", "_law_x", "_law_errors", "_law_others", "_law_made", "_law_fields", "_law_k", "_law_base", "_law_j"]) (sc := defScope sLaw) (by decide +kernel))
              (fun _ _ _ _ _ => pg_name (i := 9) scLaw.nd rfl (.inl rfl)) (fun _ _ _ _ _ => pts_nil) (fun _ _ _ _ _ => pe_cmpR op_eq (pv 7) (pv 9) (nomark _))) (nomark _)) (pss_one (ps_ret pe_bl)) pss_nil))))
      (pss_cons (ps_set (i := 8) scLaw.nd rfl (.inl rfl) (pe_exc1 PySem.F.excBase_ValueError xB TB.g TB.ox.kC (by rfl) pe_str))
      (pss_one (ps_ret (pe_and (pe_callB call_isX (by rfl) mIs PyProof.Rows.boot_isinstance (pa_cons (pv 8) (pa_cons (pe_bltn (v := .ty "ValueError") rfl mVE (by decide +kernel) rfl) pa_nil)))
        (pe_one (pe_not (pe_callB (cr_any rfl) (by rfl) mAny (by decide +kernel) (pa_cons (pe_call GK hr1 (by rfl) mK kK bK .nil pass0 (pa_cons (pv 8) pa_nil)) pa_nil))))))))))))))))), ?_⟩
    -- the source, the thing
    refine ⟨_, rfl, a, ns, rfl, hS, fun p o H1 s1 np e1 ho => ?_⟩
    refine ⟨_, rfl, by show 2 ≤ sizeLine; decide, fun tp H2 s2 n2 e2 => ⟨by show 1 ≤ sizeLine; decide, fun lp H3 s3 n3 e3 => fun dp H4 s4 n4 e4 => ?_⟩⟩
    refine ⟨_, _, rfl, rfl, ⟨by decide, by decide +kernel⟩, _, _, rfl, rfl, ⟨by decide, by decide +kernel⟩, _, _, rfl, rfl, ⟨by decide, by decide +kernel⟩, by show 8 ≤ sizeLine; decide, fun L0 H5 s5 n5 e5 => ?_⟩
    have e1' := s5 _ _ (s4 _ _ (s3 _ _ (s2 _ _ e1)))
    obtain ⟨g, sd, c, rfl, _⟩ := id ho
    have ne : L0 ≠ p := fun z => by
      have z1 := s2.trans (s3.trans s4) _ _ e1
      rw [← z, n5] at z1
      cases z1
    refine ⟨p, L0, _, 0, _, rfl, e1', ho, by decide, SqL.of e5, ne, by show 0 < 8; decide, by show 8 < 1073741824; decide, fun x o' hx _ => ?_⟩
    have hf := noflt _ _ _ _ _ _ _ x hx
    clear hx
    generalize upd H5 p o' = H6
    -- errors
    refine ⟨x, rfl, fun a1 H7 s7 x7 => ⟨by rw [List.length_map, x7.length]; show 5 ≤ sizeLine; decide, fun l1 H8 s8 n8 e8 => ?_⟩⟩
    refine ⟨_, rfl, x, rfl, fun a2 H9 s9 x9 => ⟨by rw [List.length_map, x9.length]; show 5 ≤ sizeLine; decide, fun l2 H10 s10 n10 e10 => ?_⟩⟩
    refine ⟨l1, l2, _, _, _, rfl, rfl, s10 _ _ (s9 _ _ e8), e10, by rw [List.length_map, List.length_map, x7.length, x9.length]; show 10 ≤ sizeLine; decide, List.map_append.symm, fun l3 H11 s11 n11 e11 => ?_⟩
    have y11 := Exs.append (((x7.same s8).same s9).same s10 |>.same s11) ((x9.same s10).same s11)
    refine ⟨_, rfl, x, rfl, fun a3 H12 s12 x12 => ⟨by rw [List.length_map, x12.length]; show 2 ≤ sizeLine; decide, fun l4 H13 s13 n13 e13 => ?_⟩⟩
    refine ⟨l3, l4, _, _, _, rfl, rfl, s13 _ _ (s12 _ _ e11), e13, by rw [List.length_map, List.length_map, y11.length, x12.length]; show 12 ≤ sizeLine; decide, List.map_append.symm, fun l5 H14 s14 n14 e14 => ?_⟩
    have y14 := Exs.append ((y11.same s12).same s13 |>.same s14) ((x12.same s13).same s14)
    generalize a1 ++ a2 ++ a3 = ae at e14 y14
    -- others
    refine ⟨x, rfl, fun a4 H15 s15 x15 => ⟨by rw [List.length_map, x15.length]; show 7 ≤ sizeLine; decide, fun l6 H16 s16 n16 e16 => ?_⟩⟩
    refine ⟨_, rfl, x, rfl, fun a5 H17 s17 x17 => ⟨by rw [List.length_map, x17.length]; show 5 ≤ sizeLine; decide, fun l7 H18 s18 n18 e18 => ?_⟩⟩
    refine ⟨l6, l7, _, _, _, rfl, rfl, s18 _ _ (s17 _ _ e16), e18, by rw [List.length_map, List.length_map, x15.length, x17.length]; show 12 ≤ sizeLine; decide, List.map_append.symm, fun l8 H19 s19 n19 e19 => ?_⟩
    have y19 := Exs.append (((x15.same s16).same s17).same s18 |>.same s19) ((x17.same s18).same s19)
    generalize a4 ++ a5 = ao at e19 y19
    have sE := s15.trans (s16.trans (s17.trans (s18.trans s19)))
    -- the loop over both
    refine ⟨_, rfl, _, rfl, by show 2 ≤ sizeLine; decide, fun q0 H20 s20 n20 e20 => ?_⟩
    have eE := s20 _ _ (sE _ _ e14)
    have eO := s20 _ _ e19
    have yE := (y14.same sE).same s20
    have yO := y19.same s20
    refine ⟨q0, rfl, ⟨_, SqT.of e20⟩, for_tup (K := K) (a := q0) (xs := [.ref l5, .ref l8]) (fun i σ H' => Same H20 H' ∧ ∃ v5 v6, σ = [some (.ref a), some (.ref p), some x, some (.ref l5), some (.ref l8), v5, v6, none, none, none]) ⟨Same.refl _, none, none, rfl⟩ (fun i σ H' _ z => SqT.of (z.1 _ _ e20)) ?_ ?_⟩
    · rintro i y σ H21 hi ⟨s21, v5, v6, rfl⟩
      obtain ⟨L, as, rfl, eL, yL⟩ : ∃ L as, y = V.ref L ∧ H21 L = some (.lst (as.map V.ref)) ∧ Exs H21 x as ([(C0, "part"), (C1, "line"), (C2, "letter"), (C3, "letter"), (C4, "letter"), (C5, "what"), (C6, "place"), (C7, "box"), (C8, "index"), (C9, "number"), (C10, "letter"), (C11, "number")] : List (Addr × Str)) := by
        match i, hi with
        | 0, hi =>
          cases hi
          exact ⟨l5, ae, rfl, s21 _ _ eE, yE.same s21⟩
        | 1, hi =>
          cases hi
          exact ⟨l8, ao, rfl, s21 _ _ eO, yO.same s21⟩
      refine ⟨L, as, x, rfl, eL, yL, by show 6 ≤ sizeLine; decide, fun r1 H22 s22 n22 e22 => ?_⟩
      refine ⟨_, rfl, L, as, x, rfl, s22 _ _ eL, yL.same s22, by show 5 ≤ sizeLine; decide, fun r2 H23 s23 n23 e23 => ?_⟩
      refine ⟨r1, r2, _, _, List.replicate 11 x, rfl, rfl, s23 _ _ e22, e23, by show 6 + 5 ≤ sizeLine; decide, rfl, fun r3 H24 s24 n24 e24 => ?_⟩
      have s24' := s22.trans (s23.trans s24)
      refine ⟨_, rfl, L, as, x, rfl, s24' _ _ eL, yL.same s24', by show 1 ≤ sizeLine; decide, fun r4 H25 s25 n25 e25 => ?_⟩
      refine ⟨r3, r4, _, _, List.replicate 12 x, rfl, rfl, s25 _ _ e24, e25, by show 11 + 1 ≤ sizeLine; decide, rfl, fun r5 H26 s26 n26 e26 => ?_⟩
      refine ⟨_, rfl, by show 1 ≤ sizeLine; decide, fun r6 H27 s27 n27 e27 => ?_⟩
      refine ⟨r6, 12, [x], List.replicate 12 x, rfl, rfl, e27, by decide, by decide, by show 12 ≤ sizeLine; decide, rfl, fun r7 H28 s28 n28 e28 => ?_⟩
      refine ⟨r5, r7, List.replicate 12 x, rfl, rfl, SqL.of (s28 _ _ (s27 _ _ e26)), SqL.of e28, mem_rep hf, _, rfl, iteF ?_⟩
      exact ⟨s21.trans (s24'.trans (s25.trans (s26.trans (s27.trans s28)))), _, _, rfl⟩
    · rintro σ H21 ⟨s21, v5, v6, rfl⟩
      -- one more
      have eE1 := s21 _ _ eE
      have yE1 := yE.same s21
      refine ⟨_, rfl, .inl ⟨rfl, _, SqL.of eE1⟩, fun na nna => ⟨l5, _, _, rfl, rfl, (same_upd nna) _ _ eE1, by rw [List.length_map, yE.length]; show 12 < sizeLine; decide, ?_⟩⟩
      have eE2 : (upd H21 na (exo na C12 none)) l5 = some (.lst (ae.map V.ref)) := (same_upd nna) _ _ eE1
      have y22 := Exs.lst (ys := ae.map V.ref ++ [.ref na]) eE2 (yE1.same (same_upd (o := exo na C12 none) nna))
      have nl : na ≠ l5 := fun z => by
        rw [z, eE1] at nna
        cases nna
      have z22 : (upd (upd H21 na (exo na C12 none)) l5 (.lst (ae.map V.ref ++ [.ref na]))) na = some (exo na C12 none) := by
        rw [upd_ne nl, upd_same]
      have e22 : (upd (upd H21 na (exo na C12 none)) l5 (.lst (ae.map V.ref ++ [.ref na]))) l5 = some (.lst ((ae ++ [na]).map V.ref)) := by
        rw [upd_same, List.map_append]
        rfl
      generalize upd (upd H21 na (exo na C12 none)) l5 (.lst (ae.map V.ref ++ [.ref na])) = H22 at y22 z22 e22

      have It : ∀ i : Nat, i < 13 → ∃ b C nm row, (ae ++ [na])[i]? = some b ∧ ExTxt K mg nm C ∧ Exn H22 b C ∧ Kit K C [C0, C1, C2, C3, C4, C5, C6, C7, C8, C9, C10, C11, C12] row ∧ row = (List.range 13).map (fun j => decide (i = j)) ∧ PySem.W.kitOne K (.ref C) (.ref CB) = some true ∧ PySem.W.kitOne K (.ref C) (.type "ValueError") = some true := by
        have la : ae.length = 12 := y22.length
        have get : ∀ (i : Nat) (C : Addr) (f : Str), i < 12 → ([(C0, "part"), (C1, "line"), (C2, "letter"), (C3, "letter"), (C4, "letter"), (C5, "what"), (C6, "place"), (C7, "box"), (C8, "index"), (C9, "number"), (C10, "letter"), (C11, "number")] : List (Addr × Str))[i]? = some (C, f) → ∃ b, (ae ++ [na])[i]? = some b ∧ Exn H22 b C := fun i C f hi hs => by
          obtain ⟨b, eb, hb⟩ := y22.get hs
          exact ⟨b, by rw [List.getElem?_append_left (by omega)]; exact eb, .inl ⟨f, x, hb⟩⟩
        intro i hi
        match i, hi with
        | 0, _ =>
          obtain ⟨b, h1, h2⟩ := get 0 C0 "part" (by decide) rfl
          exact ⟨b, C0, _, _, h1, c0.T, h2, k0, rfl, xx0, vv0⟩
        | 1, _ =>
          obtain ⟨b, h1, h2⟩ := get 1 C1 "line" (by decide) rfl
          exact ⟨b, C1, _, _, h1, c1.T, h2, k1, rfl, xx1, vv1⟩
        | 2, _ =>
          obtain ⟨b, h1, h2⟩ := get 2 C2 "letter" (by decide) rfl
          exact ⟨b, C2, _, _, h1, c2.T, h2, k2, rfl, xx2, vv2⟩
        | 3, _ =>
          obtain ⟨b, h1, h2⟩ := get 3 C3 "letter" (by decide) rfl
          exact ⟨b, C3, _, _, h1, c3.T, h2, k3, rfl, xx3, vv3⟩
        | 4, _ =>
          obtain ⟨b, h1, h2⟩ := get 4 C4 "letter" (by decide) rfl
          exact ⟨b, C4, _, _, h1, c4.T, h2, k4, rfl, xx4, vv4⟩
        | 5, _ =>
          obtain ⟨b, h1, h2⟩ := get 5 C5 "what" (by decide) rfl
          exact ⟨b, C5, _, _, h1, c5.T, h2, k5, rfl, xx5, vv5⟩
        | 6, _ =>
          obtain ⟨b, h1, h2⟩ := get 6 C6 "place" (by decide) rfl
          exact ⟨b, C6, _, _, h1, c6.T, h2, k6, rfl, xx6, vv6⟩
        | 7, _ =>
          obtain ⟨b, h1, h2⟩ := get 7 C7 "box" (by decide) rfl
          exact ⟨b, C7, _, _, h1, c7.T, h2, k7, rfl, xx7, vv7⟩
        | 8, _ =>
          obtain ⟨b, h1, h2⟩ := get 8 C8 "index" (by decide) rfl
          exact ⟨b, C8, _, _, h1, c8.T, h2, k8, rfl, xx8, vv8⟩
        | 9, _ =>
          obtain ⟨b, h1, h2⟩ := get 9 C9 "number" (by decide) rfl
          exact ⟨b, C9, _, _, h1, c9.T, h2, k9, rfl, xx9, vv9⟩
        | 10, _ =>
          obtain ⟨b, h1, h2⟩ := get 10 C10 "letter" (by decide) rfl
          exact ⟨b, C10, _, _, h1, c10.T, h2, k10, rfl, xx10, vv10⟩
        | 11, _ =>
          obtain ⟨b, h1, h2⟩ := get 11 C11 "number" (by decide) rfl
          exact ⟨b, C11, _, _, h1, c11.T, h2, k11, rfl, xx11, vv11⟩
        | 12, _ => exact ⟨na, C12, _, _, by rw [List.getElem?_append_right (by omega), la]; rfl, c12.T, .inr (.inl z22), k12, rfl, xx12, vv12⟩
        | n + 13, hi => exact absurd hi (by omega)
      have l13 : ((ae ++ [na]).map V.ref).length = 13 := by
        rw [List.length_map, List.length_append, y22.length]
        rfl
      refine ⟨_, rfl, l5, _, rfl, .inl (SqL.of e22), 13, congrArg (fun n : Nat => [V.int (n : Int)]) l13, by decide, by decide, for_range (n := 13) (fun i σ H' => Same H22 H' ∧ ∃ v7, σ = [some (.ref a), some (.ref p), some x, some (.ref l5), some (.ref l8), v5, v6, v7, none, none]) ⟨Same.refl _, none, rfl⟩ ?_ ?_⟩
      · rintro i σ H23 hi ⟨s23, v7, rfl⟩
        obtain ⟨b, C, nm, row, hb, T, hx, hk, hrow, hB, hV⟩ := It i hi
        have gi : atI ((ae ++ [na]).map V.ref) (0 + (i : Int)) = some (V.ref b) := by
          rw [Int.zero_add]
          exact atI_nat (by rw [List.getElem?_map, hb]; rfl)
        have e23 := s23 _ _ e22
        refine ⟨_, rfl, _, rfl, l5, _, _, _, rfl, rfl, SqL.of e23, gi, b, C, nm, _, _, true, rfl, T, hx.same s23, (fun _ z => z), hB, _, rfl, iteF ?_⟩
        refine ⟨_, rfl, _, rfl, l5, _, _, _, rfl, rfl, SqL.of e23, gi, b, C, nm, _, _, true, rfl, T, hx.same s23, (fun _ z => z.symm ▸ rfl), hV, _, rfl, iteF ?_⟩
        refine ⟨_, rfl, _, rfl, l5, _, _, _, rfl, rfl, SqL.of e23, gi, b, C, nm, row, rfl, T, hx.same s23, hk, fun H24 t1 s24 n24 e24 => ?_⟩
        have e24' := s24 _ _ e23
        refine ⟨_, rfl, l5, _, rfl, .inl (SqL.of e24'), 13, congrArg (fun n : Nat => [V.int (n : Int)]) l13, by decide, by decide, fun D nD => ?_⟩
        refine lc_range (n := 13) (fun j H' => Same H24 H' ∧ H' D = some (.lst ((List.range j).map fun m => V.bl (decide (i = m))))) ⟨same_upd nD, upd_same⟩ ?_ ?_
        · rintro j H25 hj ⟨s25, e25⟩
          refine ⟨rfl, ?_⟩
          refine tYes_if ?_
          refine ⟨_, rfl, _, rfl, rfl, _, e25, by rw [List.length_map, List.length_range]; exact small1000 (by omega), ?_, ?_⟩
          · exact fun b' o' e' => by
              rw [upd_ne (ne_of_none e' nD)]
              exact s25 _ _ e'
          · have ed : decide (V.int (0 + (i : Int)) = V.int (0 + (j : Int))) = decide (i = j) := by
              by_cases h : i = j
              · subst h
                simp
              · rw [decide_eq_false h]
                refine decide_eq_false fun z => h ?_
                have z' := V.int.inj z
                omega
            rw [upd_same, List.range_succ, List.map_append, ed]
            rfl
        · rintro H25 ⟨s25, e25⟩
          have e25' : H25 D = some (.lst (row.map V.bl)) := by
            rw [e25, hrow, List.map_map]
            rfl
          refine ⟨t1, D, row.map V.bl, rfl, rfl, SqL.of (s25 _ _ e24), SqL.of e25', fun z hz b' e' => ?_, _, rfl, iteF ?_⟩
          · obtain ⟨c', _, hc'⟩ := List.mem_map.mp hz
            rw [e'] at hc'
            cases hc'
          · exact ⟨s23.trans (s24.trans s25), _, rfl⟩
      · rintro σ H23 ⟨s23, v7, rfl⟩
        intro b nb
        refine ⟨_, rfl, b, CB, _, _, _, true, rfl, TB, .inr (.inr upd_same), (fun _ z => z.symm ▸ rfl), vB, _, rfl, iteT ?_⟩
        exact ⟨_, rfl, b, CB, _, _, rfl, TB, .inr (.inr upd_same), kB, fun H24 t1 s24 n24 e24 => ⟨t1, _, rfl, SqL.of e24, _, rfl, q _⟩⟩

end
/-! ### what the top has written -/
theorem cl_mk {K : PySem.W.Frag} {h : Heap} {mg : Str → Option Value} (X : K.In h) (G : h.Ns mainGlobals mg) {nm f q : Str} {st : Stmt} {C fI : Addr}
    {nn qq : Str} {N : Addr} {bs bm : List Value} {sn : List Str} {sub : List Value} {ab : Bool} {col : Option Bool} {dd : Option Addr} {m0 m1 m2 m3 m5 : Option Value} {od an : Option Addr} {sl : Array (Option Value)} {oc kV dc pm cd ct : Value}
    (aC : PySem.W.nsIn K mainGlobals nm = some (some (.ref C))) (xL : K.lookup C = some (excClassObj nn qq C N bs bm true sn sub ab col dd m0 m1 m2 m3 m5 "ValueError.__new__")) (hb : PySem.HandSPX.refsVE bm = true)
    (sa : PySem.W.findIn K (.ref C) "__setattr__" = some (some (.builtin "object.__setattr__"))) (ga : PySem.W.findIn K (.ref C) "__getattribute__" = some (some (.builtin "BaseException.__getattribute__"))) (gg : PySem.W.findIn K (.ref C) "__getattr__" = some none)
    (eC : PySem.W.subIn K (.ref C) (.type "BaseException") = some true) (tC : PySem.W.typeIn K (.ref C) = some (.type "type")) (kC : PySem.W.keepIn K (.ref C) = true) (hC : PySem.W.hasDictIn K C = true)
    (ca : PySem.W.findIn K (.ref C) "__class__" = some (some (.builtin "object.__class__"))) (cn : PySem.W.specialIn K (.builtin "object.__class__") "__get__" = some (some (.builtin "getset_descriptor.__get__"))) (ct0 : PySem.W.takesIn K (.builtin "object.__class__") = some true) (cm : PySem.W.mroIn K C (.type "object") = some true)
    (no : PySem.W.findIn K (.ref C) f = some none) (a : PySem.W.findIn K (.ref C) "__init__" = some (some (.ref fI))) (t : PySem.W.typeIn K (.ref fI) = some (.type "function"))
    (l : K.lookup fI = some ⟨oc, od, .func (PySem.W.fnOf "__init__" q (defArgs st) (defBody st) (defScope st) .none kV dc pm an cd ct), sl⟩) (c : PySem.W.codeIn K cd q = true) (kp : PySem.W.keepIn K (.ref fI) = true)
    (h1 : ∀ (kV doc pm : Value) (an : Option Addr) (cdv ct : Value) (us : List Value), us.length = (["self", f] : List Str).length → bindArgs (PySem.W.fnOf "__init__" q (defArgs st) (defBody st) (defScope st) .none kV doc pm an cdv ct) ⟨us, []⟩ = pure ((["self", f] : List Str).zip us))
    (h2 : ∀ (kV doc pm : Value) (an : Option Addr) (cdv ct : Value) (u v : Value), bindArgs (PySem.W.fnOf "__init__" q (defArgs st) (defBody st) (defScope st) .none kV doc pm an cdv ct) ⟨[u], [(f, v)]⟩ = pure ((["self", f] : List Str).zip [u, v])) :
    Cl K mg nm f q st C fI (PySem.W.fnOf "__init__" q (defArgs st) (defBody st) (defScope st) .none kV dc pm an cd ct) where
  T := { ox := ⟨⟨nn, qq, N, bs, bm, sn, sub, ab, col, dd, m0, m1, m2, m3, m5, xL, hb⟩, sa, eC, tC, kC⟩, xf := ⟨ga, gg, eC, hC⟩, g := PySem.W.mg_of X G aC, ca := ca, cn := cn, ct := ct0, cm := cm }
  iC := a
  tI := t
  F := fun_mk l c kp
  no := no
  b := (fun_mk l c kp).binds h1
  kb := ⟨fun s us ws _ l1 l2 => by
    obtain ⟨u, rfl⟩ : ∃ u, us = [u] := by
      match us, l1 with
      | [u], _ => exact ⟨u, rfl⟩
    obtain ⟨v, rfl⟩ : ∃ v, ws = [v] := by
      match ws, l2 with
      | [v], _ => exact ⟨v, rfl⟩
    exact .of_eq (h2 _ _ _ _ _ _ _ _), fun r1 r2 => r1.append r2⟩
theorem cl0_mk {K : PySem.W.Frag} {h : Heap} {mg : Str → Option Value} (X : K.In h) (G : h.Ns mainGlobals mg) {nm q : Str} {st : Stmt} {C fI : Addr}
    {nn qq : Str} {N : Addr} {bs bm : List Value} {sn : List Str} {sub : List Value} {ab : Bool} {col : Option Bool} {dd : Option Addr} {m0 m1 m2 m3 m5 : Option Value} {od an : Option Addr} {sl : Array (Option Value)} {oc kV dc pm cd ct : Value}
    (aC : PySem.W.nsIn K mainGlobals nm = some (some (.ref C))) (xL : K.lookup C = some (excClassObj nn qq C N bs bm true sn sub ab col dd m0 m1 m2 m3 m5 "ValueError.__new__")) (hb : PySem.HandSPX.refsVE bm = true)
    (sa : PySem.W.findIn K (.ref C) "__setattr__" = some (some (.builtin "object.__setattr__"))) (ga : PySem.W.findIn K (.ref C) "__getattribute__" = some (some (.builtin "BaseException.__getattribute__"))) (gg : PySem.W.findIn K (.ref C) "__getattr__" = some none)
    (eC : PySem.W.subIn K (.ref C) (.type "BaseException") = some true) (tC : PySem.W.typeIn K (.ref C) = some (.type "type")) (kC : PySem.W.keepIn K (.ref C) = true) (hC : PySem.W.hasDictIn K C = true)
    (ca : PySem.W.findIn K (.ref C) "__class__" = some (some (.builtin "object.__class__"))) (cn : PySem.W.specialIn K (.builtin "object.__class__") "__get__" = some (some (.builtin "getset_descriptor.__get__"))) (ct0 : PySem.W.takesIn K (.builtin "object.__class__") = some true) (cm : PySem.W.mroIn K C (.type "object") = some true)
    (a : PySem.W.findIn K (.ref C) "__init__" = some (some (.ref fI))) (t : PySem.W.typeIn K (.ref fI) = some (.type "function"))
    (l : K.lookup fI = some ⟨oc, od, .func (PySem.W.fnOf "__init__" q (defArgs st) (defBody st) (defScope st) .none kV dc pm an cd ct), sl⟩) (c : PySem.W.codeIn K cd q = true) (kp : PySem.W.keepIn K (.ref fI) = true)
    (h1 : ∀ (kV doc pm : Value) (an : Option Addr) (cdv ct : Value) (us : List Value), us.length = (["self"] : List Str).length → bindArgs (PySem.W.fnOf "__init__" q (defArgs st) (defBody st) (defScope st) .none kV doc pm an cdv ct) ⟨us, []⟩ = pure ((["self"] : List Str).zip us)) :
    Cl0 K mg nm q st C fI (PySem.W.fnOf "__init__" q (defArgs st) (defBody st) (defScope st) .none kV dc pm an cd ct) where
  T := { ox := ⟨⟨nn, qq, N, bs, bm, sn, sub, ab, col, dd, m0, m1, m2, m3, m5, xL, hb⟩, sa, eC, tC, kC⟩, xf := ⟨ga, gg, eC, hC⟩, g := PySem.W.mg_of X G aC, ca := ca, cn := cn, ct := ct0, cm := cm }
  iC := a
  tI := t
  F := fun_mk l c kp
  b := (fun_mk l c kp).binds h1
theorem clB_mk {K : PySem.W.Frag} {h : Heap} {mg : Str → Option Value} (X : K.In h) (G : h.Ns mainGlobals mg) {nm : Str} {C : Addr}
    {nn qq : Str} {N : Addr} {bs bm : List Value} {sn : List Str} {sub : List Value} {ab : Bool} {col : Option Bool} {dd : Option Addr} {m0 m1 m2 m3 m5 : Option Value}
    (aC : PySem.W.nsIn K mainGlobals nm = some (some (.ref C))) (xL : K.lookup C = some (excClassObj nn qq C N bs bm true sn sub ab col dd m0 m1 m2 m3 m5 "ValueError.__new__")) (hb : PySem.HandSPX.refsVE bm = true)
    (sa : PySem.W.findIn K (.ref C) "__setattr__" = some (some (.builtin "object.__setattr__"))) (ga : PySem.W.findIn K (.ref C) "__getattribute__" = some (some (.builtin "BaseException.__getattribute__"))) (gg : PySem.W.findIn K (.ref C) "__getattr__" = some none)
    (eC : PySem.W.subIn K (.ref C) (.type "BaseException") = some true) (tC : PySem.W.typeIn K (.ref C) = some (.type "type")) (kC : PySem.W.keepIn K (.ref C) = true) (hC : PySem.W.hasDictIn K C = true)
    (ca : PySem.W.findIn K (.ref C) "__class__" = some (some (.builtin "object.__class__"))) (cn : PySem.W.specialIn K (.builtin "object.__class__") "__get__" = some (some (.builtin "getset_descriptor.__get__"))) (ct0 : PySem.W.takesIn K (.builtin "object.__class__") = some true) (cm : PySem.W.mroIn K C (.type "object") = some true) : ExTxt K mg nm C :=
  { ox := ⟨⟨nn, qq, N, bs, bm, sn, sub, ab, col, dd, m0, m1, m2, m3, m5, xL, hb⟩, sa, eC, tC, kC⟩, xf := ⟨ga, gg, eC, hC⟩, g := PySem.W.mg_of X G aC, ca := ca, cn := cn, ct := ct0, cm := cm }
theorem all_mk {lw : PySem.W.OpenLaw} {w : World} {K : PySem.W.Frag} {h : Heap} {mg : Str → Option Value} {fa : Addr} (X : K.In h) (G : h.Ns mainGlobals mg) (hfa : mg "law" = some (.ref fa))
    {C0 C1 C2 C3 C4 C5 C6 C7 C8 C9 C10 C11 C12 CB f0 f1 f2 f3 f4 f5 f6 f7 f8 f9 f10 f11 f12 g1 g2 g3 g4 g5 : Addr} {fd0 fd1 fd2 fd3 fd4 fd5 fd6 fd7 fd8 fd9 fd10 fd11 fd12 : FuncData} {od1 od2 od3 od4 od5 an1 an2 an3 an4 an5 : Option Addr} {sl1 sl2 sl3 sl4 sl5 : Array (Option Value)} {oc1 oc2 oc3 oc4 oc5 kV1 kV2 kV3 kV4 kV5 dc1 dc2 dc3 dc4 dc5 pm1 pm2 pm3 pm4 pm5 cd1 cd2 cd3 cd4 cd5 ct1 ct2 ct3 ct4 ct5 : Value}
    (c0 : Cl K mg "BadProgram" "part" "BadProgram.__init__" sI0 C0 f0 fd0)
    (c1 : Cl K mg "BadText" "line" "BadText.__init__" sI1 C1 f1 fd1)
    (c2 : Cl K mg "NotLetter" "letter" "NotLetter.__init__" sI2 C2 f2 fd2)
    (c3 : Cl K mg "BadLetters" "letter" "BadLetters.__init__" sI3 C3 f3 fd3)
    (c4 : Cl K mg "OtherLetters" "letter" "OtherLetters.__init__" sI4 C4 f4 fd4)
    (c5 : Cl K mg "TooMany" "what" "TooMany.__init__" sI5 C5 f5 fd5)
    (c6 : Cl K mg "BadTable" "place" "BadTable.__init__" sI6 C6 f6 fd6)
    (c7 : Cl K mg "BadBox" "box" "BadBox.__init__" sI7 C7 f7 fd7)
    (c8 : Cl K mg "BadGreat" "index" "BadGreat.__init__" sI8 C8 f8 fd8)
    (c9 : Cl K mg "BadPiece" "number" "BadPiece.__init__" sI9 C9 f9 fd9)
    (c10 : Cl K mg "BadWorths" "letter" "BadWorths.__init__" sI10 C10 f10 fd10)
    (c11 : Cl K mg "BadNumber" "number" "BadNumber.__init__" sI11 C11 f11 fd11)
    (c12 : Cl0 K mg "NoDeed" "NoDeed.__init__" sI12 C12 f12 fd12)
    (TB : ExTxt K mg "BoxError" CB)
    (xB : PySem.W.excIn K CB PySem.HandSPX.veTail "ValueError.__new__" = true)
    (k0 : Kit K C0 [C0, C1, C2, C3, C4, C5, C6, C7, C8, C9, C10, C11, C12] [true, false, false, false, false, false, false, false, false, false, false, false, false]) (vv0 : PySem.W.kitOne K (.ref C0) (.type "ValueError") = some true) (xx0 : PySem.W.kitOne K (.ref C0) (.ref CB) = some true)
    (k1 : Kit K C1 [C0, C1, C2, C3, C4, C5, C6, C7, C8, C9, C10, C11, C12] [false, true, false, false, false, false, false, false, false, false, false, false, false]) (vv1 : PySem.W.kitOne K (.ref C1) (.type "ValueError") = some true) (xx1 : PySem.W.kitOne K (.ref C1) (.ref CB) = some true)
    (k2 : Kit K C2 [C0, C1, C2, C3, C4, C5, C6, C7, C8, C9, C10, C11, C12] [false, false, true, false, false, false, false, false, false, false, false, false, false]) (vv2 : PySem.W.kitOne K (.ref C2) (.type "ValueError") = some true) (xx2 : PySem.W.kitOne K (.ref C2) (.ref CB) = some true)
    (k3 : Kit K C3 [C0, C1, C2, C3, C4, C5, C6, C7, C8, C9, C10, C11, C12] [false, false, false, true, false, false, false, false, false, false, false, false, false]) (vv3 : PySem.W.kitOne K (.ref C3) (.type "ValueError") = some true) (xx3 : PySem.W.kitOne K (.ref C3) (.ref CB) = some true)
    (k4 : Kit K C4 [C0, C1, C2, C3, C4, C5, C6, C7, C8, C9, C10, C11, C12] [false, false, false, false, true, false, false, false, false, false, false, false, false]) (vv4 : PySem.W.kitOne K (.ref C4) (.type "ValueError") = some true) (xx4 : PySem.W.kitOne K (.ref C4) (.ref CB) = some true)
    (k5 : Kit K C5 [C0, C1, C2, C3, C4, C5, C6, C7, C8, C9, C10, C11, C12] [false, false, false, false, false, true, false, false, false, false, false, false, false]) (vv5 : PySem.W.kitOne K (.ref C5) (.type "ValueError") = some true) (xx5 : PySem.W.kitOne K (.ref C5) (.ref CB) = some true)
    (k6 : Kit K C6 [C0, C1, C2, C3, C4, C5, C6, C7, C8, C9, C10, C11, C12] [false, false, false, false, false, false, true, false, false, false, false, false, false]) (vv6 : PySem.W.kitOne K (.ref C6) (.type "ValueError") = some true) (xx6 : PySem.W.kitOne K (.ref C6) (.ref CB) = some true)
    (k7 : Kit K C7 [C0, C1, C2, C3, C4, C5, C6, C7, C8, C9, C10, C11, C12] [false, false, false, false, false, false, false, true, false, false, false, false, false]) (vv7 : PySem.W.kitOne K (.ref C7) (.type "ValueError") = some true) (xx7 : PySem.W.kitOne K (.ref C7) (.ref CB) = some true)
    (k8 : Kit K C8 [C0, C1, C2, C3, C4, C5, C6, C7, C8, C9, C10, C11, C12] [false, false, false, false, false, false, false, false, true, false, false, false, false]) (vv8 : PySem.W.kitOne K (.ref C8) (.type "ValueError") = some true) (xx8 : PySem.W.kitOne K (.ref C8) (.ref CB) = some true)
    (k9 : Kit K C9 [C0, C1, C2, C3, C4, C5, C6, C7, C8, C9, C10, C11, C12] [false, false, false, false, false, false, false, false, false, true, false, false, false]) (vv9 : PySem.W.kitOne K (.ref C9) (.type "ValueError") = some true) (xx9 : PySem.W.kitOne K (.ref C9) (.ref CB) = some true)
    (k10 : Kit K C10 [C0, C1, C2, C3, C4, C5, C6, C7, C8, C9, C10, C11, C12] [false, false, false, false, false, false, false, false, false, false, true, false, false]) (vv10 : PySem.W.kitOne K (.ref C10) (.type "ValueError") = some true) (xx10 : PySem.W.kitOne K (.ref C10) (.ref CB) = some true)
    (k11 : Kit K C11 [C0, C1, C2, C3, C4, C5, C6, C7, C8, C9, C10, C11, C12] [false, false, false, false, false, false, false, false, false, false, false, true, false]) (vv11 : PySem.W.kitOne K (.ref C11) (.type "ValueError") = some true) (xx11 : PySem.W.kitOne K (.ref C11) (.ref CB) = some true)
    (k12 : Kit K C12 [C0, C1, C2, C3, C4, C5, C6, C7, C8, C9, C10, C11, C12] [false, false, false, false, false, false, false, false, false, false, false, false, true]) (vv12 : PySem.W.kitOne K (.ref C12) (.type "ValueError") = some true) (xx12 : PySem.W.kitOne K (.ref C12) (.ref CB) = some true)
    (kB : Kit K CB [C0, C1, C2, C3, C4, C5, C6, C7, C8, C9, C10, C11, C12] [false, false, false, false, false, false, false, false, false, false, false, false, false]) (vB : PySem.W.kitOne K (.ref CB) (.type "ValueError") = some true)
    (a1 : PySem.W.nsIn K mainGlobals "_law_source" = some (some (.ref g1))) (l1 : K.lookup g1 = some ⟨oc1, od1, .func (PySem.W.fnOf "_law_source" "_law_source" (defArgs sSource) (defBody sSource) (defScope sSource) .none kV1 dc1 pm1 an1 cd1 ct1), sl1⟩) (e1 : PySem.W.codeIn K cd1 "_law_source" = true) (k1' : PySem.W.keepIn K (.ref g1) = true)
    (a2 : PySem.W.nsIn K mainGlobals "_law_draw" = some (some (.ref g2))) (l2 : K.lookup g2 = some ⟨oc2, od2, .func (PySem.W.fnOf "_law_draw" "_law_draw" (defArgs sDraw) (defBody sDraw) (defScope sDraw) .none kV2 dc2 pm2 an2 cd2 ct2), sl2⟩) (e2 : PySem.W.codeIn K cd2 "_law_draw" = true) (k2' : PySem.W.keepIn K (.ref g2) = true)
    (a3 : PySem.W.nsIn K mainGlobals "_law_pick" = some (some (.ref g3))) (l3 : K.lookup g3 = some ⟨oc3, od3, .func (PySem.W.fnOf "_law_pick" "_law_pick" (defArgs sPick) (defBody sPick) (defScope sPick) .none kV3 dc3 pm3 an3 cd3 ct3), sl3⟩) (e3 : PySem.W.codeIn K cd3 "_law_pick" = true) (k3' : PySem.W.keepIn K (.ref g3) = true)
    (a4 : PySem.W.nsIn K mainGlobals "_law_kinds" = some (some (.ref g4))) (l4 : K.lookup g4 = some ⟨oc4, od4, .func (PySem.W.fnOf "_law_kinds" "_law_kinds" (defArgs sKinds) (defBody sKinds) (defScope sKinds) .none kV4 dc4 pm4 an4 cd4 ct4), sl4⟩) (e4 : PySem.W.codeIn K cd4 "_law_kinds" = true) (k4' : PySem.W.keepIn K (.ref g4) = true)
    (a5 : PySem.W.nsIn K mainGlobals "law" = some (some (.ref g5))) (l5 : K.lookup g5 = some ⟨oc5, od5, .func (PySem.W.fnOf "law" "law" (defArgs sLaw) (defBody sLaw) (defScope sLaw) .none kV5 dc5 pm5 an5 cd5 ct5), sl5⟩) (e5 : PySem.W.codeIn K cd5 "law" = true) (k5' : PySem.W.keepIn K (.ref g5) = true)
    (z1 : PySem.W.nsIn K mainGlobals "isinstance" = some none) (z2 : PySem.W.nsIn K mainGlobals "len" = some none) (z3 : PySem.W.nsIn K mainGlobals "any" = some none) (z4 : PySem.W.nsIn K mainGlobals "range" = some none) (z5 : PySem.W.nsIn K mainGlobals "ValueError" = some none) (z6 : PySem.W.nsIn K mainGlobals "int" = some none) :
    ∃ fd : FuncData, (∀ (s : Shared) (v : Value), BindsTo s fd ⟨[v], []⟩ [("_law_script", v)]) ∧ ∀ base : Heap, K.In base → base.Ns mainGlobals mg → FnOk lw.prog w K mg base CX0 3 fa fd ["_law_script"] (spLaw K) := by
  have e := hfa.symm.trans (PySem.W.mg_of X G a5)
  cases e
  have F1 := fun_mk (st := sSource) l1 e1 k1'
  have F2 := fun_mk (st := sDraw) l2 e2 k2'
  have F3 := fun_mk (st := sPick) l3 e3 k3'
  have F4 := fun_mk (st := sKinds) l4 e4 k4'
  have F5 := fun_mk (st := sLaw) l5 e5 k5'
  have b1 := F1.binds (ps := ["_law_script"]) fun _ _ _ _ _ _ us hl => match us, hl with | [_], _ => rfl
  have b2 := F2.binds (ps := ["_law_source_here", "_law_many"]) fun _ _ _ _ _ _ us hl => match us, hl with | [_, _], _ => rfl
  have b3 := F3.binds (ps := ["_law_source_here", "_law_things"]) fun _ _ _ _ _ _ us hl => match us, hl with | [_, _], _ => rfl
  have b4 := F4.binds (ps := ["_law_e"]) fun _ _ _ _ _ _ us hl => match us, hl with | [_], _ => rfl
  have n1 := PySem.W.mg_none_of X G z1
  have n2 := PySem.W.mg_none_of X G z2
  have n3 := PySem.W.mg_none_of X G z3
  have n4 := PySem.W.mg_none_of X G z4
  have n5 := PySem.W.mg_none_of X G z5
  have n6 := PySem.W.mg_none_of X G z6
  refine ⟨PySem.W.fnOf "law" "law" (defArgs sLaw) (defBody sLaw) (defScope sLaw) .none kV5 dc5 pm5 an5 cd5 ct5, fun s v => .of_eq rfl, fun base _ _ => ?_⟩
  exact ok_law F5 c0 c1 c2 c3 c4 c5 c6 c7 c8 c9 c10 c11 c12 TB xB k0 vv0 xx0 k1 vv1 xx1 k2 vv2 xx2 k3 vv3 xx3 k4 vv4 xx4 k5 vv5 xx5 k6 vv6 xx6 k7 vv7 xx7 k8 vv8 xx8 k9 vv9 xx9 k10 vv10 xx10 k11 vv11 xx11 k12 vv12 xx12 kB vB n1 n2 n3 n4 n5
    (ok_source F1 n6) b1 k1' (PySem.W.mg_of X G a1) (ok_pick F3 (ok_draw F2 n6) b2 k2' (PySem.W.mg_of X G a2) n2) b3 k3' (PySem.W.mg_of X G a3) (ok_kinds F4 c0.T.g c1.T.g c2.T.g c3.T.g c4.T.g c5.T.g c6.T.g c7.T.g c8.T.g c9.T.g c10.T.g c11.T.g c12.T.g n1) b4 k4' (PySem.W.mg_of X G a4)
theorem walk {l : PySem.W.OpenLaw} {q : Program} {loose : List Str} {XP : (Str → Option Value) → Heap → Prop} {YP : World → Heap → Prop} {d : DefRec} {K : Params → PySem.W.Frag} (hn : l.most = some 63) (hdf : d.params.defaults = [])
    (hY : ∀ (w : World) (h : Heap), YP w h → (K w.params).In h)
    (F : ∀ (w : World) (mg : Str → Option Value) (fa : Addr) (h : Heap), (K w.params).In h → h.Ns mainGlobals mg → mg d.name = some (.ref fa) →
      ∃ fd : FuncData, (∀ (s : Shared) (u : Value), BindsTo s fd ⟨[u], []⟩ [("_law_script", u)]) ∧ ∀ base : Heap, (K w.params).In base → base.Ns mainGlobals mg → FnOk l.prog w (K w.params) mg base CX0 3 fa fd ["_law_script"] (spLaw (K w.params))) :
    PySem.W.WalkO q loose XP YP l.row.toRowW d [] (fun f vs => PySem.call f vs) :=
  L2.walk_of (n := 63) (k := 3) (x := "_law_script") (CX := fun _ => CX0) (sp := fun w => spLaw (K w.params)) hn (by decide) hdf ⟨rfl, by decide, by decide⟩ hY F (fun _ _ a ns hl _ hS => ⟨a, ns, rfl, hS, hl, fun _ => rfl⟩) fun _ _ _ _ _ z => z
end Tb
open PySem PySem.W PyProof.Rows
set_option maxRecDepth 100000 in
set_option maxHeartbeats 0 in
theorem PySem.Challenge.cw_textboxes_k17_errors_made_holds : PySem.Challenge.rw_textboxes_k17_errors_made.Holds := by
  w_on; o_law; k_head; (case hw => w_witness2)
  k_fill
  refine Tb.walk (l := PySem.Challenge.rw_textboxes_k17_errors_made) rfl rfl (fun w h Y => PySem.W.kIn_of Y) ?F
  case F =>
    intro w mg fa h KX G hmg
    refine' Tb.all_mk KX G hmg
      (Tb.cl_mk KX G ?aC0 ?xL0 ?hb0 ?sa0 ?ga0 ?gg0 ?eC0 ?tC0 ?kC0 ?hC0 ?ca0 ?cn0 ?ct0 ?cm0 ?no0 ?ai0 ?ti0 ?li0 ?ci0 ?kp0 (fun _ _ _ _ _ _ us hl => match us, hl with | [_, _], _ => rfl) (fun _ _ _ _ _ _ _ _ => rfl))
      (Tb.cl_mk KX G ?aC1 ?xL1 ?hb1 ?sa1 ?ga1 ?gg1 ?eC1 ?tC1 ?kC1 ?hC1 ?ca1 ?cn1 ?ct1 ?cm1 ?no1 ?ai1 ?ti1 ?li1 ?ci1 ?kp1 (fun _ _ _ _ _ _ us hl => match us, hl with | [_, _], _ => rfl) (fun _ _ _ _ _ _ _ _ => rfl))
      (Tb.cl_mk KX G ?aC2 ?xL2 ?hb2 ?sa2 ?ga2 ?gg2 ?eC2 ?tC2 ?kC2 ?hC2 ?ca2 ?cn2 ?ct2 ?cm2 ?no2 ?ai2 ?ti2 ?li2 ?ci2 ?kp2 (fun _ _ _ _ _ _ us hl => match us, hl with | [_, _], _ => rfl) (fun _ _ _ _ _ _ _ _ => rfl))
      (Tb.cl_mk KX G ?aC3 ?xL3 ?hb3 ?sa3 ?ga3 ?gg3 ?eC3 ?tC3 ?kC3 ?hC3 ?ca3 ?cn3 ?ct3 ?cm3 ?no3 ?ai3 ?ti3 ?li3 ?ci3 ?kp3 (fun _ _ _ _ _ _ us hl => match us, hl with | [_, _], _ => rfl) (fun _ _ _ _ _ _ _ _ => rfl))
      (Tb.cl_mk KX G ?aC4 ?xL4 ?hb4 ?sa4 ?ga4 ?gg4 ?eC4 ?tC4 ?kC4 ?hC4 ?ca4 ?cn4 ?ct4 ?cm4 ?no4 ?ai4 ?ti4 ?li4 ?ci4 ?kp4 (fun _ _ _ _ _ _ us hl => match us, hl with | [_, _], _ => rfl) (fun _ _ _ _ _ _ _ _ => rfl))
      (Tb.cl_mk KX G ?aC5 ?xL5 ?hb5 ?sa5 ?ga5 ?gg5 ?eC5 ?tC5 ?kC5 ?hC5 ?ca5 ?cn5 ?ct5 ?cm5 ?no5 ?ai5 ?ti5 ?li5 ?ci5 ?kp5 (fun _ _ _ _ _ _ us hl => match us, hl with | [_, _], _ => rfl) (fun _ _ _ _ _ _ _ _ => rfl))
      (Tb.cl_mk KX G ?aC6 ?xL6 ?hb6 ?sa6 ?ga6 ?gg6 ?eC6 ?tC6 ?kC6 ?hC6 ?ca6 ?cn6 ?ct6 ?cm6 ?no6 ?ai6 ?ti6 ?li6 ?ci6 ?kp6 (fun _ _ _ _ _ _ us hl => match us, hl with | [_, _], _ => rfl) (fun _ _ _ _ _ _ _ _ => rfl))
      (Tb.cl_mk KX G ?aC7 ?xL7 ?hb7 ?sa7 ?ga7 ?gg7 ?eC7 ?tC7 ?kC7 ?hC7 ?ca7 ?cn7 ?ct7 ?cm7 ?no7 ?ai7 ?ti7 ?li7 ?ci7 ?kp7 (fun _ _ _ _ _ _ us hl => match us, hl with | [_, _], _ => rfl) (fun _ _ _ _ _ _ _ _ => rfl))
      (Tb.cl_mk KX G ?aC8 ?xL8 ?hb8 ?sa8 ?ga8 ?gg8 ?eC8 ?tC8 ?kC8 ?hC8 ?ca8 ?cn8 ?ct8 ?cm8 ?no8 ?ai8 ?ti8 ?li8 ?ci8 ?kp8 (fun _ _ _ _ _ _ us hl => match us, hl with | [_, _], _ => rfl) (fun _ _ _ _ _ _ _ _ => rfl))
      (Tb.cl_mk KX G ?aC9 ?xL9 ?hb9 ?sa9 ?ga9 ?gg9 ?eC9 ?tC9 ?kC9 ?hC9 ?ca9 ?cn9 ?ct9 ?cm9 ?no9 ?ai9 ?ti9 ?li9 ?ci9 ?kp9 (fun _ _ _ _ _ _ us hl => match us, hl with | [_, _], _ => rfl) (fun _ _ _ _ _ _ _ _ => rfl))
      (Tb.cl_mk KX G ?aC10 ?xL10 ?hb10 ?sa10 ?ga10 ?gg10 ?eC10 ?tC10 ?kC10 ?hC10 ?ca10 ?cn10 ?ct10 ?cm10 ?no10 ?ai10 ?ti10 ?li10 ?ci10 ?kp10 (fun _ _ _ _ _ _ us hl => match us, hl with | [_, _], _ => rfl) (fun _ _ _ _ _ _ _ _ => rfl))
      (Tb.cl_mk KX G ?aC11 ?xL11 ?hb11 ?sa11 ?ga11 ?gg11 ?eC11 ?tC11 ?kC11 ?hC11 ?ca11 ?cn11 ?ct11 ?cm11 ?no11 ?ai11 ?ti11 ?li11 ?ci11 ?kp11 (fun _ _ _ _ _ _ us hl => match us, hl with | [_, _], _ => rfl) (fun _ _ _ _ _ _ _ _ => rfl))
      (Tb.cl0_mk KX G ?aC12 ?xL12 ?hb12 ?sa12 ?ga12 ?gg12 ?eC12 ?tC12 ?kC12 ?hC12 ?ca12 ?cn12 ?ct12 ?cm12 ?ai12 ?ti12 ?li12 ?ci12 ?kp12 (fun _ _ _ _ _ _ us hl => match us, hl with | [_], _ => rfl))
      (Tb.clB_mk KX G ?aCB ?xLB ?hbB ?saB ?gaB ?ggB ?eCB ?tCB ?kCB ?hCB ?caB ?cnB ?ctB ?cmB)
      ?xB
      ⟨?q0_0, ?q0_1, ?q0_2, ?q0_3, ?q0_4, ?q0_5, ?q0_6, ?q0_7, ?q0_8, ?q0_9, ?q0_10, ?q0_11, ?q0_12, trivial⟩ ?vv0 ?xx0
      ⟨?q1_0, ?q1_1, ?q1_2, ?q1_3, ?q1_4, ?q1_5, ?q1_6, ?q1_7, ?q1_8, ?q1_9, ?q1_10, ?q1_11, ?q1_12, trivial⟩ ?vv1 ?xx1
      ⟨?q2_0, ?q2_1, ?q2_2, ?q2_3, ?q2_4, ?q2_5, ?q2_6, ?q2_7, ?q2_8, ?q2_9, ?q2_10, ?q2_11, ?q2_12, trivial⟩ ?vv2 ?xx2
      ⟨?q3_0, ?q3_1, ?q3_2, ?q3_3, ?q3_4, ?q3_5, ?q3_6, ?q3_7, ?q3_8, ?q3_9, ?q3_10, ?q3_11, ?q3_12, trivial⟩ ?vv3 ?xx3
      ⟨?q4_0, ?q4_1, ?q4_2, ?q4_3, ?q4_4, ?q4_5, ?q4_6, ?q4_7, ?q4_8, ?q4_9, ?q4_10, ?q4_11, ?q4_12, trivial⟩ ?vv4 ?xx4
      ⟨?q5_0, ?q5_1, ?q5_2, ?q5_3, ?q5_4, ?q5_5, ?q5_6, ?q5_7, ?q5_8, ?q5_9, ?q5_10, ?q5_11, ?q5_12, trivial⟩ ?vv5 ?xx5
      ⟨?q6_0, ?q6_1, ?q6_2, ?q6_3, ?q6_4, ?q6_5, ?q6_6, ?q6_7, ?q6_8, ?q6_9, ?q6_10, ?q6_11, ?q6_12, trivial⟩ ?vv6 ?xx6
      ⟨?q7_0, ?q7_1, ?q7_2, ?q7_3, ?q7_4, ?q7_5, ?q7_6, ?q7_7, ?q7_8, ?q7_9, ?q7_10, ?q7_11, ?q7_12, trivial⟩ ?vv7 ?xx7
      ⟨?q8_0, ?q8_1, ?q8_2, ?q8_3, ?q8_4, ?q8_5, ?q8_6, ?q8_7, ?q8_8, ?q8_9, ?q8_10, ?q8_11, ?q8_12, trivial⟩ ?vv8 ?xx8
      ⟨?q9_0, ?q9_1, ?q9_2, ?q9_3, ?q9_4, ?q9_5, ?q9_6, ?q9_7, ?q9_8, ?q9_9, ?q9_10, ?q9_11, ?q9_12, trivial⟩ ?vv9 ?xx9
      ⟨?q10_0, ?q10_1, ?q10_2, ?q10_3, ?q10_4, ?q10_5, ?q10_6, ?q10_7, ?q10_8, ?q10_9, ?q10_10, ?q10_11, ?q10_12, trivial⟩ ?vv10 ?xx10
      ⟨?q11_0, ?q11_1, ?q11_2, ?q11_3, ?q11_4, ?q11_5, ?q11_6, ?q11_7, ?q11_8, ?q11_9, ?q11_10, ?q11_11, ?q11_12, trivial⟩ ?vv11 ?xx11
      ⟨?q12_0, ?q12_1, ?q12_2, ?q12_3, ?q12_4, ?q12_5, ?q12_6, ?q12_7, ?q12_8, ?q12_9, ?q12_10, ?q12_11, ?q12_12, trivial⟩ ?vv12 ?xx12
      ⟨?qB_0, ?qB_1, ?qB_2, ?qB_3, ?qB_4, ?qB_5, ?qB_6, ?qB_7, ?qB_8, ?qB_9, ?qB_10, ?qB_11, ?qB_12, trivial⟩ ?vvB
      ?a1 ?l1 ?e1 ?k1
      ?a2 ?l2 ?e2 ?k2
      ?a3 ?l3 ?e3 ?k3
      ?a4 ?l4 ?e4 ?k4
      ?a5 ?l5 ?e5 ?k5
      ?z1 ?z2 ?z3 ?z4 ?z5 ?z6
    (case aC0 => k_is); (case xL0 => k_is); (case hb0 => rfl); (case sa0 => k_is); (case ga0 => k_is); (case gg0 => k_is); (case eC0 => k_is); (case tC0 => k_is); (case kC0 => k_is); (case hC0 => k_is); (case ca0 => k_is); (case cn0 => k_is); (case ct0 => k_is); (case cm0 => k_is); (case no0 => k_is); (case ai0 => k_is); (case ti0 => k_is); (case li0 => k_is); (case ci0 => k_is); (case kp0 => k_is)
    (case aC1 => k_is); (case xL1 => k_is); (case hb1 => rfl); (case sa1 => k_is); (case ga1 => k_is); (case gg1 => k_is); (case eC1 => k_is); (case tC1 => k_is); (case kC1 => k_is); (case hC1 => k_is); (case ca1 => k_is); (case cn1 => k_is); (case ct1 => k_is); (case cm1 => k_is); (case no1 => k_is); (case ai1 => k_is); (case ti1 => k_is); (case li1 => k_is); (case ci1 => k_is); (case kp1 => k_is)
    (case aC2 => k_is); (case xL2 => k_is); (case hb2 => rfl); (case sa2 => k_is); (case ga2 => k_is); (case gg2 => k_is); (case eC2 => k_is); (case tC2 => k_is); (case kC2 => k_is); (case hC2 => k_is); (case ca2 => k_is); (case cn2 => k_is); (case ct2 => k_is); (case cm2 => k_is); (case no2 => k_is); (case ai2 => k_is); (case ti2 => k_is); (case li2 => k_is); (case ci2 => k_is); (case kp2 => k_is)
    (case aC3 => k_is); (case xL3 => k_is); (case hb3 => rfl); (case sa3 => k_is); (case ga3 => k_is); (case gg3 => k_is); (case eC3 => k_is); (case tC3 => k_is); (case kC3 => k_is); (case hC3 => k_is); (case ca3 => k_is); (case cn3 => k_is); (case ct3 => k_is); (case cm3 => k_is); (case no3 => k_is); (case ai3 => k_is); (case ti3 => k_is); (case li3 => k_is); (case ci3 => k_is); (case kp3 => k_is)
    (case aC4 => k_is); (case xL4 => k_is); (case hb4 => rfl); (case sa4 => k_is); (case ga4 => k_is); (case gg4 => k_is); (case eC4 => k_is); (case tC4 => k_is); (case kC4 => k_is); (case hC4 => k_is); (case ca4 => k_is); (case cn4 => k_is); (case ct4 => k_is); (case cm4 => k_is); (case no4 => k_is); (case ai4 => k_is); (case ti4 => k_is); (case li4 => k_is); (case ci4 => k_is); (case kp4 => k_is)
    (case aC5 => k_is); (case xL5 => k_is); (case hb5 => rfl); (case sa5 => k_is); (case ga5 => k_is); (case gg5 => k_is); (case eC5 => k_is); (case tC5 => k_is); (case kC5 => k_is); (case hC5 => k_is); (case ca5 => k_is); (case cn5 => k_is); (case ct5 => k_is); (case cm5 => k_is); (case no5 => k_is); (case ai5 => k_is); (case ti5 => k_is); (case li5 => k_is); (case ci5 => k_is); (case kp5 => k_is)
    (case aC6 => k_is); (case xL6 => k_is); (case hb6 => rfl); (case sa6 => k_is); (case ga6 => k_is); (case gg6 => k_is); (case eC6 => k_is); (case tC6 => k_is); (case kC6 => k_is); (case hC6 => k_is); (case ca6 => k_is); (case cn6 => k_is); (case ct6 => k_is); (case cm6 => k_is); (case no6 => k_is); (case ai6 => k_is); (case ti6 => k_is); (case li6 => k_is); (case ci6 => k_is); (case kp6 => k_is)
    (case aC7 => k_is); (case xL7 => k_is); (case hb7 => rfl); (case sa7 => k_is); (case ga7 => k_is); (case gg7 => k_is); (case eC7 => k_is); (case tC7 => k_is); (case kC7 => k_is); (case hC7 => k_is); (case ca7 => k_is); (case cn7 => k_is); (case ct7 => k_is); (case cm7 => k_is); (case no7 => k_is); (case ai7 => k_is); (case ti7 => k_is); (case li7 => k_is); (case ci7 => k_is); (case kp7 => k_is)
    (case aC8 => k_is); (case xL8 => k_is); (case hb8 => rfl); (case sa8 => k_is); (case ga8 => k_is); (case gg8 => k_is); (case eC8 => k_is); (case tC8 => k_is); (case kC8 => k_is); (case hC8 => k_is); (case ca8 => k_is); (case cn8 => k_is); (case ct8 => k_is); (case cm8 => k_is); (case no8 => k_is); (case ai8 => k_is); (case ti8 => k_is); (case li8 => k_is); (case ci8 => k_is); (case kp8 => k_is)
    (case aC9 => k_is); (case xL9 => k_is); (case hb9 => rfl); (case sa9 => k_is); (case ga9 => k_is); (case gg9 => k_is); (case eC9 => k_is); (case tC9 => k_is); (case kC9 => k_is); (case hC9 => k_is); (case ca9 => k_is); (case cn9 => k_is); (case ct9 => k_is); (case cm9 => k_is); (case no9 => k_is); (case ai9 => k_is); (case ti9 => k_is); (case li9 => k_is); (case ci9 => k_is); (case kp9 => k_is)
    (case aC10 => k_is); (case xL10 => k_is); (case hb10 => rfl); (case sa10 => k_is); (case ga10 => k_is); (case gg10 => k_is); (case eC10 => k_is); (case tC10 => k_is); (case kC10 => k_is); (case hC10 => k_is); (case ca10 => k_is); (case cn10 => k_is); (case ct10 => k_is); (case cm10 => k_is); (case no10 => k_is); (case ai10 => k_is); (case ti10 => k_is); (case li10 => k_is); (case ci10 => k_is); (case kp10 => k_is)
    (case aC11 => k_is); (case xL11 => k_is); (case hb11 => rfl); (case sa11 => k_is); (case ga11 => k_is); (case gg11 => k_is); (case eC11 => k_is); (case tC11 => k_is); (case kC11 => k_is); (case hC11 => k_is); (case ca11 => k_is); (case cn11 => k_is); (case ct11 => k_is); (case cm11 => k_is); (case no11 => k_is); (case ai11 => k_is); (case ti11 => k_is); (case li11 => k_is); (case ci11 => k_is); (case kp11 => k_is)
    (case aC12 => k_is); (case xL12 => k_is); (case hb12 => rfl); (case sa12 => k_is); (case ga12 => k_is); (case gg12 => k_is); (case eC12 => k_is); (case tC12 => k_is); (case kC12 => k_is); (case hC12 => k_is); (case ca12 => k_is); (case cn12 => k_is); (case ct12 => k_is); (case cm12 => k_is); (case ai12 => k_is); (case ti12 => k_is); (case li12 => k_is); (case ci12 => k_is); (case kp12 => k_is)
    (case aCB => k_is); (case xLB => k_is); (case hbB => rfl); (case saB => k_is); (case gaB => k_is); (case ggB => k_is); (case eCB => k_is); (case tCB => k_is); (case kCB => k_is); (case hCB => k_is); (case caB => k_is); (case cnB => k_is); (case ctB => k_is); (case cmB => k_is)
    (case xB => k_exc)
    (case q0_0 => kit_is); (case q0_1 => kit_is); (case q0_2 => kit_is); (case q0_3 => kit_is); (case q0_4 => kit_is); (case q0_5 => kit_is); (case q0_6 => kit_is); (case q0_7 => kit_is); (case q0_8 => kit_is); (case q0_9 => kit_is); (case q0_10 => kit_is); (case q0_11 => kit_is); (case q0_12 => kit_is); (case vv0 => kit_is); (case xx0 => kit_is)
    (case q1_0 => kit_is); (case q1_1 => kit_is); (case q1_2 => kit_is); (case q1_3 => kit_is); (case q1_4 => kit_is); (case q1_5 => kit_is); (case q1_6 => kit_is); (case q1_7 => kit_is); (case q1_8 => kit_is); (case q1_9 => kit_is); (case q1_10 => kit_is); (case q1_11 => kit_is); (case q1_12 => kit_is); (case vv1 => kit_is); (case xx1 => kit_is)
    (case q2_0 => kit_is); (case q2_1 => kit_is); (case q2_2 => kit_is); (case q2_3 => kit_is); (case q2_4 => kit_is); (case q2_5 => kit_is); (case q2_6 => kit_is); (case q2_7 => kit_is); (case q2_8 => kit_is); (case q2_9 => kit_is); (case q2_10 => kit_is); (case q2_11 => kit_is); (case q2_12 => kit_is); (case vv2 => kit_is); (case xx2 => kit_is)
    (case q3_0 => kit_is); (case q3_1 => kit_is); (case q3_2 => kit_is); (case q3_3 => kit_is); (case q3_4 => kit_is); (case q3_5 => kit_is); (case q3_6 => kit_is); (case q3_7 => kit_is); (case q3_8 => kit_is); (case q3_9 => kit_is); (case q3_10 => kit_is); (case q3_11 => kit_is); (case q3_12 => kit_is); (case vv3 => kit_is); (case xx3 => kit_is)
    (case q4_0 => kit_is); (case q4_1 => kit_is); (case q4_2 => kit_is); (case q4_3 => kit_is); (case q4_4 => kit_is); (case q4_5 => kit_is); (case q4_6 => kit_is); (case q4_7 => kit_is); (case q4_8 => kit_is); (case q4_9 => kit_is); (case q4_10 => kit_is); (case q4_11 => kit_is); (case q4_12 => kit_is); (case vv4 => kit_is); (case xx4 => kit_is)
    (case q5_0 => kit_is); (case q5_1 => kit_is); (case q5_2 => kit_is); (case q5_3 => kit_is); (case q5_4 => kit_is); (case q5_5 => kit_is); (case q5_6 => kit_is); (case q5_7 => kit_is); (case q5_8 => kit_is); (case q5_9 => kit_is); (case q5_10 => kit_is); (case q5_11 => kit_is); (case q5_12 => kit_is); (case vv5 => kit_is); (case xx5 => kit_is)
    (case q6_0 => kit_is); (case q6_1 => kit_is); (case q6_2 => kit_is); (case q6_3 => kit_is); (case q6_4 => kit_is); (case q6_5 => kit_is); (case q6_6 => kit_is); (case q6_7 => kit_is); (case q6_8 => kit_is); (case q6_9 => kit_is); (case q6_10 => kit_is); (case q6_11 => kit_is); (case q6_12 => kit_is); (case vv6 => kit_is); (case xx6 => kit_is)
    (case q7_0 => kit_is); (case q7_1 => kit_is); (case q7_2 => kit_is); (case q7_3 => kit_is); (case q7_4 => kit_is); (case q7_5 => kit_is); (case q7_6 => kit_is); (case q7_7 => kit_is); (case q7_8 => kit_is); (case q7_9 => kit_is); (case q7_10 => kit_is); (case q7_11 => kit_is); (case q7_12 => kit_is); (case vv7 => kit_is); (case xx7 => kit_is)
    (case q8_0 => kit_is); (case q8_1 => kit_is); (case q8_2 => kit_is); (case q8_3 => kit_is); (case q8_4 => kit_is); (case q8_5 => kit_is); (case q8_6 => kit_is); (case q8_7 => kit_is); (case q8_8 => kit_is); (case q8_9 => kit_is); (case q8_10 => kit_is); (case q8_11 => kit_is); (case q8_12 => kit_is); (case vv8 => kit_is); (case xx8 => kit_is)
    (case q9_0 => kit_is); (case q9_1 => kit_is); (case q9_2 => kit_is); (case q9_3 => kit_is); (case q9_4 => kit_is); (case q9_5 => kit_is); (case q9_6 => kit_is); (case q9_7 => kit_is); (case q9_8 => kit_is); (case q9_9 => kit_is); (case q9_10 => kit_is); (case q9_11 => kit_is); (case q9_12 => kit_is); (case vv9 => kit_is); (case xx9 => kit_is)
    (case q10_0 => kit_is); (case q10_1 => kit_is); (case q10_2 => kit_is); (case q10_3 => kit_is); (case q10_4 => kit_is); (case q10_5 => kit_is); (case q10_6 => kit_is); (case q10_7 => kit_is); (case q10_8 => kit_is); (case q10_9 => kit_is); (case q10_10 => kit_is); (case q10_11 => kit_is); (case q10_12 => kit_is); (case vv10 => kit_is); (case xx10 => kit_is)
    (case q11_0 => kit_is); (case q11_1 => kit_is); (case q11_2 => kit_is); (case q11_3 => kit_is); (case q11_4 => kit_is); (case q11_5 => kit_is); (case q11_6 => kit_is); (case q11_7 => kit_is); (case q11_8 => kit_is); (case q11_9 => kit_is); (case q11_10 => kit_is); (case q11_11 => kit_is); (case q11_12 => kit_is); (case vv11 => kit_is); (case xx11 => kit_is)
    (case q12_0 => kit_is); (case q12_1 => kit_is); (case q12_2 => kit_is); (case q12_3 => kit_is); (case q12_4 => kit_is); (case q12_5 => kit_is); (case q12_6 => kit_is); (case q12_7 => kit_is); (case q12_8 => kit_is); (case q12_9 => kit_is); (case q12_10 => kit_is); (case q12_11 => kit_is); (case q12_12 => kit_is); (case vv12 => kit_is); (case xx12 => kit_is)
    (case qB_0 => kit_is); (case qB_1 => kit_is); (case qB_2 => kit_is); (case qB_3 => kit_is); (case qB_4 => kit_is); (case qB_5 => kit_is); (case qB_6 => kit_is); (case qB_7 => kit_is); (case qB_8 => kit_is); (case qB_9 => kit_is); (case qB_10 => kit_is); (case qB_11 => kit_is); (case qB_12 => kit_is); (case vvB => kit_is)
    (case a1 => k_is); (case l1 => k_is); (case e1 => k_is); (case k1 => k_is)
    (case a2 => k_is); (case l2 => k_is); (case e2 => k_is); (case k2 => k_is)
    (case a3 => k_is); (case l3 => k_is); (case e3 => k_is); (case k3 => k_is)
    (case a4 => k_is); (case l4 => k_is); (case e4 => k_is); (case k4 => k_is)
    (case a5 => k_is); (case l5 => k_is); (case e5 => k_is); (case k5 => k_is)
    (case z1 => k_is); (case z2 => k_is); (case z3 => k_is); (case z4 => k_is); (case z5 => k_is); (case z6 => k_is)

