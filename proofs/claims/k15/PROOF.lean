import PyProof.Rows.All
import Wide.All
import OpenK.AllK
import Wide.FinOn
import HandS.ForMost
import HandS.More
import HandS.Conv
import HandS.Replace
import HandS.ReplaceLit
import HandS.Words
import HandS.Walk
import HandS.Flow
import HandS.Style
import HandS.Strs
import HandS.Codes
import PyProof.Rows.SetFrom
import PyProof.StrWalks
import HandS.IsInst
import HandS.Iter
import HandS.DictComp
import HandS.StrMore
import HandS.Text
import HandS.ReplaceList
import PyProof.Rows.RegReprOcc
import PyProof.Rows.StrCountLaw
import HandS.DictTup
import HandS.MapObj
import PyProof.DictWalks
import KE.KDictList
import PyProof.StrBlock2
import PyProof.StrBlockI
import PyProof.Rows.StrStep
import HandS.NoneIn
import HandS.Property
import HandS.Star
import PyProof.Rows.StrPins2
import PyProof.StrLawsIn
import HandS.SortInts
import HandS.SetKeys
import PyProof.DictMoreH
import HandS.Lambda
import HandS.Nested
import KE.KDictCopyH
import HandS.OwnEq
import PyProof.NeKinds
import PyProof.Rows.StrJoinRep
import KE.KEqNest
import HandS.ListItems
import PyProof.DictFindH
import PyProof.DictRoadsH
import HandS.ClsMeth
import HandS.DeepEq
import PyProof.InstNe
import PyProof.Rows.StrRev
import PyProof.Rows.StrFirst
import PyProof.Rows.StrClip
import PyProof.Rows.StrClose
import PyProof.Rows.StrClose3
import HandS.EndTab
import KE.KNestM
import PySem.Challenge.RW_textboxes_k15_known_programs
set_option Elab.async false
set_option linter.all false
set_option maxRecDepth 100000
set_option maxHeartbeats 1000000
/-! Rules that speak of a new object without telling the heap: what stood stands (Same), the new one is at p. -/
namespace Tb
open PySem PySem.Spec PyProof.Rows L2
theorem same_upd {H : Hp} {p : Addr} {o : HO} (h : H p = none) : Same H (upd H p o) := fun b x e => by
  rw [upd_ne (ne_of_none e h)]
  exact e
theorem sql_upd {K : PySem.W.Frag} {H : Hp} {a p : Addr} {o : HO} {xs : List V} (h : SqL K H a xs) (ne : a ≠ p) : SqL K (upd H p o) a xs := by
  rcases h with (h | ⟨u, h⟩) | h
  · exact .inl (.inl (by rw [upd_ne ne]; exact h))
  · exact .inl (.inr ⟨u, by rw [upd_ne ne]; exact h⟩)
  · exact .inr h
theorem PE.weak {X : Cx} {e : Expr} {t t' : TE} (h : PE X e t) (w : ∀ σ H Q, t' σ H Q → t σ H Q) : PE X e t' := ⟨fun pins s σ H Q I z => h.run pins s σ H Q I (w σ H Q z)⟩
theorem PA.weak {X : Cx} {es : List Expr} {t t' : TA} (h : PA X es t) (w : ∀ σ H Q, t' σ H Q → t σ H Q) : PA X es t' := ⟨fun pos pins s σ H Q I z => h.run pos pins s σ H Q I (w σ H Q z)⟩
theorem OpR.weak {X : Cx} {f : Value → Value → Sem Value} {r r' : R2} (h : OpR X f r) (w : ∀ x y H Q, r' x y H Q → r x y H Q) : OpR X f r' := fun pins s σ H x y v u Q I rx ry z => h pins s σ H x y v u Q I rx ry (w x y H Q z)
theorem CallR.weak {X : Cx} {f : Value} {r r' : List V → Hp → VK → Prop} (h : CallR X f r) (w : ∀ xs H Q, r' xs H Q → r xs H Q) : CallR X f r' := fun pins s σ H xs us Q I rx z => h pins s σ H xs us Q I rx (w xs H Q z)
/-- what holds of a new object o -/
def New (H : Hp) (o : HO) (Q : VK) : Prop := ∀ p H', Same H H' → H p = none → H' p = some o → Q (.ref p) H'
theorem New.at {H : Hp} {o : HO} {Q : VK} (h : New H o Q) : ∀ p, H p = none → Q (.ref p) (upd H p o) := fun p np => h p _ (same_upd np) np upd_same
theorem tYes_if {A B : Hp → Prop} {σ : L2.St} {H : Hp} (h : A H) : tYes σ H (fun b H3 => if b = true then A H3 else B H3) := by
  show (if true = true then A H else B H)
  rw [if_pos rfl]
  exact h
section
variable {X : Cx} {es : List Expr} {t : TA} {p : Pos}
def tLstS (t : TA) : TE := fun σ H Q => t σ H fun xs H1 => xs.length ≤ sizeLine ∧ New H1 (.lst xs) Q
def tTupS (t : TA) : TE := fun σ H Q => t σ H fun xs H1 => xs.length ≤ sizeLine ∧ New H1 (.tup xs) Q
theorem PA.mono (h : PA X es t) : PA X es (fun σ H Q => ∃ R, t σ H R ∧ ∀ xs H1, R xs H1 → Q xs H1) := ⟨fun pos pins s σ H Q I ⟨R, z, m⟩ => thn (h.run pos pins s σ H R I z) fun us s1 ⟨vs, H1, I1, r1, q1⟩ => ⟨vs, H1, I1, r1, m vs H1 q1⟩⟩
theorem pe_lstS (h : PA X es t) : PE X (.List es p) (tLstS t) := PE.weak (pe_lst (PA.mono h)) fun σ H Q z => ⟨_, z, fun xs H1 q => ⟨q.1, q.2.at⟩⟩
theorem pe_tupS {k : Nat} (h : PA X es t) : PE X (.Tuple es k p) (tTupS t) := PE.weak (pe_tup (PA.mono h)) fun σ H Q z => ⟨_, z, fun xs H1 q => ⟨q.1, q.2.at⟩⟩
def rCatS : R2 := fun x y H Q => ∃ l b xs zs ys, x = .ref l ∧ y = .ref b ∧ H l = some (.lst xs) ∧ H b = some (.lst zs) ∧ xs.length + zs.length ≤ sizeLine ∧ xs ++ zs = ys ∧ New H (.lst ys) Q
theorem op_catS : OpR X (binaryOp .Add) rCatS := OpR.weak op_cat fun x y H Q ⟨l, b, xs, zs, ys, e1, e2, h1, h2, hl, e, h⟩ => ⟨l, b, xs, zs, e1, e2, h1, h2, hl, by rw [e]; exact h.at⟩
def rRepS : R2 := fun x y H Q => ∃ l k xs ys, x = .ref l ∧ y = .int k ∧ H l = some (.lst xs) ∧ -(2 ^ 63) ≤ k ∧ k < 2 ^ 63 ∧ xs.length * k.toNat ≤ sizeLine ∧ (List.replicate k.toNat xs).flatten = ys ∧ New H (.lst ys) Q
theorem op_repS : OpR X (binaryOp .Mult) rRepS := OpR.weak op_rep fun x y H Q ⟨l, k, xs, ys, e1, e2, h1, k0, k1, hl, e, h⟩ => ⟨l, k, xs, e1, e2, h1, k0, k1, hl, by rw [e]; exact h.at⟩
def tNewK : TE := fun _ H Q => New H (.dK []) Q
def tNewT : TE := fun _ H Q => New H (.dT []) Q
theorem pe_newK : PE X (.Dict [] [] p) tNewK := PE.weak pe_dnewK fun σ H Q z => z.at
theorem pe_newT : PE X (.Dict [] [] p) tNewT := PE.weak pe_dnewT fun σ H Q z => z.at
def rLen (K : PySem.W.Frag) : List V → Hp → VK → Prop := fun xs H Q => ∃ p ys, xs = [.ref p] ∧ (SqL K H p ys ∨ SqT K H p ys) ∧ Q (.int ys.length) H
theorem call_lenS : CallR X (.builtin "len") (rLen X.K) := call_len_seq
def num (k : Nat) : V := .int (k : Int)
theorem rgV_num (m : Nat) : rgV 0 (m : Int) = (List.range m).map num := by
  unfold rgV
  rw [show ((m : Int) - 0).toNat = m by omega]
  exact List.map_congr_left fun i _ => congrArg V.int (Int.zero_add _)
theorem PE.mono {e : Expr} {t : TE} (h : PE X e t) : PE X e (fun σ H Q => ∃ R, t σ H R ∧ ∀ v H1, R v H1 → Q v H1) := ⟨fun pins s σ H Q I ⟨R, z, m⟩ => thn (h.run pins s σ H R I z) fun u s1 ⟨v, H1, I1, r1, q1⟩ => ⟨v, H1, I1, r1, m v H1 q1⟩⟩
/-- list(range(n)) -/
def tListN (t : TE) : TE := fun σ H Q => t σ H fun x H1 => ∃ m : Nat, x = num m ∧ m ≤ 16777216 ∧ New H1 (.lst ((List.range m).map num)) Q
theorem pe_listN {e : Expr} {t : TE} {p1 p2 p3 p4 : Pos} (hc : X.calm = true) (hg : Gl X "list") (hm : X.mg "list" = none) (hg' : Gl X "range") (hm' : X.mg "range" = none) (h : PE X e t) (hs : starEach [e] X.env = (false, eval e X.env) :: starEach [] X.env := by rfl) :
    PE X (.Call (.Name "list" p1) [.Call (.Name "range" p2) [e] [] p3] [] p4) (tListN t) :=
  PE.weak (pe_listRg hc hg hm (prg_1 hg' hm' (PE.mono h) (na := hs))) fun σ H Q z => ⟨_, z, fun v H1 ⟨m, e1, l, q⟩ => ⟨(m : Int), e1, RgOk.of_le (by omega) (by omega) (by omega) (by omega), by rw [rgV_num]; exact q.at⟩⟩
end
/-- a def of the module's top that keeps a promise -/
structure Df (P : Program) (w : World) (K : PySem.W.Frag) (mg : Str → Option Value) (base : Heap) (k : Nat) (nm : Str) (ps : List Str) (sp : Sp) : Prop where
  ex : ∃ f fd, FnOk P w K mg base CX0 k f fd ps sp ∧ Binds K fd ps [] ∧ PySem.W.keepIn K (.ref f) = true ∧ mg nm = some (.ref f)
theorem Df.imp {P : Program} {w : World} {K : PySem.W.Frag} {mg : Str → Option Value} {base : Heap} {k : Nat} {nm : Str} {ps : List Str} {sp sp' : Sp} (D : Df P w K mg base k nm ps sp) (h : ∀ vs H Q E, sp' vs H Q E → sp vs H Q E) : Df P w K mg base k nm ps sp' := by
  obtain ⟨f, fd, G, b, kp, m⟩ := D.ex
  exact ⟨f, fd, G.imp h, b, kp, m⟩
theorem pe_df {X : Cx} {k j : Nat} {nm : Str} {ps : List Str} {sp : Sp} {e : Expr} {es : List Expr} {t : TA} {p pos : Pos} (D : Df X.prog X.w X.K X.mg X.base k nm ps sp) (hr : Room j X.A) (ha : PA X (e :: es) t) (hg : Gl X nm := by rfl) (hk : k ≤ j := by omega)
    (hdb : (nm == ("__debug__" : Str)) = false := by decide) (he : starEach (e :: es) X.env = (false, eval e X.env) :: starEach es X.env := by rfl) (hpl : (backTo pos (starEach es X.env)).any (·.1) = false := by rfl) :
    PE X (.Call (.Name nm p) (e :: es) [] pos) (tCall sp [] E0 t) := by
  obtain ⟨f, fd, G, b, kp, m⟩ := D.ex
  exact pe_call G (hr.mono hk) hg m kp b .nil pass0 ha hdb he hpl
end Tb

set_option Elab.async false
set_option linter.all false
set_option maxRecDepth 100000
set_option maxHeartbeats 2000000
/-! judgements for a state in which a token is out: 1 <= toks -/
namespace Tb
open PySem PySem.Spec PyProof.Rows L2
section
variable {X : Cx}
/-- behind anything a token is still out -/
theorem thnT {α : Type} {t : Sem α} {Q Q' : α → Shared → Prop} {M : Model} {A : Around} {E : Value → Shared → Prop} {s : Shared} (h0 : 1 ≤ s.toks) (h : wpAny M A t Q E s) (hQ : ∀ a s', 1 ≤ s'.toks → Q a s' → Q' a s') : wpAny M A t Q' E s :=
  wpAny_mono (PySem.wpAny_toks h) (fun a s' q => hQ a s' (Nat.le_trans h0 q.1) q.2) fun _ _ z => z.2
def PTT (X : Cx) (e : Expr) (t : TT) : Prop :=
  ∀ (pins : List (Addr × Obj)) (s : Shared) (σ : L2.St) (H : Hp) (Q : Bool → Hp → Prop), 1 ≤ s.toks → Inv X pins σ H s → t σ H Q → wpAny (model X.prog X.w) X.A (isTrue e X.env (eval e X.env)) (TP X pins σ Q) X.xe s
def PWT (X : Cx) (e : Expr) (t : TT) : Prop :=
  ∀ (whole : Sem Value) (pins : List (Addr × Obj)) (s : Shared) (σ : L2.St) (H : Hp) (Q : Bool → Hp → Prop), 1 ≤ s.toks → Inv X pins σ H s → t σ H Q → wpAny (model X.prog X.w) X.A (isTrue e X.env whole) (TP X pins σ Q) X.xe s
variable {e a b c : Expr} {te ta tb : TE} {t tA tB' : TT} {rest : List Expr} {pos : Pos}
theorem PET.of (h : PE X e te) : PET X e te := fun pins s σ H Q _ I q => h.run pins s σ H Q I q
theorem PTT.of (h : PT X e t) : PTT X e t := fun pins s σ H Q _ I q => h.run pins s σ H Q I q
theorem PWT.of (h : PW X e t) : PWT X e t := fun wh pins s σ H Q _ I q => h.run wh pins s σ H Q I q
theorem PWT.pt (h : PWT X e t) : PTT X e t := h _
theorem PAT.of {es : List Expr} {ta : TA} (h : PA X es ta) : PAT X es ta := fun pos pins s σ H Q _ I q => h.run pos pins s σ H Q I q
theorem ptt_val (h : PET X e te) (he : ∀ whole, isTrue e X.env whole = (do let v ← whole; standAt e.pos; holding [v] (truthy v)) := by intro _; rfl) : PTT X e (tB te) := by
  intro pins s σ H Q h0 I hw
  refine isTrue_plain (thn (h pins s σ H _ h0 I hw) fun v s1 ⟨x, H1, I1, r1, q1⟩ => ?_) (he _)
  obtain ⟨d, rfl, q⟩ := q1
  cases r1
  exact wpAny_truthy_bool ⟨H1, I1, q⟩
theorem ptt_not (ha : PTT X a tA) : PTT X (.UnaryOp .Not a pos) (tNot tA) := by
  intro pins s σ H Q h0 I h
  exact isTrue_not (ha pins s σ H (fun c H1 => Q (!c) H1) h0 I h)
theorem pwt_and1 (ha : PTT X a tA) : PWT X (.BoolOp .And [a] pos) tA := by
  intro wh pins s σ H Q h0 I h
  refine isTrue_and (thn (ha pins s σ H Q h0 I h) fun c s1 e => ?_)
  cases c with
  | true => exact isTrue_and_nil e
  | false => exact e
theorem pwt_or1 (ha : PTT X a tA) : PWT X (.BoolOp .Or [a] pos) tA := by
  intro wh pins s σ H Q h0 I h
  refine isTrue_or (thn (ha pins s σ H Q h0 I h) fun c s1 e => ?_)
  cases c with
  | false => exact isTrue_or_nil e
  | true => exact e
theorem pwt_and (ha : PTT X a tA) (hb : PWT X (.BoolOp .And (b :: rest) pos) tB') : PWT X (.BoolOp .And (a :: b :: rest) pos) (tAnd tA tB') := by
  intro wh pins s σ H Q h0 I h
  refine isTrue_and (thnT h0 (ha pins s σ H _ h0 I h) fun c s1 h1 ⟨H1, I1, q1⟩ => ?_)
  cases c with
  | true => exact hb wh pins s1 σ H1 Q h1 I1 q1
  | false => exact ⟨H1, I1, q1⟩
theorem pwt_or (ha : PTT X a tA) (hb : PWT X (.BoolOp .Or (b :: rest) pos) tB') : PWT X (.BoolOp .Or (a :: b :: rest) pos) (tOr tA tB') := by
  intro wh pins s σ H Q h0 I h
  refine isTrue_or (thnT h0 (ha pins s σ H _ h0 I h) fun c s1 h1 ⟨H1, I1, q1⟩ => ?_)
  cases c with
  | true => exact ⟨H1, I1, q1⟩
  | false => exact hb wh pins s1 σ H1 Q h1 I1 q1
theorem pet_one {op} (h : PET X a ta) : PET X (.BoolOp op [a] pos) ta := fun pins s σ H Q h0 I hw => BoolOp_one (h pins s σ H Q h0 I hw)
theorem pet_and (ha : PET X a ta) (hb : PET X (.BoolOp .And (b :: rest) pos) tb) : PET X (.BoolOp .And (a :: b :: rest) pos) (tAndV ta tb) := by
  intro pins s σ H Q h0 I h
  refine BoolOp_and (thnT h0 (ha pins s σ H _ h0 I h) fun v s1 h1 ⟨x, H1, I1, r1, q1⟩ => ?_)
  obtain ⟨c, rfl, q1⟩ := q1
  cases r1
  refine wpAny_truthy_bool ?_
  cases c with
  | true => exact hb pins s1 σ H1 Q h1 I1 q1
  | false => exact ⟨.bl false, H1, I1, rfl, q1⟩
theorem pet_or (ha : PET X a ta) (hb : PET X (.BoolOp .Or (b :: rest) pos) tb) : PET X (.BoolOp .Or (a :: b :: rest) pos) (tOrV ta tb) := by
  intro pins s σ H Q h0 I h
  refine BoolOp_or (thnT h0 (ha pins s σ H _ h0 I h) fun v s1 h1 ⟨x, H1, I1, r1, q1⟩ => ?_)
  obtain ⟨c, rfl, q1⟩ := q1
  cases r1
  refine wpAny_truthy_bool ?_
  cases c with
  | false => exact hb pins s1 σ H1 Q h1 I1 q1
  | true => exact ⟨.bl true, H1, I1, rfl, q1⟩
theorem pet_ifExp (hc : PTT X c tA) (ha : PET X a ta) (hb : PET X b tb) : PET X (.IfExp c a b pos) (tIf tA ta tb) := by
  intro pins s σ H Q h0 I h
  refine wpAny_IfExp (thnT h0 (hc pins s σ H _ h0 I h) fun d s1 h1 ⟨H1, I1, q1⟩ => ?_)
  cases d with
  | true => exact ha pins s1 σ H1 Q h1 I1 q1
  | false => exact hb pins s1 σ H1 Q h1 I1 q1
theorem pet_lock (h : PET X e te) : PET X e (tLockE te) := by
  intro pins s σ H Q h0 I hw
  obtain ⟨d, u, hd, mu, hw⟩ := hw
  obtain ⟨od, I1⟩ := I.lock hd mu
  refine thn (h pins s σ _ _ h0 I1 (hw od)) fun v s1 ⟨x, H1, I2, r, e2, q⟩ => ?_
  exact ⟨x, _, I2.unlock e2 (I.nofrz hd mu), r, q⟩
/-! ### statements -/
variable {st : Stmt} {sts : List Stmt} {u w' : TS}
theorem psst_one' (h1 : PST X st u) : PSsT X [st] u := by
  intro pins s σ H D h0 I h
  refine wpAny_execs_cons (thn (h1 pins s σ H D h0 I h) fun f s1 q => ?_)
  cases f with
  | next => exact wpAny_execs_nil q
  | ret v => exact q
  | brk => exact q
  | cont => exact q
theorem pst_if' {c : Expr} {x y : List Stmt} {tc : TT} (hc : PTT X c tc) (ha : PSsT X x u) (hb : PSsT X y w') : PST X (.If c x y pos) (tIfS tc u w') := by
  intro pins s σ H D h0 I h
  refine wpAny_If (thnT h0 (hc pins s σ H _ h0 I h) fun d s1 h1 ⟨H1, I1, q1⟩ => ?_)
  cases d with
  | true => exact ha pins s1 σ H1 D h1 I1 q1
  | false => exact hb pins s1 σ H1 D h1 I1 q1
theorem pst_ret' (he : PET X e te) : PST X (.Return (some e) pos) (tRet te) := by
  intro pins s σ H D h0 I h
  exact wpAny_Return_some (thn (he pins s σ H _ h0 I h) fun v s1 ⟨x, H1, I1, r1, q1⟩ => ⟨x, σ, H1, I1, r1, q1⟩)
theorem pst_expr (he : PET X e te) (hs : swapsWith e none pos.line X.env = pure false := by rfl) : PST X (.Expr e pos) (tDrop te) := by
  intro pins s σ H D h0 I h
  exact wpAny_Expr_any (thn (he pins s σ H _ h0 I h) fun v s1 ⟨x, H1, I1, r1, q1⟩ => ⟨σ, H1, I1, q1⟩) I.quiet hs
theorem pst_asg {tg : Expr} {g : TG} (he : PET X e te) (hg : PG X tg g) (hs : swapsWithSole [tg] e pos.line X.env = pure false := by rfl) (hw : swappedStores [tg] e X.env = pure none := by rfl)
    (h1 : (assignEach [tg] X.env).map (·.2) = [assign tg X.env] := by rfl) : PST X (.Assign [tg] e pos) (tAsg te g) := by
  intro pins s σ H D h0 I h
  refine wpAny_Assign_stores (thn (he pins s σ H _ h0 I h) fun v s1 ⟨x, H1, I1, r1, q1⟩ => ?_) hs hw
  rw [h1]
  exact thn (hg.run pins s1 σ H1 x v _ I1 r1 q1) fun _ s2 q => q
theorem pst_set {i : Nat} {x : Str} {pos' : Pos} (hN : X.N.Nodup) (hi : X.N[i]? = some x) (hx : Loc X.env.scope x) (he : PET X e te) (hs : swapsWith e (some (.Name x pos')) pos.line X.env = pure false := by rfl) (hf : X.fn x = true ∨ X.env.scope.names.lookup x = some .local := by first | exact .inl rfl | exact .inr rfl | assumption) :
    PST X (.Assign [.Name x pos'] e pos) (tAsg te (gName i)) := by
  intro pins s σ H D h0 I h
  refine wpAny_Assign_Name (thn (he pins s σ H _ h0 I h) fun v s1 ⟨y, H1, I1, r1, q1⟩ => ?_) hs
  exact store_ok I1 hN hi hx r1 (fun s2 I2 => ⟨_, H1, I2, q1⟩) hf
theorem pst_lock (h : PST X st u) : PST X st (tLock u) := by
  intro pins s σ H D h0 I hw
  obtain ⟨d, o, hd, mu, hw⟩ := hw
  obtain ⟨od, I1⟩ := I.lock hd mu
  refine thn (h pins s σ _ _ h0 I1 (hw od)) fun f s1 q => ?_
  cases f with
  | next => obtain ⟨σ', H', I2, e, q⟩ := q; exact ⟨σ', _, I2.unlock e (I.nofrz hd mu), q⟩
  | brk => obtain ⟨σ', H', I2, e, q⟩ := q; exact ⟨σ', _, I2.unlock e (I.nofrz hd mu), q⟩
  | cont => obtain ⟨σ', H', I2, e, q⟩ := q; exact ⟨σ', _, I2.unlock e (I.nofrz hd mu), q⟩
  | ret v => obtain ⟨x, σ', H', I2, r, e, q⟩ := q; exact ⟨x, σ', _, I2.unlock e (I.nofrz hd mu), r, q⟩
end
end Tb

set_option Elab.async false
set_option linter.all false
set_option maxRecDepth 100000
set_option maxHeartbeats 2000000
/-! defs, classes, loops, where a token is out -/
namespace Tb
open PySem PySem.Spec PyProof.Rows L2
/-- a def that keeps its promise where a token is out -/
structure FnT (P : Program) (w : World) (K : PySem.W.Frag) (mg : Str → Option Value) (base : Heap) (k : Nat) (f : Addr) (fd : FuncData) (ps : List Str) (sp : Sp) : Prop where
  len : ∀ vs H Q E, sp vs H Q E → vs.length = ps.length
  run : ∀ (A : Around) (outer : List Env) (s : Shared) (H : Hp) (args : Args) (us : List Value) (vs : List V) (Q : VK) (E : XK), 1 ≤ s.toks → Room k A → Env0 P w K mg base A outer s H → BindsTo s fd args (ps.zip us) → Vals vs us → sp vs H Q E →
    codeAny (model P w) A (.call (.ref f) args) (CR CX0 outer P w H s Q E) s
section
variable {P : Program} {w : World} {K : PySem.W.Frag} {mg : Str → Option Value} {base : Heap}
theorem FnT.of {k : Nat} {f : Addr} {fd : FuncData} {ps : List Str} {sp : Sp} (F : FnOk P w K mg base CX0 k f fd ps sp) : FnT P w K mg base k f fd ps sp :=
  ⟨F.len, fun A outer s H args us vs Q E _ hr e0 b r h => F.run A outer s H args us vs Q E hr e0 b r h⟩
theorem FnT.imp {k : Nat} {f : Addr} {fd : FuncData} {ps : List Str} {sp sp' : Sp} (F : FnT P w K mg base k f fd ps sp) (h : ∀ vs H Q E, sp' vs H Q E → sp vs H Q E) : FnT P w K mg base k f fd ps sp' :=
  ⟨fun vs H Q E q => F.len vs H Q E (h _ _ _ _ q), fun A outer s H args us vs Q E h0 hr he hb hv hs => F.run A outer s H args us vs Q E h0 hr he hb hv (h _ _ _ _ hs)⟩
/-- THE RULE for a def -/
theorem fun_okT {x qual : Str} {st : Stmt} {f : Addr} {fd : FuncData} {N ps : List Str} {k : Nat} {sp : Sp} (F : Fun K x qual st f fd) (S : FnScope N ps (defScope st)) (len : ∀ vs H Q E, sp vs H Q E → vs.length = ps.length)
    (hbody : ∀ (cdv : Value) (A : Around) (outer : List Env) (s : Shared) (H : Hp) (vs : List V) (Q : VK) (E : XK), Room k (A.deeper (envOfC qual (defScope st) s.heap.objs.size f cdv)) → sp vs H Q E →
      ∃ t, PSsT (cxOf CX0 P w K mg base N qual (defScope st) f cdv A outer s H E) (defBody st) t ∧ t { nx := fun _ H' => Q .non H', rt := Q } (L2.start N vs) H) : FnT P w K mg base (k + 1) f fd ps sp := by
  obtain ⟨oc, od, kV, doc, pm, an, cdv, ct, osl, rfl, lk, hcd⟩ := F.ex
  refine ⟨len, fun A outer s H args us vs Q E h0 hr e0 hb r hsp => ?_⟩
  have hl := len _ _ _ _ hsp
  have KX : K.In s.heap := e0.mod.kin.keeps fun b o e => (e0.bs b o e).1
  have lim : s.heap.NoLimit := e0.mod.nolimit.keeps fun b o e => (e0.bs b o e).1
  have hkind : ∀ y ∈ ps.zip us, (defScope st).names.lookup y.1 = some .local ∨ ((defScope st).names.lookup y.1 = some .cell ∧ ((cellsFrom (s.heap.objs.size + 1) (defScope st).names []).lookup y.1).isSome = true) := fun ⟨n, v⟩ hy => by
    rcases S.par n (List.of_mem_zip hy).1 with q | q
    · exact .inl q
    · exact .inr ⟨q, PySem.W.cellsFrom_some _ _ _ (.inl q)⟩
  refine codeAny_call_function hr.depth (KX _ _ lk) rfl S.co S.gen rfl (PySem.W.codeRec_of KX hcd) (hb _ _ _ _ ?_)
  refine PySem.wpAny_with_toks h0 (wpAny_newFunctionEnv_cells S.kind hkind fun env he s1 x h1 => ?_)
  subst he
  refine ⟨lim.keeps x.toInCall.keep, codeAny_func ?_⟩
  obtain ⟨t, ht, hq⟩ := hbody cdv A outer s H vs Q E (hr.deeper _) hsp
  have I : Inv (cxOf CX0 P w K mg base N qual (defScope st) f cdv A outer s H E) [] (L2.start N vs) H s1 := inv_start S hr.hd e0 hl r x
  refine wpAny_mono (ht [] s1 (L2.start N vs) H _ h1 I hq) (fun fl s' hs => ?_) fun e s' hs => hs
  have fin : ∀ {σ' : L2.St} {H' : Hp} {v : V} {u : Value}, Inv (cxOf CX0 P w K mg base N qual (defScope st) f cdv A outer s H E) [] σ' H' s' → RelV v u → Q v H' → CE outer P w H s Q u s' :=
    fun {σ' H' v u} J rv q => ⟨v, H', J.os, J.bare, J.base, J.hok, rv, q⟩
  cases fl with
  | ret u =>
    obtain ⟨v, σ', H', J, rv, q⟩ := hs
    exact fin J rv q
  | next =>
    obtain ⟨σ', H', J, q⟩ := hs
    exact fin (v := V.non) (u := Value.none) J rfl q
  | brk =>
    obtain ⟨_, _, _, q⟩ := hs
    exact False.elim q
  | cont =>
    obtain ⟨_, _, _, q⟩ := hs
    exact False.elim q
end
section
variable {X : Cx} {k j : Nat} {f : Addr} {fd : FuncData} {ps : List Str} {sp : Sp} {ds : List Value} {dvs : List V} {E : XK}
theorem run_fnT {pins : List (Addr × Obj)} {σ : L2.St} {H : Hp} {s : Shared} {Q : VK} {us : List Value} {vs : List V} (F : FnT X.prog X.w X.K X.mg X.base k f fd ps sp) (h0 : 1 ≤ s.toks) (hr : Room k X.A) (hb : Binds X.K fd ps ds) (hd : Vals dvs ds)
    (I : Inv X pins σ H s) (r : Vals vs us) (h : sp (vs ++ dvs) H Q E0) : wpAny (model X.prog X.w) X.A (call (.ref f) us) (EP X pins σ Q) X.xe s := by
  have r2 : Vals (vs ++ dvs) (us ++ ds) := r.append hd
  have hl : (us ++ ds).length = ps.length := by rw [← r2.length]; exact F.len _ _ _ _ h
  refine wpAny_call (codeAny_mono (F.run X.A X.stack s H ⟨us, []⟩ (us ++ ds) (vs ++ dvs) Q E0 h0 hr I.env0 (hb s us I.kIn hl) r2 h) fun r s' hq => ?_)
  cases r with
  | error e => exact (pass0 (X := X)) pins σ H s e s' I hq
  | ok fl =>
    cases fl with
    | ret u => exact I.after hq
    | next => exact False.elim hq
    | brk => exact False.elim hq
    | cont => exact False.elim hq
theorem FnT.mono {P : Program} {w : World} {K : PySem.W.Frag} {mg : Str → Option Value} {base : Heap} (F : FnT P w K mg base j f fd ps sp) (h : j ≤ k) : FnT P w K mg base k f fd ps sp :=
  ⟨F.len, fun A outer s H args us vs Q E h0 hr => F.run A outer s H args us vs Q E h0 (hr.mono h)⟩
end
structure DfT (P : Program) (w : World) (K : PySem.W.Frag) (mg : Str → Option Value) (base : Heap) (k : Nat) (nm : Str) (ps : List Str) (sp : Sp) : Prop where
  ex : ∃ f fd, FnT P w K mg base k f fd ps sp ∧ Binds K fd ps [] ∧ PySem.W.keepIn K (.ref f) = true ∧ mg nm = some (.ref f)
theorem Df.t {P : Program} {w : World} {K : PySem.W.Frag} {mg : Str → Option Value} {base : Heap} {k : Nat} {nm : Str} {ps : List Str} {sp : Sp} (D : Df P w K mg base k nm ps sp) : DfT P w K mg base k nm ps sp := by
  obtain ⟨f, fd, G, b, kp, m⟩ := D.ex
  exact ⟨f, fd, .of G, b, kp, m⟩
theorem pet_df {X : Cx} {k j : Nat} {nm : Str} {ps : List Str} {sp : Sp} {e : Expr} {es : List Expr} {t : TA} {p pos : Pos} (D : DfT X.prog X.w X.K X.mg X.base k nm ps sp) (hr : Room j X.A) (ha : PAT X (e :: es) t) (hg : Gl X nm := by rfl) (hk : k ≤ j := by omega)
    (hdb : (nm == ("__debug__" : Str)) = false := by decide) (he : starEach (e :: es) X.env = (false, eval e X.env) :: starEach es X.env := by rfl) (hpl : (backTo pos (starEach es X.env)).any (·.1) = false := by rfl) :
    PET X (.Call (.Name nm p) (e :: es) [] pos) (tCall sp [] E0 t) := by
  obtain ⟨f, fd, G, b, kp, m⟩ := D.ex
  intro pins s σ H Q h0 I h
  refine wpAny_Call_Name_kw (PySem.wpAny_with_toks h0 (ld_glob I hg m ?_ hdb))
  intro h1
  refine PySem.W.callWith_K (h₀ := X.base) I.ok.mod.kin kp (thnT h1 (ha pos pins s σ H _ h1 I h) fun us s1 h2 ⟨vs, H1, I1, r, q⟩ => ⟨I1.kIn, ?_⟩) he hpl
  exact run_fnT G h2 (hr.mono hk) b .nil I1 r q
/-- a loop whose body wants the token -/
theorem pst_for' {X : Cx} {tg iter : Expr} {body : List Stmt} {wi : TI} {g : TG} {tb : TS} {pos : Pos} (hp : PassesOwn (model X.prog X.w) X.A X.env X.xe) (hc : X.calm = true) (hi : PI X tg iter wi) (hg : PG X tg g) (hb : PSsT X body tb)
    (hs : ∀ x, foldedSetIterable iter X.env x = pure x := by intro _; rfl) : PST X (.For tg iter body [] pos) (tFor wi g tb) := by
  intro pins s σ H D h0 I h
  refine wpAny_For (thnT h0 (hi.run pins s σ H _ I h) fun v s1 h1 hv => thnT h1 hv fun itv s2 h2 hh => ?_) hs
  obtain ⟨it, fp, tn, J, H2, e, I2, T, st2, f2, W, ⟨m0, w0⟩, turn⟩ := hh
  subst e
  have stat : ∀ {H' : Hp}, (∀ b ∈ fp, H' b = none) → ∀ b ∈ fp, FpOk X pins H' b := fun hn b hb => ⟨hn b hb, (f2 b hb).2⟩
  refine codeAny_forLoop_any (fun n s' => 1 ≤ s'.toks ∧ ∃ i σ' H', Inv X pins σ' H' s' ∧ tn i s'.heap ∧ (∀ b ∈ fp, H' b = none) ∧ W i n σ' H') ?_ m0 ⟨h2, 0, σ, H2, I2, st2, fun b hb => (f2 b hb).1, w0⟩
  rintro n s3 ⟨h3, i, σ3, H3, I3, st3, fr3, w3⟩
  rcases turn i n σ3 H3 w3 with ⟨stop, qn⟩ | ⟨go, N, hN, step⟩
  · refine wpAny_passesOwn hp (thn (T.done X rfl rfl rfl hc i pins s3 σ3 H3 X.xe I3 (stat fr3) st3 stop) fun r s4 ⟨hr, I4⟩ => ?_)
    subst hr
    exact wpAny_execs_nil ⟨σ3, H3, I4, qn⟩
  · refine wpAny_passesOwn hp (thnT h3 (T.item X rfl rfl rfl hc i pins s3 σ3 H3 X.xe I3 (stat fr3) st3 go) fun r s4 h4 ⟨u, hr, hh4⟩ => ?_)
    subst hr
    refine wpAny_passesOwn hp (thnT h4 hh4 fun _ s5 h5 ⟨x, H5, I5, r5, y5, st5, fr5⟩ => ?_)
    have I5' := I5.pinned (stat fr5) (T.obj _ _ st5)
    refine wpAny_passesOwn hp (thnT h5 (hg.run _ s5 σ3 H5 x u _ I5' r5 (step x H5 y5)) fun _ s6 h6 ⟨σ6, H6, I6, q6⟩ => ?_)
    refine wpAny_passesOwn hp (thnT h6 (hb _ s6 σ6 H6 _ h6 I6 q6) fun f s7 h7 q7 => ?_)
    have again : ∀ {σ7 : L2.St} {H7 : Hp}, Inv X (pins ++ pinsAt fp s5.heap) σ7 H7 s7 → N σ7 H7 → ∃ m, m < n ∧ 1 ≤ s7.toks ∧ ∃ i σ' H', Inv X pins σ' H' s7 ∧ tn i s7.heap ∧ (∀ b ∈ fp, H' b = none) ∧ W i m σ' H' := fun {σ7 H7} I7 n7 => by
      obtain ⟨m', hm, w7⟩ := hN σ7 H7 n7
      refine ⟨m', hm, h7, i + 1, σ7, H7, I7.unpinned, T.keep _ _ _ st5 fun b hb o e => (I7.pin (b, o) (List.mem_append_right _ (List.mem_append_right _ (mem_pinsAt hb e)))).1, fun b hb => ?_, w7⟩
      obtain ⟨o, e, d⟩ := T.obj _ _ st5 b hb
      exact (I7.pin (b, o) (List.mem_append_right _ (List.mem_append_right _ (mem_pinsAt hb e)))).2.1
    cases f with
    | next => obtain ⟨σ7, H7, I7, n7⟩ := q7; exact again I7 n7
    | cont => obtain ⟨σ7, H7, I7, n7⟩ := q7; exact again I7 n7
    | brk => obtain ⟨σ7, H7, I7, q7⟩ := q7; exact ⟨σ7, H7, I7.unpinned, q7⟩
    | ret v => obtain ⟨x7, σ7, H7, I7, r7, q7⟩ := q7; exact ⟨x7, σ7, H7, I7.unpinned, r7, q7⟩
end Tb

set_option Elab.async false
set_option linter.all false
set_option maxRecDepth 100000
set_option maxHeartbeats 4000000
/-! for x in text: if rest.count(x) > 1: return False; rest = rest.replace(x, "") -/
namespace Tb
open PySem PySem.Spec PyProof.Rows L2
section
variable {X : Cx} {pins : List (Addr × Obj)} {σ : L2.St} {H : Hp} {s : Shared}
/-- a name's store: the value is the very same, and a token is given out -/
theorem store_okN {M : Model} {A : Around} {E : Value → Shared → Prop} {i : Nat} {x : Str} {v : V} {u : Value} {Q : Unit → Shared → Prop} (I : Inv X pins σ H s) (hN : X.N.Nodup) (hi : X.N[i]? = some x) (hk : X.env.scope.names.lookup x = some .local) (r : RelV v u)
    (h : ∀ s' m, Inv X pins (σ.set i (some v)) H s' → s'.heap.Ns X.env.locals m → m x = some u → s'.toks = s.toks + 1 → Heap.SameBut X.env.locals s.heap s'.heap → Q () s') : wpAny M A (storeName X.env x u) Q E s := by
  obtain ⟨m, hn, hl⟩ := id I.loc
  have hcls : (X.env.scope.kind == .class || (X.env.scope.kind == .module && X.env.locals != X.env.globals)) = false := by rw [I.ok.kind]; rfl
  have hiσ : i < σ.length := by rw [I.len]; exact (List.getElem?_eq_some_iff.mp hi).1
  have cne := I.cne
  refine wpAny_storeName_local hk hn (fun h' hn' hs => ?_) hcls
  obtain ⟨oL, _, _, hoL, _⟩ := id hn
  have tracked : HOk X.prog X.w H h' := fun b ob e => by
    refine (I.hok b ob e).stay (fun c w' hc q => (hs.2 c ?_).trans q) (fun _ q => q) fun _ _ q => q
    rintro rfl
    rcases hc with rfl | hc
    · rw [I.free] at e; cases e
    · rw [I.free] at hc; cases hc
  refine h _ _ ⟨I.ok, I.os, I.bare, ⟨fun b o e n hb hx => ?_, fun b o e n hb hx => ?_, I.base.free, fun b o e hx => ?_, I.base.tups, I.base.frzs, I.base.tbls⟩, ⟨_, hn', fun j y v' e1 e2 e3 => ?_⟩, fun y c e => ?_, I.free, I.freeC, fun p hp => ?_, tracked, by simpa using I.len⟩ hn' (by simp) rfl hs
  · exact (hs.2 b (Nat.ne_of_lt (Nat.lt_of_lt_of_le (Heap.lt_size e) I.ok.above))).trans (I.base.keep b o e n hb hx)
  · obtain ⟨sl, e1⟩ := I.base.slot b o e n hb hx
    exact ⟨sl, (hs.2 b (Nat.ne_of_lt (Nat.lt_of_lt_of_le (Heap.lt_size e) I.ok.above))).trans e1⟩
  · obtain ⟨o', e1⟩ := I.base.there b o e hx
    exact ⟨o', (hs.2 b (Nat.ne_of_lt (Nat.lt_of_lt_of_le (Heap.lt_size e) I.ok.above))).trans e1⟩
  · by_cases hj : j = i
    · subst hj
      rw [hi] at e1; cases e1
      rw [List.getElem?_set_self hiσ] at e2
      cases e2
      exact ⟨u, r, .inl ⟨hk, by simp⟩⟩
    · rw [List.getElem?_set_ne (Ne.symm hj)] at e2
      obtain ⟨u', r', q⟩ := hl j y v' e1 e2 e3
      refine ⟨u', r', ?_⟩
      rcases q with ⟨k, e⟩ | ⟨k, c, e, z⟩
      · refine .inl ⟨k, ?_⟩
        have : y ≠ x := fun e => hj (nodup_ix hN e1 (e ▸ hi))
        simp [this, e]
      · exact .inr ⟨k, c, e, z.sameBut hs (cne y c e)⟩
  · obtain ⟨w', z⟩ := I.cell y c e
    exact ⟨w', z.sameBut hs (cne y c e)⟩
  · obtain ⟨e, n, ne, nf, d⟩ := I.pin p hp
    exact ⟨(hs.2 p.1 ne).trans e, n, ne, nf, d⟩
end
section
variable {X : Cx}
/-- behind a store a token is out -/
theorem pss_tok {i : Nat} {x : Str} {e : Expr} {te : TE} {rest : List Stmt} {u : TS} {pos' pos : Pos} (hN : X.N.Nodup) (hi : X.N[i]? = some x) (hk : X.env.scope.names.lookup x = some .local) (he : PE X e te) (h2 : PSsT X rest u)
    (hs : swapsWith e (some (.Name x pos')) pos.line X.env = pure false := by rfl) : PSs X (.Assign [.Name x pos'] e pos :: rest) (tSeq (tAsg te (gName i)) u) := by
  refine ⟨fun pins s σ H D I h => ?_⟩
  refine wpAny_execs_cons (wpAny_Assign_Name (thn (he.run pins s σ H _ I h) fun v s1 ⟨y, H1, I1, r1, q1⟩ => ?_) hs)
  exact store_okN I1 hN hi hk r1 fun s2 m I2 _ _ ht _ => h2 pins s2 _ H1 D (by omega) I2 q1
/-- a body that may use the token of the text in the name x -/
def PSb (X : Cx) (x : Str) (body : List Stmt) (i : Nat) (tb : TS) : Prop :=
  ∀ (pins : List (Addr × Obj)) (s : Shared) (σ : L2.St) (H : Hp) (D : Ends) (c : Nat) (u : Tok) (m : Str → Option Value), 1 ≤ u → u < s.toks → Inv X pins σ H s → s.heap.Ns X.env.locals m → m x = some (.str ⟨#[c]⟩ u) → σ[i]? = some (some (.str ⟨#[c]⟩)) → tb D σ H →
    wpAny (model X.prog X.w) X.A (execs body X.env) (SP X pins D) X.xe s
/-- for x in text, x's token known in the body -/
theorem pst_forS {x : Str} {i : Nat} {e : Expr} {te : TE} {body : List Stmt} {tb : TS} {px pos : Pos} (hp : PassesOwn (model X.prog X.w) X.A X.env X.xe) (hc : X.calm = true) (hN : X.N.Nodup) (hi : X.N[i]? = some x) (hk : X.env.scope.names.lookup x = some .local)
    (he : PE X e te) (hb : PSb X x body i tb) (hs : ∀ x, foldedSetIterable e X.env x = pure x := by intro _; rfl) : PST X (.For (.Name x px) e body [] pos) (tFor (iStr te) (gName i) tb) := by
  intro pins s σ H D h0 I h
  refine wpAny_For (thnT h0 (he.run pins s σ H _ I h) fun v s1 h1 ⟨y, H2, I1, r1, z, ez, W, ⟨m0, w0⟩, turn⟩ => ?_) hs
  subst ez
  obtain ⟨t, rfl⟩ := r1
  obtain ⟨ty, hty, key⟩ : ∃ ty, (ty = "str_ascii_iterator" ∨ ty = "str_iterator") ∧ ∀ Q : Value → Shared → Prop, Q (.ref s1.heap.objs.size) { s1 with heap := s1.heap.push { cls := .type ty, data := .fields #[.str z t, .int 0 0] } } → wpAny (model X.prog X.w) X.A (pyIter (.str z t)) Q X.xe s1 := by
    cases ha : z.cps.all (· < 128)
    · exact ⟨_, .inr rfl, fun Q h => wpAny_pyIter_wide ha h⟩
    · exact ⟨_, .inl rfl, fun Q h => wpAny_pyIter_ascii ha h⟩
  have T := turn_str (P := X.prog) (w := X.w) (K := X.K) (tg := .Name x px) s1.heap.objs.size z t ty hty
  have item : ∀ {s3 : Shared} {j c : Nat} {Q : Option Value → Shared → Prop}, s3.heap.IsStrIter s1.heap.objs.size ty z t j → z.cps[j]? = some c →
      (∀ h', h'.IsStrIter s1.heap.objs.size ty z t (j + 1) → Heap.SameBut s1.heap.objs.size s3.heap h' → Q (some (.str ⟨#[c]⟩ s3.toks)) { s3 with heap := h', toks := s3.toks + 1 }) → wpAny (model X.prog X.w) X.A (pyNext (.ref s1.heap.objs.size)) Q X.xe s3 := fun {s3 j c Q} st hx hQ => by
    rcases hty with e | e
    · subst e
      exact wpAny_pyNext_ascii_item st hx hQ
    · subst e
      exact wpAny_pyNext_wide_item st hx hQ
  have hno : ["enumerate", "zip", "dict_itemiterator", "dict_reverseitemiterator", "odict_iterator", "itertools.zip_longest", "itertools.pairwise"].contains ty = false := by
    rcases hty with e | e
    · rw [e]; decide
    · rw [e]; decide
  refine key _ ?_
  have I2 : Inv X pins σ H2 { s1 with heap := s1.heap.push { cls := .type ty, data := .fields #[.str z t, .int 0 0] } } := I1.kept (t' := s1.toks) fun b ob q => Heap.get?_push_of_some _ q
  have f2 : ∀ b ∈ [s1.heap.objs.size], FpOk X pins H2 b := fun b hb => by
    rw [List.mem_singleton.mp hb]
    exact I1.fpOk (Nat.le_refl _) (I1.hok.fresh (Nat.le_refl _))
  have st2 : (s1.heap.push { cls := .type ty, data := .fields #[.str z t, .int 0 0] }).IsStrIter s1.heap.objs.size ty z t 0 := ⟨_, Heap.get?_push_size _ rfl, rfl, rfl⟩
  have stat : ∀ {H' : Hp}, (∀ b ∈ [s1.heap.objs.size], H' b = none) → ∀ b ∈ [s1.heap.objs.size], FpOk X pins H' b := fun hn b hb => ⟨hn b hb, (f2 b hb).2⟩
  obtain ⟨it, hit⟩ : ∃ it, it = s1.heap.objs.size := ⟨_, rfl⟩
  rw [← hit] at T item f2 st2 stat ⊢
  refine codeAny_forLoop_any (fun n s' => 1 ≤ s'.toks ∧ ∃ i' σ' H', Inv X pins σ' H' s' ∧ s'.heap.IsStrIter it ty z t i' ∧ (∀ b ∈ [it], H' b = none) ∧ W i' n σ' H') ?_ m0 ⟨h1, 0, σ, H2, I2, st2, fun b hb => (f2 b hb).1, w0⟩
  rintro n s3 ⟨h3, i', σ3, H3, I3, st3, fr3, w3⟩
  rcases turn i' n σ3 H3 w3 with ⟨stop, qn⟩ | ⟨go, N, hNN, step⟩
  · refine wpAny_passesOwn hp (thn (T.done X rfl rfl rfl hc i' pins s3 σ3 H3 X.xe I3 (stat fr3) st3 stop) fun r s4 ⟨hr, I4⟩ => ?_)
    subst hr
    exact wpAny_execs_nil ⟨σ3, H3, I4, qn⟩
  · have go : i' < z.cps.size := go
    have hx : z.cps[i']? = some z.cps[i'] := Array.getElem?_eq_getElem go
    obtain ⟨c, hcx⟩ : ∃ c, z.cps[i']? = some c := ⟨_, hx⟩
    obtain ⟨f0, f1, f3, f4, f5, f6⟩ := stat fr3 it (List.mem_singleton.mpr rfl)
    refine wpAny_passesOwn hp (thn (item (Q := fun r s4 => r = some (.str ⟨#[c]⟩ s3.toks) ∧ ∃ h', s4 = { s3 with heap := h', toks := s3.toks + 1 } ∧ h'.IsStrIter it ty z t (i' + 1) ∧ Heap.SameBut it s3.heap h') st3 hcx fun h' a b => ⟨rfl, h', rfl, a, b⟩) fun r s4 ⟨hr, h', e4, st4, sb⟩ => ?_)
    subst hr e4
    have I4 : Inv X pins σ3 H3 { s3 with heap := h', toks := s3.toks + 1 } := I3.turned (fun b o hb e => (sb.2 b hb).trans e) f0 f1 f4 f5 f6
    obtain ⟨oi, eo, co, dd⟩ := id st4
    refine wpAny_passesOwn hp (go_of (s := { s3 with heap := h', toks := s3.toks + 1 }) eo co dd hno ?_)
    have I5' := I4.pinned (fp := [it]) (fun b hb => stat fr3 b hb) (T.obj (i' + 1) h' st4)
    refine wpAny_passesOwn hp (wpAny_assign_Name (store_okN I5' hN hi hk (v := V.str ⟨#[c]⟩) ⟨_, rfl⟩ fun s6 m I6 n6 e6 t6 _ => ?_))
    have q6 := step (.str ⟨#[c]⟩) H3 ⟨rfl, c, hcx, rfl⟩
    have hiσ : i < σ3.length := by rw [I3.len]; exact (List.getElem?_eq_some_iff.mp hi).1
    have t6' : s6.toks = s3.toks + 1 + 1 := t6
    refine wpAny_passesOwn hp (thnT (by rw [t6']; exact Nat.succ_le_succ (Nat.zero_le _)) (hb _ s6 _ _ _ c s3.toks m h3 (show s3.toks < s6.toks by rw [t6']; exact Nat.lt_succ_of_lt (Nat.lt_succ_self _)) I6 n6 e6 (by rw [List.getElem?_set_self hiσ]) q6) fun f s7 h7 q7 => ?_)
    have again : ∀ {σ7 : L2.St} {H7 : Hp}, Inv X (pins ++ pinsAt [it] h') σ7 H7 s7 → N σ7 H7 → ∃ m, m < n ∧ 1 ≤ s7.toks ∧ ∃ i' σ' H', Inv X pins σ' H' s7 ∧ s7.heap.IsStrIter it ty z t i' ∧ (∀ b ∈ [it], H' b = none) ∧ W i' m σ' H' := fun {σ7 H7} I7 n7 => by
      obtain ⟨m', hm, w7⟩ := hNN σ7 H7 n7
      refine ⟨m', hm, h7, i' + 1, σ7, H7, I7.unpinned, T.keep _ _ _ st4 fun b hb o e => (I7.pin (b, o) (List.mem_append_right _ (List.mem_append_right _ (mem_pinsAt hb e)))).1, fun b hb => ?_, w7⟩
      obtain ⟨o, e, d⟩ := T.obj _ _ st4 b hb
      exact (I7.pin (b, o) (List.mem_append_right _ (List.mem_append_right _ (mem_pinsAt hb e)))).2.1
    cases f with
    | next => obtain ⟨σ7, H7, I7, n7⟩ := q7; exact again I7 n7
    | cont => obtain ⟨σ7, H7, I7, n7⟩ := q7; exact again I7 n7
    | brk => obtain ⟨σ7, H7, I7, q7⟩ := q7; exact ⟨σ7, H7, I7.unpinned, q7⟩
    | ret v => obtain ⟨x7, σ7, H7, I7, r7, q7⟩ := q7; exact ⟨x7, σ7, H7, I7.unpinned, r7, q7⟩
end
end Tb

set_option Elab.async false
set_option linter.all false
set_option maxRecDepth 100000
set_option maxHeartbeats 4000000
/-! judgements that tell too that the token of a text in a local name stays known -/
namespace Tb
open PySem PySem.Spec PyProof.Rows L2
/-- the frame's names stand as they stood -/
def Kept (X : Cx) (s s' : Shared) : Prop := ∀ m, s.heap.Ns X.env.locals m → s'.heap.Ns X.env.locals m
theorem Kept.refl (X : Cx) (s : Shared) : Kept X s s := fun _ h => h
theorem Kept.trans {X : Cx} {s s1 s2 : Shared} (a : Kept X s s1) (b : Kept X s1 s2) : Kept X s s2 := fun m h => b m (a m h)
theorem Kept.at {X : Cx} {s s' : Shared} (h : ∀ o, s.heap.get? X.env.locals = some o → ∃ sl, s'.heap.get? X.env.locals = some { o with slots := sl }) : Kept X s s' := by
  rintro m ⟨o, es, ep, ho, hd, r⟩
  obtain ⟨sl, z⟩ := h o ho
  exact ⟨_, es, ep, z, hd, r⟩
theorem Kept.all {X : Cx} {s s' : Shared} (h : ∀ b o, s.heap.get? b = some o → s'.heap.get? b = some o) : Kept X s s' := fun m ⟨o, es, ep, ho, r⟩ => ⟨o, es, ep, h _ _ ho, r⟩
theorem Kept.but {X : Cx} {s s' : Shared} {a : Addr} (h : Heap.SameBut a s.heap s'.heap) (ne : a ≠ X.env.locals) : Kept X s s' := fun m ⟨o, es, ep, ho, r⟩ => ⟨o, es, ep, (h.2 _ (Ne.symm ne)).trans ho, r⟩
/-- the text of the sign c in the name x has a token that was given out -/
def KS (X : Cx) (x : Str) (c : Nat) (s : Shared) : Prop := ∃ (u : Tok) (m : Str → Option Value), 1 ≤ u ∧ u < s.toks ∧ s.heap.Ns X.env.locals m ∧ m x = some (.str ⟨#[c]⟩ u)
theorem KS.keep {X : Cx} {x : Str} {c : Nat} {s s' : Shared} (k : KS X x c s) (ht : s.toks ≤ s'.toks) (h : Kept X s s') : KS X x c s' := by
  obtain ⟨u, m, h1, h2, h3, h4⟩ := k
  exact ⟨u, m, h1, Nat.lt_of_lt_of_le h2 ht, h m h3, h4⟩
section
variable {X : Cx} {x : Str} {c : Nat}
theorem keepK {α : Type} {t : Sem α} {Q : α → Shared → Prop} {M : Model} {A : Around} {E : Value → Shared → Prop} {s : Shared} (k : KS X x c s) (h : wpAny M A t (fun a s' => Kept X s s' ∧ Q a s') E s) : wpAny M A t (fun a s' => KS X x c s' ∧ Q a s') E s :=
  wpAny_mono (PySem.wpAny_toks h) (fun a s' q => ⟨k.keep q.1 q.2.1, q.2.2⟩) fun _ _ z => z.2
def PEK (X : Cx) (x : Str) (c : Nat) (e : Expr) (t : TE) : Prop := ∀ (pins : List (Addr × Obj)) (s : Shared) (σ : L2.St) (H : Hp) (Q : VK), KS X x c s → Inv X pins σ H s → t σ H Q →
  wpAny (model X.prog X.w) X.A (eval e X.env) (fun u s' => KS X x c s' ∧ EP X pins σ Q u s') X.xe s
def PAK (X : Cx) (x : Str) (c : Nat) (es : List Expr) (t : TA) : Prop := ∀ (pos : Pos) (pins : List (Addr × Obj)) (s : Shared) (σ : L2.St) (H : Hp) (Q : List V → Hp → Prop), KS X x c s → Inv X pins σ H s → t σ H Q →
  wpAny (model X.prog X.w) X.A (spliced (backTo pos (starEach es X.env))) (fun u s' => KS X x c s' ∧ AP X pins σ Q u s') X.xe s
def PTK (X : Cx) (x : Str) (c : Nat) (e : Expr) (t : TT) : Prop := ∀ (pins : List (Addr × Obj)) (s : Shared) (σ : L2.St) (H : Hp) (Q : Bool → Hp → Prop), KS X x c s → Inv X pins σ H s → t σ H Q →
  wpAny (model X.prog X.w) X.A (isTrue e X.env (eval e X.env)) (fun b s' => KS X x c s' ∧ TP X pins σ Q b s') X.xe s
def PSK (X : Cx) (x : Str) (c : Nat) (st : Stmt) (t : TS) : Prop := ∀ (pins : List (Addr × Obj)) (s : Shared) (σ : L2.St) (H : Hp) (D : Ends), KS X x c s → Inv X pins σ H s → t D σ H →
  wpAny (model X.prog X.w) X.A (exec st X.env) (fun f s' => KS X x c s' ∧ SP X pins D f s') X.xe s
def PSsK (X : Cx) (x : Str) (c : Nat) (st : List Stmt) (t : TS) : Prop := ∀ (pins : List (Addr × Obj)) (s : Shared) (σ : L2.St) (H : Hp) (D : Ends), KS X x c s → Inv X pins σ H s → t D σ H →
  wpAny (model X.prog X.w) X.A (execs st X.env) (fun f s' => KS X x c s' ∧ SP X pins D f s') X.xe s
/-- an operation that leaves the frame's names -/
def OpK (X : Cx) (f : Value → Value → Sem Value) (r : R2) : Prop := ∀ (pins : List (Addr × Obj)) (s : Shared) (σ : L2.St) (H : Hp) (a b : V) (v u : Value) (Q : VK), Inv X pins σ H s → RelV a v → RelV b u → r a b H Q →
  wpAny (model X.prog X.w) X.A (f v u) (fun w s' => Kept X s s' ∧ EP X pins σ Q w s') X.xe s
/-- a state that differs in its tokens alone -/
theorem epT {pins : List (Addr × Obj)} {s : Shared} {σ : L2.St} {H : Hp} {Q : VK} {v : V} {u : Value} (I : Inv X pins σ H s) (r : RelV v u) (q : Q v H) (k : Nat) : Kept X s { s with toks := k } ∧ EP X pins σ Q u { s with toks := k } := ⟨fun _ h => h, v, H, I.tok k, r, q⟩
variable {e a b : Expr} {es : List Expr} {te ta tb : TE} {t : TA} {tt : TT} {pos : Pos}
theorem pek_var (i : Nat) {y : Str} (hN : X.N[i]? = some y := by rfl) (hv : Vis X.env.scope y := by first | exact Or.inl rfl | exact Or.inr (Or.inl rfl) | exact Or.inr (Or.inr rfl)) (d1 : (y == ("__debug__" : Str)) = false := by decide) (d2 : (y == ("__classdict__" : Str)) = false := by decide) : PEK X x c (.Name y pos) (tVar i) := by
  rintro pins s σ H Q k I ⟨v, hσ, q⟩
  exact raw_name hN hv I hσ (fun u r => ⟨k, v, H, I, r, q⟩) d1 d2
theorem pek_str {z : Str} {j : Nat} : PEK X x c (.Constant (.str z) j pos) (tC (.str z)) := fun pins s σ H Q k I q => Calls.Constant_str ⟨k.keep (Nat.le_succ _) (fun _ h => h), .str z, H, I.tok _, ⟨_, rfl⟩, q⟩
theorem pek_int {z : Int} {j : Nat} : PEK X x c (.Constant (.int z) j pos) (tC (.int z)) := fun pins s σ H Q k I q => wpAny_Constant_int ⟨k.keep (Nat.le_succ _) (fun _ h => h), .int z, H, I.tok _, ⟨_, rfl⟩, q⟩
theorem pek_non {j : Nat} : PEK X x c (.Constant .none j pos) (tC .non) := fun pins s σ H Q k I q => Constant_none ⟨k, .non, H, I, rfl, q⟩
theorem pek_bl {d : Bool} {j : Nat} : PEK X x c (.Constant (.bool d) j pos) (tC (.bl d)) := fun pins s σ H Q k I q => Constant_bool ⟨k, .bl d, H, I, rfl, q⟩
theorem pak_nil : PAK X x c [] tNil := fun _ _ _ _ H Q k I q => Calls.spliced_nil ⟨k, [], H, I, .nil, q⟩
theorem pak_cons (he : PEK X x c e te) (hr : PAK X x c es t) (st : starEach (e :: es) X.env = (false, eval e X.env) :: starEach es X.env := by rfl) : PAK X x c (e :: es) (tCons te t) := by
  intro at_ pins s σ H Q k I q
  rw [st]
  refine Calls.spliced_cons (thn (he pins s σ H _ k I q) ?_)
  rintro v s1 ⟨k1, y, H1, I1, r1, q1⟩
  refine thn (hr at_ pins s1 σ H1 _ k1 I1 q1) ?_
  rintro vs s2 ⟨k2, ys, H2, I2, r2, q2⟩
  exact ⟨k2, y :: ys, H2, I2, .cons r1 r2, q2⟩
theorem pek_lst (h : PAK X x c es t) : PEK X x c (.List es pos) (tLstS t) := by
  intro pins s σ H Q k I q
  refine wpAny_List_spliced (thn (h pos pins s σ H _ k I q) ?_)
  rintro us s1 ⟨k1, ys, H1, I1, r, z, q1⟩
  have nD : H1 s1.heap.objs.size = none := I1.hok.fresh (Nat.le_refl _)
  have up : ∀ b o, s1.heap.get? b = some o → (s1.heap.push { cls := .type "list", data := .seq us.toArray }).get? b = some o := fun b o e => Heap.get?_push_of_some _ e
  refine ⟨by rw [← r.length]; exact z, k1.keep (Nat.le_refl _) (Kept.all up), .ref s1.heap.objs.size, _, I1.laid (o := .lst ys) (t' := s1.toks) up (Nat.le_refl _) ⟨z, us, 0, r, Heap.get?_push_size _ rfl⟩, rfl, q1.at _ nD⟩
theorem pek_op {op : Operator} {r : R2} (ho : OpK X (binaryOp op) r) (ha : PEK X x c a ta) (hb : PEK X x c b tb) : PEK X x c (.BinOp a op b pos) (tOp r ta tb) := by
  intro pins s σ H Q k I q
  refine wpAny_BinOp (thn (ha pins s σ H _ k I q) ?_)
  rintro v s1 ⟨k1, y, H1, I1, r1, q1⟩
  refine thn (hb pins s1 σ H1 _ k1 I1 q1) ?_
  rintro u s2 ⟨k2, z, H2, I2, r2, q2⟩
  exact keepK k2 (ho pins s2 σ H2 y z v u Q I2 r1 r2 q2)
theorem ptk_cmp {op : CmpOp} {r : R2} (ho : OpK X (compareOp op) r) (ha : PEK X x c a ta) (hb : PEK X x c b tb) (hm : behindInMarks op b = false) : PTK X x c (.Compare a [op] [b] pos) (tTest (tOp r ta tb)) := by
  intro pins s σ H Q k I q
  refine wpAny_isTrue_Compare1 (thn (ha pins s σ H _ k I q) ?_) hm
  rintro v s1 ⟨k1, y, H1, I1, r1, q1⟩
  refine thn (hb pins s1 σ H1 _ k1 I1 q1) ?_
  rintro u s2 ⟨k2, z, H2, I2, r2, q2⟩
  refine thn (keepK k2 (ho pins s2 σ H2 y z v u _ I2 r1 r2 q2)) ?_
  rintro w s3 ⟨k3, d, H3, I3, r3, yes, rfl, q3⟩
  cases r3
  exact wpAny_truthy_bool ⟨k3, H3, I3, q3⟩
theorem pek_ifExp {d : Expr} (hd : PTK X x c d tt) (ha : PEK X x c a ta) (hb : PEK X x c b tb) : PEK X x c (.IfExp d a b pos) (tIf tt ta tb) := by
  intro pins s σ H Q k I q
  refine wpAny_IfExp (thn (hd pins s σ H _ k I q) ?_)
  rintro yes s1 ⟨k1, H1, I1, q1⟩
  cases yes
  · exact hb pins s1 σ H1 Q k1 I1 q1
  · exact ha pins s1 σ H1 Q k1 I1 q1
/-- a def's call leaves the caller's names -/
theorem kept_call {pins : List (Addr × Obj)} {σ : L2.St} {H : Hp} {s s' : Shared} {Q : VK} {u : Value} (I : Inv X pins σ H s) (h : CE X.stack X.prog X.w H s Q u s') : Kept X s s' ∧ EP X pins σ Q u s' := by
  refine ⟨?_, I.after h⟩
  obtain ⟨_, _, _, _, un, _⟩ := h
  exact Kept.at fun o ho => un.any ho I.free (by simp)
theorem pek_df {i j : Nat} {nm : Str} {ps : List Str} {sp : Sp} {p : Pos} (D : Df X.prog X.w X.K X.mg X.base i nm ps sp) (hr : Room j X.A) (ha : PAK X x c (e :: es) t) (hg : Gl X nm := by rfl) (hk : i ≤ j := by omega)
    (d1 : (nm == ("__debug__" : Str)) = false := by decide) (st : starEach (e :: es) X.env = (false, eval e X.env) :: starEach es X.env := by rfl) (pl : (backTo pos (starEach es X.env)).any (·.1) = false := by rfl) :
    PEK X x c (.Call (.Name nm p) (e :: es) [] pos) (tCall sp [] E0 t) := by
  intro pins s σ H Q k I q
  obtain ⟨f, fd, G, B, kp, m⟩ := D.ex
  refine wpAny_Call_Name_kw (ld_glob I hg m ?_ d1)
  refine PySem.W.callWith_K (h₀ := X.base) I.ok.mod.kin kp (thn (ha pos pins s σ H _ k I q) ?_) st pl
  rintro us s1 ⟨k1, vs, H1, I1, r, q1⟩
  refine ⟨I1.kIn, keepK k1 ?_⟩
  have q1 : sp vs H1 Q E0 := by rw [List.append_nil] at q1; exact q1
  have bnd : BindsTo s1 fd ⟨us, []⟩ (ps.zip us) := by
    have z := B s1 us I1.kIn (by rw [List.append_nil, ← r.length]; exact G.len _ _ _ _ q1)
    rwa [List.append_nil] at z
  refine wpAny_call (codeAny_mono (G.run X.A X.stack s1 H1 ⟨us, []⟩ us vs Q E0 (hr.mono hk) I1.env0 bnd r q1) ?_)
  intro res s' z
  match res, z with
  | .error e, z => exact z.elim
  | .ok (.ret u), z => exact kept_call I1 z
  | .ok .next, z => exact z.elim
  | .ok .brk, z => exact z.elim
  | .ok .cont, z => exact z.elim
end
end Tb

set_option Elab.async false
set_option linter.all false
set_option maxRecDepth 100000
set_option maxHeartbeats 1000000
namespace Tb
open PySem PySem.Spec PyProof.Rows L2 TL
/-! ### texts by their signs -/
def S (l : List Nat) : Str := ⟨l.toArray⟩
theorem tl_S (l : List Nat) : tl (S l) = l := rfl
theorem S_tl (x : Str) : S (tl x) = x := ext_tl rfl
theorem S_app (a b : List Nat) : S a ++ S b = S (a ++ b) := ext_tl (by rw [tl_append]; rfl)
theorem len_S (l : List Nat) : (S l).length = l.length := by rw [len_tl, tl_S]
theorem S_inj {a b : List Nat} (h : S a = S b) : a = b := by
  have e := congrArg tl h
  exact e
theorem joinL_nil : ∀ parts : List (List Nat), joinL [] parts = parts.flatten
  | [] => rfl
  | [p] => by simp [joinL]
  | p :: q :: r => by
    have ih := joinL_nil (q :: r)
    show p ++ ([] ++ joinL [] (q :: r)) = _
    rw [ih]
    rfl
theorem join_S (s : List Nat) (parts : List (List Nat)) : Txt.join (S s) (parts.map S) = S (joinL s parts) := ext_tl (by
  rw [join_eq, tl_join, List.map_map]
  have e : parts.map (tl ∘ S) = parts := by
    rw [show (tl ∘ S) = id from funext fun l => rfl, List.map_id]
  rw [e]
  rfl)
theorem ones_flat : ∀ cs : List Nat, (cs.map fun c => [c]).flatten = cs
  | [] => rfl
  | c :: r => congrArg (c :: ·) (ones_flat r)
theorem join_signs (cs : List Nat) : Txt.join (S []) (cs.map fun c => S [c]) = S cs := by
  have e : cs.map (fun c => S [c]) = (cs.map fun c => [c]).map S := by rw [List.map_map]; rfl
  rw [e, join_S, joinL_nil, ones_flat]
theorem sum_ones (cs : List Nat) : ((cs.map fun c => S [c]).map (·.length)).sum = cs.length := by
  induction cs with
  | nil => rfl
  | cons c r ih =>
    show 1 + ((r.map fun c => S [c]).map (·.length)).sum = r.length + 1
    omega
theorem str_empty : (Str.ofString "" : Str) = S [] := by decide +kernel
/-! ### comprehensions whose element is a value of the item -/
section
variable {K : PySem.W.Frag} {te : TE} {vs : List Nat} {σ : L2.St} {H1 : Hp} {D : Addr} {Qd : Hp → Prop} {sl : Nat}
theorem lc_mapL {a : Addr} {xs : List V} (g : V → V) (hS : SqL K H1 a xs) (nD : H1 D = none) (hl : xs.length < sizeLine) (he : ∀ x ∈ xs, ∀ H' (R : VK), Same H1 H' → R (g x) H' → te ((wipe σ vs).set sl (some x)) H' R)
    (hd : ∀ H', Same H1 H' → H' D = some (.lst (xs.map g)) → Qd H') (hw : ∀ x, wipe ((wipe σ vs).set sl (some x)) vs = wipe σ vs := by intro _; rfl) :
    ∃ W : Nat → Nat → Hp → Prop, (∃ m, W 0 m (upd H1 D (.lst []))) ∧ ∀ i m H, W i m H →
      ((Itl K a).stop i H ∧ Qd H) ∨ ((Itl K a).go i H ∧ ∃ Nx : Hp → Prop, (∀ H', Nx H' → ∃ m', m' < m ∧ W (i + 1) m' H') ∧ ∀ x H', (Itl K a).yld i H x H' → gName sl x (wipe σ vs) H' fun σ2 H2 => wipe σ2 vs = wipe σ vs ∧ tYes σ2 H2 fun b H3 =>
        if b = true then te σ2 H3 fun y H4 => ∃ acc, H4 D = some (.lst acc) ∧ acc.length < sizeLine ∧ Nx (upd H4 D (.lst (acc ++ [y]))) else Nx H3) := by
  refine lc_list (K := K) (a := a) (xs := xs) (fun i H => Same H1 H ∧ H D = some (.lst ((xs.take i).map g))) ⟨same_upd nD, upd_same⟩ (fun i H _ h => h.1.seq hS) ?_ ?_
  · rintro i x H hx ⟨s, e⟩
    refine ⟨hw x, tYes_if (he x (List.mem_of_getElem? hx) H _ s ⟨_, e, ?_, fun b o eb => ?_, ?_⟩)⟩
    · rw [List.length_map, List.length_take]
      exact Nat.lt_of_le_of_lt (Nat.min_le_right _ _) hl
    · rw [upd_ne (ne_of_none eb nD)]
      exact s _ _ eb
    · rw [upd_same, List.take_add_one, hx, List.map_append]
      rfl
  · rintro H ⟨s, e⟩
    rw [List.take_length] at e
    exact hd H s e
theorem lc_mapR {n : Nat} (g : Nat → V) (nD : H1 D = none) (hl : n < sizeLine) (he : ∀ i, i < n → ∀ H' (R : VK), Same H1 H' → R (g i) H' → te ((wipe σ vs).set sl (some (num i))) H' R)
    (hd : ∀ H', Same H1 H' → H' D = some (.lst ((List.range n).map g)) → Qd H') (hw : ∀ x, wipe ((wipe σ vs).set sl (some x)) vs = wipe σ vs := by intro _; rfl) :
    ∃ W : Nat → Nat → Hp → Prop, (∃ m, W 0 m (upd H1 D (.lst []))) ∧ ∀ i m H, W i m H →
      ((Itr 0 n).stop i H ∧ Qd H) ∨ ((Itr 0 n).go i H ∧ ∃ Nx : Hp → Prop, (∀ H', Nx H' → ∃ m', m' < m ∧ W (i + 1) m' H') ∧ ∀ x H', (Itr 0 n).yld i H x H' → gName sl x (wipe σ vs) H' fun σ2 H2 => wipe σ2 vs = wipe σ vs ∧ tYes σ2 H2 fun b H3 =>
        if b = true then te σ2 H3 fun y H4 => ∃ acc, H4 D = some (.lst acc) ∧ acc.length < sizeLine ∧ Nx (upd H4 D (.lst (acc ++ [y]))) else Nx H3) := by
  refine lc_range (lo := 0) (n := n) (fun i H => Same H1 H ∧ H D = some (.lst ((List.range i).map g))) ⟨same_upd nD, upd_same⟩ ?_ ?_
  · rintro i H hi ⟨s, e⟩
    refine ⟨hw _, tYes_if ?_⟩
    have en : V.int (0 + (i : Int)) = num i := congrArg V.int (Int.zero_add _)
    rw [en]
    refine he i hi H _ s ⟨_, e, ?_, fun b o eb => ?_, ?_⟩
    · rw [List.length_map, List.length_range]
      omega
    · rw [upd_ne (ne_of_none eb nD)]
      exact s _ _ eb
    · rw [upd_same, List.range_succ, List.map_append]
      rfl
  · rintro H ⟨s, e⟩
    exact hd H s e
theorem lc_mapS {cs : List Nat} (g : Nat → V) (nD : H1 D = none) (hl : cs.length < sizeLine) (he : ∀ c ∈ cs, ∀ H' (R : VK), Same H1 H' → R (g c) H' → te ((wipe σ vs).set sl (some (.str (S [c])))) H' R)
    (hd : ∀ H', Same H1 H' → H' D = some (.lst (cs.map g)) → Qd H') (hw : ∀ x, wipe ((wipe σ vs).set sl (some x)) vs = wipe σ vs := by intro _; rfl) :
    ∃ W : Nat → Nat → Hp → Prop, (∃ m, W 0 m (upd H1 D (.lst []))) ∧ ∀ i m H, W i m H →
      ((Its (S cs)).stop i H ∧ Qd H) ∨ ((Its (S cs)).go i H ∧ ∃ Nx : Hp → Prop, (∀ H', Nx H' → ∃ m', m' < m ∧ W (i + 1) m' H') ∧ ∀ x H', (Its (S cs)).yld i H x H' → gName sl x (wipe σ vs) H' fun σ2 H2 => wipe σ2 vs = wipe σ vs ∧ tYes σ2 H2 fun b H3 =>
        if b = true then te σ2 H3 fun y H4 => ∃ acc, H4 D = some (.lst acc) ∧ acc.length < sizeLine ∧ Nx (upd H4 D (.lst (acc ++ [y]))) else Nx H3) := by
  refine lc_it (walk_str (z := S cs)) (fun i H => Same H1 H ∧ H D = some (.lst ((cs.take i).map g))) ⟨same_upd nD, upd_same⟩ (fun _ _ _ _ => trivial) ?_ ?_
  · rintro i x H H' hi ⟨s, e⟩ ⟨rfl, c, hc, rfl⟩
    have hc' : cs[i]? = some c := by
      have h := hc
      rw [show (S cs).cps = cs.toArray from rfl, List.getElem?_toArray] at h
      exact h
    refine ⟨hw _, tYes_if (he c (List.mem_of_getElem? hc') _ _ s ⟨_, e, ?_, fun b o eb => ?_, ?_⟩)⟩
    · rw [List.length_map, List.length_take]
      exact Nat.lt_of_le_of_lt (Nat.min_le_right _ _) hl
    · rw [upd_ne (ne_of_none eb nD)]
      exact s _ _ eb
    · rw [upd_same, List.take_add_one, hc', List.map_append]
      rfl
  · rintro H ⟨s, e⟩
    rw [show (S cs).cps.size = cs.length from rfl, List.take_length] at e
    exact hd H s e
theorem tif {t : TT} {σ : L2.St} {H : Hp} {A : Hp → Prop} {B : Hp → Prop} {k : Bool} (ht : ∀ R : Bool → Hp → Prop, R k H → t σ H R) (h1 : k = true → A H) (h2 : k = false → B H) : t σ H (fun b H3 => if b = true then A H3 else B H3) := by
  refine ht _ ?_
  cases k with
  | true =>
    show (if true = true then A H else B H)
    rw [if_pos rfl]
    exact h1 rfl
  | false =>
    show (if false = true then A H else B H)
    rw [if_neg Bool.false_ne_true]
    exact h2 rfl
/-- a list's items that keep, each by its value -/
theorem lc_filtL {a : Addr} {xs : List V} {tt : TT} (keep : V → Bool) (g : V → V) (hS : SqL K H1 a xs) (nD : H1 D = none) (hl : xs.length < sizeLine) (ht : ∀ x ∈ xs, ∀ H' (R : Bool → Hp → Prop), Same H1 H' → R (keep x) H' → tt ((wipe σ vs).set sl (some x)) H' R)
    (he : ∀ x ∈ xs, keep x = true → ∀ H' (R : VK), Same H1 H' → R (g x) H' → te ((wipe σ vs).set sl (some x)) H' R)
    (hd : ∀ H', Same H1 H' → H' D = some (.lst ((xs.filter keep).map g)) → Qd H') (hw : ∀ x, wipe ((wipe σ vs).set sl (some x)) vs = wipe σ vs := by intro _; rfl) :
    ∃ W : Nat → Nat → Hp → Prop, (∃ m, W 0 m (upd H1 D (.lst []))) ∧ ∀ i m H, W i m H →
      ((Itl K a).stop i H ∧ Qd H) ∨ ((Itl K a).go i H ∧ ∃ Nx : Hp → Prop, (∀ H', Nx H' → ∃ m', m' < m ∧ W (i + 1) m' H') ∧ ∀ x H', (Itl K a).yld i H x H' → gName sl x (wipe σ vs) H' fun σ2 H2 => wipe σ2 vs = wipe σ vs ∧ tt σ2 H2 fun b H3 =>
        if b = true then te σ2 H3 fun y H4 => ∃ acc, H4 D = some (.lst acc) ∧ acc.length < sizeLine ∧ Nx (upd H4 D (.lst (acc ++ [y]))) else Nx H3) := by
  refine lc_list (K := K) (a := a) (xs := xs) (fun i H => Same H1 H ∧ H D = some (.lst (((xs.take i).filter keep).map g))) ⟨same_upd nD, upd_same⟩ (fun i H _ h => h.1.seq hS) ?_ ?_
  · rintro i x H hx ⟨s, e⟩
    have hm := List.mem_of_getElem? hx
    have et : xs.take (i + 1) = xs.take i ++ [x] := by
      rw [List.take_add_one, hx]
      rfl
    refine ⟨hw x, tif (k := keep x) (fun R r => ht x hm H R s r) (fun hk => he x hm hk H _ s ⟨_, e, ?_, fun b o eb => ?_, ?_⟩) (fun hk => ⟨s, ?_⟩)⟩
    · rw [List.length_map]
      refine Nat.lt_of_le_of_lt (List.length_filter_le _ _) ?_
      rw [List.length_take]
      exact Nat.lt_of_le_of_lt (Nat.min_le_right _ _) hl
    · rw [upd_ne (ne_of_none eb nD)]
      exact s _ _ eb
    · rw [upd_same, et, List.filter_append, List.map_append]
      simp only [List.filter_cons, hk, if_true, List.filter_nil]
      rfl
    · rw [e, et, List.filter_append]
      simp [List.filter_cons, hk]
  · rintro H ⟨s, e⟩
    rw [List.take_length] at e
    exact hd H s e
end
/-! ### slices, members -/
theorem inV_S (x : List Nat) (ys : List (List Nat)) : inV (.str (S x)) (ys.map fun y => .str (S y)) = decide (x ∈ ys) := by
  unfold inV
  rw [List.any_map, Bool.eq_iff_iff, List.any_eq_true, decide_eq_true_eq]
  constructor
  · rintro ⟨y, hy, e⟩
    have e' : (S y == S x) = true := e
    rw [← S_inj (beq_iff_eq.mp e')]
    exact hy
  · intro h
    exact ⟨x, h, beq_self_eq_true (S x)⟩
theorem flat_S (ys : List (List Nat)) : (ys.map fun y => V.str (S y)).all flatV = true := by
  rw [List.all_map, List.all_eq_true]
  intro y _
  rfl
theorem cutS_drop (cs : List Nat) (k : Nat) : cutS (S cs) (some (k : Int)) none = S (cs.drop k) := by
  refine ext_tl ?_
  show ((cs.drop (HT.sIx (S cs).length 0 (some (k : Int)))).take (HT.sIx (S cs).length (S cs).length none - HT.sIx (S cs).length 0 (some (k : Int)))) = cs.drop k
  rw [HT.sIx_nat, HT.sIx_none, len_S]
  by_cases h : k ≤ cs.length
  · rw [Nat.min_eq_left h]
    refine List.take_of_length_le ?_
    rw [List.length_drop]
    exact Nat.le_refl _
  · rw [Nat.min_eq_right (by omega), List.drop_eq_nil_of_le (Nat.le_refl _), List.drop_eq_nil_of_le (by omega)]
    rw [List.take_nil]
/-! ### slices -/
section
variable {X : Cx}
def rSlLS (K : PySem.W.Frag) : V → Option Int → Option Int → Hp → VK → Prop := fun x lo hi H Q => ∃ a xs, x = .ref a ∧ SqL K H a xs ∧ New H (.lst (cutV xs lo hi)) Q
theorem sl_listS : SlR X (rSlLS X.K) := fun pins s σ H x v vl vu lo hi sl Q I r hs h1 h2 ⟨a, xs, e, hS, q⟩ => sl_list pins s σ H x v vl vu lo hi sl Q I r hs h1 h2 ⟨a, xs, e, hS, q.at⟩
theorem cutV_take (xs : List V) (m : Nat) : cutV xs none (some (m : Int)) = xs.take m := by
  unfold cutV
  rw [HT.sIx_nat, HT.sIx_none, List.drop_zero, Nat.sub_zero, List.take_eq_take_iff]
  omega
end
end Tb

set_option Elab.async false
set_option linter.all false
set_option maxRecDepth 100000
namespace Tb
open PySem PySem.Spec PyProof.Rows L2
def topS (i : Nat) : Stmt := PySem.Challenge.pw_textboxes_k15_known_programs.main.body.getD i (.Pass ⟨0, 0, 0, 0⟩)
abbrev sSource : Stmt := topS 54
abbrev sDraw : Stmt := topS 55
abbrev sPick : Stmt := topS 56
abbrev sOrder : Stmt := topS 57
abbrev sName : Stmt := topS 9999
abbrev sNames : Stmt := topS 9999
abbrev sSigns : Stmt := topS 58
abbrev sPiece : Stmt := topS 9999
abbrev sFill : Stmt := topS 9999
abbrev sProgram : Stmt := topS 9999
abbrev sMade : Stmt := topS 9999
end Tb

set_option Elab.async false
set_option linter.all false
set_option maxRecDepth 100000
set_option maxHeartbeats 1000000
namespace Tb
open PySem PySem.Spec PyProof.Rows L2 TL
/-! ### the source of draws -/
/-- a list [great, seed, how many were drawn], of at most n draws -/
def SrcO (n : Nat) (o : HO) : Prop := ∃ g s c : Int, o = .lst [.int g, .int s, .int c] ∧ 0 ≤ g ∧ 0 ≤ s ∧ s < 2147483647 ∧ 0 ≤ c ∧ c ≤ n
/-- all but the source stands -/
def But (p : Addr) (H H' : Hp) : Prop := ∀ b o, H b = some o → b ≠ p → H' b = some o
theorem But.refl (p : Addr) (H : Hp) : But p H H := fun _ _ h _ => h
theorem But.trans {p : Addr} {H H1 H2 : Hp} (a : But p H H1) (b : But p H1 H2) : But p H H2 := fun c o h n => b c o (a c o h n) n
theorem But.upd (p : Addr) (H : Hp) (o : HO) : But p H (upd H p o) := fun b u h n => by
  rw [upd_ne n]
  exact h
theorem Same.but {H H' : Hp} (s : Same H H') (p : Addr) : But p H H' := fun b o h _ => s b o h
theorem But.seq {K : PySem.W.Frag} {p a : Addr} {H H' : Hp} {xs : List V} (e : But p H H') (n : a ≠ p) (h : SqL K H a xs) : SqL K H' a xs := by
  rcases h with (h | ⟨o, h⟩) | h
  · exact .inl (.inl (e _ _ h n))
  · exact .inl (.inr ⟨o, e _ _ h n⟩)
  · exact .inr h
theorem But.free {p : Addr} {H H' : Hp} (e : But p H H') {l : Addr} {o : HO} (hp : H' p = some o) (h : H' l = none) : H l = none := by
  cases q : H l with
  | none => rfl
  | some u =>
    have n : l ≠ p := fun z => by
      rw [z, hp] at h
      cases h
    rw [e l u q n] at h
    cases h
/-- the source stands at p, at most n were drawn -/
def Src (H : Hp) (p : Addr) (n : Nat) : Prop := ∃ o, H p = some o ∧ SrcO n o
theorem SrcO.le {n m : Nat} {o : HO} (h : SrcO n o) (l : n ≤ m) : SrcO m o := by
  obtain ⟨g, s, c, e, a, b, d, f, k⟩ := h
  exact ⟨g, s, c, e, a, b, d, f, by omega⟩
theorem Src.le {H : Hp} {p : Addr} {n m : Nat} (h : Src H p n) (l : n ≤ m) : Src H p m := by
  obtain ⟨o, e, h⟩ := h
  exact ⟨o, e, h.le l⟩
theorem Src.same {H H' : Hp} {p : Addr} {n : Nat} (h : Src H p n) (s : Same H H') : Src H' p n := by
  obtain ⟨o, e, h⟩ := h
  exact ⟨o, s _ _ e, h⟩
section
variable {P : Program} {w : World} {K : PySem.W.Frag} {mg : Str → Option Value} {base : Heap}
theorem scSource : FnScope ["_law_script", "_law_great", "_law_seed", "_law_cell"] ["_law_script"] (defScope sSource) := ⟨rfl, rfl, rfl, by decide +kernel, rfl, by decide +kernel, by decide +kernel⟩
def spSource (K : PySem.W.Frag) : Sp := fun vs H Q _ => ∃ (a : Addr) (ns : List Int), vs = [.ref a] ∧ SqL K H a (ns.map V.int) ∧ ∀ p o H', Same H H' → H p = none → H' p = some o → SrcO 0 o → Q (.ref p) H'
theorem ok_source {f : Addr} {fd : FuncData} {k : Nat} (F : Fun K "_law_source" "_law_source" sSource f fd) (mi : mg "int" = none) : FnOk P w K mg base CX0 (k + 1) f fd ["_law_script"] (spSource K) := by
  refine F.ok scSource (fun vs H Q E h => ?_) (fun cdv A outer s H vs Q E hr h => ?_)
  · obtain ⟨a, ns, rfl, _⟩ := h
    rfl
  · obtain ⟨a, ns, rfl, hS, q⟩ := h
    refine ⟨_, pss_cons (ps_asg (pe_tup (pa_cons pe_int (pa_cons pe_int pa_nil))) (pg_tup (by rfl) (pgs_cons (pg_name (i := 1) scSource.nd rfl (.inl rfl)) (pgs_cons (pg_name (i := 2) scSource.nd rfl (.inl rfl)) pgs_nil))))
      (pss_cons (ps_for PassesOwn.never rfl (pi_list (pv 0)) (pg_name (i := 3) scSource.nd rfl (.inl rfl))
        (pss_cons (ps_if (PW.pt (pw_and (pt_cmpR op_eq (pv 1) pe_int (nomark _)) (pw_and1 (pt_cmpR op_ge (pv 3) (pe_op op_pow pe_int pe_int) (nomark _))))) (pss_one (ps_set (i := 1) scSource.nd rfl (.inl rfl) (pv 3))) pss_nil)
        (pss_one (ps_set (i := 2) scSource.nd rfl (.inl rfl) (pe_op op_mod (pe_callTy call_int1 (by rfl) mi (by decide +kernel) (pa_cons (pe_op op_add (pe_op op_add (pe_op op_mul (pv 2) pe_int) (pv 3)) pe_int) pa_nil)) pe_int)))))
      (pss_one (ps_ret (pe_lst (pa_cons (pv 1) (pa_cons (pv 2) (pa_cons pe_int pa_nil))))))), ?_⟩
    refine ⟨by show 2 ≤ sizeLine; decide, fun tp ntp => ⟨tp, _, rfl, .inl (.inl upd_same), rfl, _, _, rfl, _, _, rfl, rfl, ?_⟩⟩
    have s1 : Same H (upd H tp (.tup [.int 0, .int 17])) := same_upd ntp
    generalize upd H tp (.tup [.int 0, .int 17]) = H1 at s1
    refine ⟨_, rfl, a, rfl, ⟨_, s1.seq hS⟩, for_list (K := K) (a := a) (xs := ns.map V.int) (fun i σ H2 => H2 = H1 ∧ ∃ (g s : Int) (v : Option V), σ = [some (.ref a), some (.int g), some (.int s), v] ∧ 0 ≤ g ∧ 0 ≤ s ∧ s < 2147483647) ⟨rfl, 0, 17, none, rfl, by decide, by decide, by decide⟩ (fun i σ H2 _ z => by rw [z.1]; exact s1.seq hS) ?_ ?_⟩
    · rintro i y σ H2 hi ⟨rfl, g, sd, v, rfl, g0, s0, s2⟩
      obtain ⟨z, rfl⟩ : ∃ z, y = V.int z := by
        rw [List.getElem?_map] at hi
        cases e : ns[i]? with
        | none =>
          rw [e] at hi
          cases hi
        | some z =>
          rw [e] at hi
          exact ⟨z, (Option.some.inj hi).symm⟩
      have fin : ∀ g' : Int, 0 ≤ g' → tAsg
        (tOp (rI (fun x j => 0 < j) fun i j => V.int (i % j))
          (tCB (fun xs H Q => (∃ i, xs = [V.int i] ∧ Q (V.int i) H) ∨ ∃ k, xs = [V.bl k] ∧ Q (V.int (if k = true then 1 else 0)) H)
            (tCons (tOp (rI0 fun i j => V.int (i + j)) (tOp (rI0 fun i j => V.int (i + j)) (tOp (rI CMul fun i j => V.int (i * j)) (tVar 2) (tC (V.int 31))) (tVar 3)) (tC (V.int 7))) tNil))
          (tC (V.int 2147483647))) (gName 2) { nx := fun σ H3 => H3 = H2 ∧ ∃ g s v, σ = [some (V.ref a), some (V.int g), some (V.int s), v] ∧ 0 ≤ g ∧ 0 ≤ s ∧ s < 2147483647, rt := Q } [some (.ref a), some (.int g'), some (.int sd), some (.int z)] H2 := fun g' hg => by
        refine ⟨_, rfl, _, _, rfl, rfl, .inl ⟨by omega, by omega⟩, _, rfl, _, _, rfl, rfl, _, _, rfl, rfl, .inl ⟨_, rfl, ?_⟩⟩
        exact ⟨_, _, rfl, rfl, by show (0 : Int) < 2147483647; decide, rfl, g', _, some (.int z), rfl, hg, Int.emod_nonneg _ (by decide), Int.emod_lt_of_pos _ (by decide)⟩
      refine ⟨_, rfl, rfl, _, rfl, ite2 (fun e0 => ?_) (fun e0 => ?_)⟩
      · refine ⟨_, rfl, _, _, rfl, rfl, ⟨by decide, by decide, by decide⟩, _, _, rfl, rfl, _, rfl, ite2 (fun e1 => ?_) (fun e1 => fin g g0)⟩
        have hz : (10 : Int) ^ (18 : Int).toNat ≤ z := of_decide_eq_true e1
        have h10 : (0 : Int) ≤ (10 : Int) ^ (18 : Int).toNat := by decide
        exact ⟨_, rfl, fin z (by omega)⟩
      · exact fin g g0
    · rintro σ H2 ⟨rfl, g, sd, v, rfl, g0, s0, s2⟩
      refine ⟨_, rfl, _, rfl, by show 3 ≤ sizeLine; decide, fun p np => ?_⟩
      exact q p _ _ (s1.trans (same_upd np)) (s1.free np) upd_same ⟨g, sd, 0, rfl, g0, s0, s2, by decide, by decide⟩
theorem scDraw : FnScope ["_law_source_here", "_law_many", "_law_digit", "_law_mixed"] ["_law_source_here", "_law_many"] (defScope sDraw) := ⟨rfl, rfl, rfl, by decide +kernel, rfl, by decide +kernel, by decide +kernel⟩
def spDraw : Sp := fun vs H Q _ => ∃ (p : Addr) (m : Int) (n : Nat) (o : HO), vs = [.ref p, .int m] ∧ H p = some o ∧ SrcO n o ∧ n < 1000000 ∧ 0 < m ∧ m < 1073741824 ∧ ∀ d o', 0 ≤ d → d < m → SrcO (n + 1) o' → Q (.int d) (upd H p o')
theorem ok_draw {f : Addr} {fd : FuncData} {k : Nat} (F : Fun K "_law_draw" "_law_draw" sDraw f fd) (mi : mg "int" = none) : FnOk P w K mg base CX0 (k + 1) f fd ["_law_source_here", "_law_many"] spDraw := by
  refine F.ok scDraw (fun vs H Q E h => ?_) (fun cdv A outer s H vs Q E hr h => ?_)
  · obtain ⟨p, m, n, o, rfl, _⟩ := h
    rfl
  · obtain ⟨p, m, n, o, rfl, hp, ⟨g, sd, c, rfl, g0, s0, s1, c0, c1⟩, hn, m0, m1, q⟩ := h
    refine ⟨_, pss_cons (ps_asg (pe_op op_add (pe_ix ix_list (pv 0) pe_int (fun _ _ => rfl)) pe_int) (pg_sub (pv 0) pe_int set_list))
      (pss_cons (ps_if (pt_cmpR op_gt (pe_ix ix_list (pv 0) pe_int (fun _ _ => rfl)) pe_int (nomark _))
        (pss_cons (ps_set (i := 2) scDraw.nd rfl (.inl rfl) (pe_op op_mod (pe_callTy call_int1 (by rfl) mi (by decide +kernel) (pa_cons (pe_ix ix_list (pv 0) pe_int (fun _ _ => rfl)) pa_nil)) (pv 1)))
        (pss_cons (ps_asg (pe_op op_fdiv (pe_ix ix_list (pv 0) pe_int (fun _ _ => rfl)) (pv 1)) (pg_sub (pv 0) pe_int set_list))
        (pss_one (ps_ret (pv 2))))) pss_nil)
      (pss_cons (ps_set (i := 3) scDraw.nd rfl (.inl rfl) (pe_op op_mod (pe_op op_pow (pe_op op_add (pe_ix ix_list (pv 0) pe_int (fun _ _ => rfl)) (pe_op op_mul pe_int (pe_ix ix_list (pv 0) pe_int (fun _ _ => rfl)))) pe_int) pe_int))
      (pss_one (ps_ret (pe_op op_mod (pe_op op_mod (pe_op op_pow (pe_op op_add (pe_op op_add (pe_op op_mul (pv 3) pe_int) (pe_op op_mul (pe_op op_mul pe_int (pe_ix ix_list (pv 0) pe_int (fun _ _ => rfl))) (pe_ix ix_list (pv 0) pe_int (fun _ _ => rfl)))) pe_int) pe_int) pe_int) (pv 1)))))), ?_⟩
    -- one more was drawn
    refine ⟨_, rfl, p, _, _, _, rfl, rfl, SqL.of hp, atI_nat (j := 2) rfl, _, _, rfl, rfl, _, rfl, p, _, _, 2, rfl, rfl, hp, rfl, ?_⟩
    have h1 : (upd H p (.lst ([V.int g, .int sd, .int c].set 2 (.int (c + 1))))) p = some (.lst [V.int g, .int sd, .int (c + 1)]) := upd_same
    -- a great number gives its digits
    refine ⟨_, rfl, p, _, _, _, rfl, rfl, SqL.of h1, atI_nat (j := 0) rfl, _, _, rfl, rfl, _, rfl, ite2 (fun e0 => ?_) (fun e0 => ?_)⟩
    · have hg : (1 : Int) < g := of_decide_eq_true e0
      refine ⟨_, rfl, p, _, _, _, rfl, rfl, SqL.of h1, atI_nat (j := 0) rfl, .inl ⟨_, rfl, _, rfl, _, _, rfl, rfl, m0, ?_⟩⟩
      refine ⟨_, rfl, p, _, _, _, rfl, rfl, SqL.of h1, atI_nat (j := 0) rfl, _, rfl, _, _, rfl, rfl, ⟨m0, m1⟩, _, rfl, p, _, _, 0, rfl, rfl, h1, rfl, ?_⟩
      refine ⟨_, rfl, ?_⟩
      rw [upd_upd]
      exact q _ _ (Int.emod_nonneg _ (by omega)) (Int.emod_lt_of_pos _ m0) ⟨g / m, sd, c + 1, rfl, Int.ediv_nonneg g0 (by omega), s0, s1, by omega, by omega⟩
    · refine ⟨_, rfl, p, _, _, _, rfl, rfl, SqL.of h1, atI_nat (j := 1) rfl, _, rfl, p, _, _, _, rfl, rfl, SqL.of h1, atI_nat (j := 2) rfl, _, _, rfl, rfl, .inl ⟨by omega, by omega⟩, _, _, rfl, rfl, _, _, rfl, rfl, ⟨by decide, by decide, by omega⟩, _, _, rfl, rfl, by show (0 : Int) < 2147483629; decide, ?_⟩
      have x0 : 0 ≤ (sd + 7919 * (c + 1)) ^ (5 : Int).toNat % 2147483629 := Int.emod_nonneg _ (by decide)
      have x1 : (sd + 7919 * (c + 1)) ^ (5 : Int).toNat % 2147483629 < 2147483629 := Int.emod_lt_of_pos _ (by decide)
      generalize (sd + 7919 * (c + 1)) ^ (5 : Int).toNat % 2147483629 = x at x0 x1
      have y0 : 0 ≤ (c + 1) * (c + 1) := Int.mul_nonneg (by omega) (by omega)
      have y1 : (c + 1) * (c + 1) ≤ 1000000 * 1000000 := Int.mul_le_mul (by omega) (by omega) (by omega) (by decide)
      have e : 16807 * (c + 1) * (c + 1) = 16807 * ((c + 1) * (c + 1)) := Int.mul_assoc _ _ _
      refine ⟨_, rfl, _, _, rfl, rfl, .inl ⟨by omega, by omega⟩, _, rfl, p, _, _, _, rfl, rfl, SqL.of h1, atI_nat (j := 2) rfl, _, _, rfl, rfl, .inl ⟨by decide, by decide⟩, _, rfl, p, _, _, _, rfl, rfl, SqL.of h1, atI_nat (j := 2) rfl, _, _, rfl, rfl, .inr ⟨by omega, by omega⟩, _, _, rfl, rfl, _, _, rfl, rfl, _, _, rfl, rfl, ⟨by decide, by decide, by omega⟩, _, _, rfl, rfl, by show (0 : Int) < 1000000007; decide, _, rfl, _, _, rfl, rfl, m0, ?_⟩
      exact q _ _ (Int.emod_nonneg _ (by omega)) (Int.emod_lt_of_pos _ m0) ⟨g, sd, c + 1, rfl, g0, s0, s1, by omega, by omega⟩
/-- a draw: a number below m -/
def spDrawS : Sp := fun vs H Q _ => ∃ (p : Addr) (m : Int) (n : Nat), vs = [.ref p, .int m] ∧ Src H p n ∧ n < 1000000 ∧ 0 < m ∧ m < 1073741824 ∧ ∀ (d : Nat) H', (d : Int) < m → But p H H' → Src H' p (n + 1) → Q (num d) H'
theorem draw_soft : ∀ vs H Q E, spDrawS vs H Q E → spDraw vs H Q E := by
  rintro vs H Q E ⟨p, m, n, rfl, ⟨o, hp, ho⟩, hn, m0, m1, q⟩
  refine ⟨p, m, n, o, rfl, hp, ho, hn, m0, m1, fun d o' d0 d1 ho' => ?_⟩
  have e : num d.toNat = .int d := congrArg V.int (Int.toNat_of_nonneg d0)
  rw [← e]
  exact q d.toNat _ (by omega) (But.upd p H o') ⟨o', upd_same, ho'⟩
theorem scPick : FnScope ["_law_source_here", "_law_things"] ["_law_source_here", "_law_things"] (defScope sPick) := ⟨rfl, rfl, rfl, by decide +kernel, rfl, by decide +kernel, by decide +kernel⟩
/-- one of a list's, or a text's, things -/
def spPick (K : PySem.W.Frag) : Sp := fun vs H Q _ => ∃ (p : Addr) (n : Nat), Src H p n ∧ n < 1000000 ∧
  ((∃ (t : Addr) (xs : List V), vs = [.ref p, .ref t] ∧ SqL K H t xs ∧ t ≠ p ∧ 0 < xs.length ∧ xs.length < 1073741824 ∧ ∀ x H', x ∈ xs → But p H H' → Src H' p (n + 1) → Q x H') ∨
   (∃ z : Str, vs = [.ref p, .str z] ∧ 0 < z.length ∧ z.length ≤ sizeLine ∧ z.length < 1073741824 ∧ ∀ c H', c ∈ z.cps.toList → But p H H' → Src H' p (n + 1) → Q (.str ⟨#[c]⟩) H'))
theorem ok_pick {f : Addr} {fd : FuncData} {k : Nat} (F : Fun K "_law_pick" "_law_pick" sPick f fd) (DD : Df P w K mg base (k + 1) "_law_draw" ["_law_source_here", "_law_many"] spDrawS) (ml : mg "len" = none) : FnOk P w K mg base CX0 (k + 2) f fd ["_law_source_here", "_law_things"] (spPick K) := by
  refine F.ok scPick (fun vs H Q E h => ?_) (fun cdv A outer s H vs Q E hr h => ?_)
  · obtain ⟨p, n, _, _, ⟨t, xs, rfl, _⟩ | ⟨z, rfl, _⟩⟩ := h
    · rfl
    · rfl
  · obtain ⟨p, n, hp, hn, ⟨t, xs, rfl, ht, ne, l0, l1, q⟩ | ⟨z, rfl, l0, lz, l1, q⟩⟩ := h
    · refine ⟨_, pss_one (ps_ret (pe_ix ix_list (pv 1) (pe_df DD hr (pa_cons (pv 0) (pa_cons (pe_callB call_lenS (by rfl) ml PySem.boot_len (pa_cons (pv 1) pa_nil)) pa_nil))) (fun _ _ => rfl))), ?_⟩
      refine ⟨_, rfl, _, rfl, _, rfl, t, xs, rfl, .inl ht, p, _, n, rfl, hp, hn, by omega, by omega, fun d H' d1 b' s' => ?_⟩
      have hd : d < xs.length := by omega
      exact ⟨t, xs, d, xs[d], rfl, rfl, b'.seq ne ht, atI_nat (List.getElem?_eq_getElem hd), q _ _ (List.getElem_mem hd) b' s'⟩
    · refine ⟨_, pss_one (ps_ret (pe_ix ix_str (pv 1) (pe_df DD hr (pa_cons (pv 0) (pa_cons (pe_callB call_len_str (by rfl) ml PySem.boot_len (pa_cons (pv 1) pa_nil)) pa_nil))) (fun _ _ => rfl))), ?_⟩
      refine ⟨_, rfl, _, rfl, _, rfl, z, rfl, lz, p, _, n, rfl, hp, hn, by omega, by omega, fun d H' d1 b' s' => ?_⟩
      have hd : d < z.cps.toList.length := by
        rw [Array.length_toList]
        have e : z.length = z.cps.size := rfl
        omega
      exact ⟨z, d, z.cps.toList[d], rfl, rfl, lz, atI_nat (List.getElem?_eq_getElem hd), q _ _ (List.getElem_mem hd) b' s'⟩
end
end Tb

set_option Elab.async false
set_option linter.all false
set_option maxRecDepth 100000
set_option maxHeartbeats 1000000
namespace Tb
open PySem PySem.Spec PyProof.Rows L2 TL
theorem erase_map {α β : Type} (f : α → β) : ∀ (xs : List α) (i : Nat), (xs.eraseIdx i).map f = (xs.map f).eraseIdx i
  | [], _ => rfl
  | _ :: _, 0 => rfl
  | x :: xs, i + 1 => congrArg (f x :: ·) (erase_map f xs i)
theorem erase_perm {α : Type} : ∀ (xs : List α) (i : Nat) (h : i < xs.length), (xs[i] :: xs.eraseIdx i).Perm xs
  | x :: xs, 0, _ => List.Perm.refl _
  | x :: xs, i + 1, h => by
    have h' : i < xs.length := Nat.lt_of_succ_lt_succ h
    have ih := erase_perm xs i h'
    show (xs[i] :: x :: xs.eraseIdx i).Perm (x :: xs)
    exact (List.Perm.swap _ _ _).trans (ih.cons x)
section
variable {P : Program} {w : World} {K : PySem.W.Frag} {mg : Str → Option Value} {base : Heap}
theorem scOrder : FnScope ["_law_source_here", "_law_many", "_law_left", "_law_k"] ["_law_source_here", "_law_many"] (defScope sOrder) := ⟨rfl, rfl, rfl, by decide +kernel, rfl, by decide +kernel, by decide +kernel⟩
/-- the numbers below m in some order -/
def spOrder : Sp := fun vs H Q _ => ∃ (p : Addr) (m n : Nat), vs = [.ref p, num m] ∧ Src H p n ∧ n + m < 1000000 ∧ m ≤ 1000 ∧
  ∀ q H' (ks : List Nat), But p H H' → Src H' p (n + m) → H q = none → H' q = some (.lst (ks.map num)) → ks.Perm (List.range m) → Q (.ref q) H'
theorem ok_order {f : Addr} {fd : FuncData} {k : Nat} (F : Fun K "_law_order" "_law_order" sOrder f fd) (DD : Df P w K mg base (k + 1) "_law_draw" ["_law_source_here", "_law_many"] spDrawS)
    (ml : mg "len" = none) (mt : mg "list" = none) (mr : mg "range" = none) : FnOk P w K mg base CX0 (k + 2) f fd ["_law_source_here", "_law_many"] spOrder := by
  refine F.ok scOrder (fun vs H Q E h => ?_) (fun cdv A outer s H vs Q E hr h => ?_)
  · obtain ⟨p, m, n, rfl, _⟩ := h
    rfl
  · obtain ⟨p, m, n, rfl, hp, hn, hm, q⟩ := h
    refine ⟨_, pss_cons (ps_set (i := 2) scOrder.nd rfl (.inr rfl) (pe_listN rfl (by rfl) mt (by rfl) mr (pv 1)))
      (pss_one (ps_ret (pe_lc (own := [("_law_k", 3)]) (g := gName 3) (tt := tYes) (te := tBM K "list" rPopAt (tVar 2) (tCons (tCall spDrawS [] E0 (tCons (tVar 0) (tCons (tCB (rLen K) (tCons (tVar 2) tNil)) tNil))) tNil)) rfl scOrder.nd (pi_range1 rfl mr (pa_cons (pv 1) pa_nil)) (blkOk_by (own := [("_law_k", 3)]) (N := ["_law_source_here", "_law_many", "_law_left", "_law_k"]) (sc := defScope sOrder) (by decide +kernel))
        (fun _ _ _ _ _ => pg_name (i := 3) scOrder.nd rfl (.inl rfl)) (fun _ _ _ _ _ => pts_nil)
        (fun _ _ _ _ _ => pe_bm PySem.F.plainAttrs_list PySem.F.slot_list_pop PySem.F.type_list_pop mt_popAt (pv 2) (pa_cons (pe_df DD hr (pa_cons (pv 0) (pa_cons (pe_callB call_lenS (by rfl) ml PySem.boot_len (pa_cons (pv 2) pa_nil)) pa_nil))) pa_nil))))), ?_⟩
    refine ⟨_, rfl, m, rfl, by omega, fun L H1 s1 nL e1 => ?_⟩
    have hp1 := hp.same s1
    refine ⟨_, rfl, m, rfl, by omega, by omega, fun D nD => lc_range (lo := 0) (n := (m : Int).toNat) (fun i H' => ∃ ks left : List Nat, Src H' p (n + i) ∧ H' L = some (.lst (left.map num)) ∧ H' D = some (.lst (ks.map num)) ∧ (ks ++ left).Perm (List.range m) ∧ ks.length = i ∧ But p H H') ?_ ?_ ?_⟩
    · refine ⟨[], List.range m, hp1.same (same_upd nD), same_upd nD _ _ e1, upd_same, List.Perm.refl _, rfl, Same.but (s1.trans (same_upd nD)) p⟩
    · rintro i H2 hi ⟨ks, left, hs, hL, hD, hpm, hk, hb⟩
      have hl : left.length = m - i := by
        have e := hpm.length_eq
        rw [List.length_append, List.length_range] at e
        omega
      have hi' : i < m := by omega
      refine ⟨rfl, tYes_if ?_⟩
      refine ⟨_, rfl, .inl ⟨rfl, _, SqL.of hL⟩, _, rfl, _, rfl, L, _, rfl, .inl (SqL.of hL), p, _, n + i, rfl, hs, by omega, by rw [List.length_map]; omega, by rw [List.length_map]; omega, fun d H3 hd hb3 hs3 => ?_⟩
      have hd' : d < left.length := by
        rw [List.length_map] at hd
        omega
      have nLp : L ≠ p := fun z => by
        obtain ⟨o, e, _⟩ := hp
        rw [z, e] at nL
        cases nL
      have nDL : D ≠ L := fun z => by
        rw [z, e1] at nD
        cases nD
      have nDp : D ≠ p := fun z => by
        obtain ⟨o, e, _⟩ := hp1
        rw [z, e] at nD
        cases nD
      refine ⟨L, _, d, d, num left[d], rfl, rfl, hb3 _ _ hL nLp, by omega, by omega, seqIndex_of (by omega) (by rw [List.length_map]; omega), by rw [List.getElem?_map, List.getElem?_eq_getElem hd']; rfl, ?_⟩
      refine ⟨ks.map num, by rw [upd_ne nDL]; exact hb3 _ _ hD nDp, by rw [List.length_map]; exact small1000 (by omega), ks ++ [left[d]], left.eraseIdx d, ?_, ?_, ?_, ?_, ?_, ?_⟩
      · obtain ⟨o, e, h⟩ := hs3
        exact ⟨o, by rw [upd_ne nDp.symm, upd_ne nLp.symm]; exact e, by rw [Nat.add_assoc] at h; exact h⟩
      · rw [upd_ne nDL.symm, upd_same, erase_map]
      · rw [upd_same, List.map_append]
        rfl
      · rw [List.append_assoc]
        exact (((erase_perm left d hd').append_left ks)).trans hpm
      · rw [List.length_append, hk]
        rfl
      · intro b o e ne
        have nb1 : b ≠ L := ne_of_none e nL
        have nb2 : b ≠ D := ne_of_none (s1 _ _ e) nD
        rw [upd_ne nb2, upd_ne nb1]
        exact hb3 _ _ (hb _ _ e ne) ne
    · rintro H2 ⟨ks, left, hs, hL, hD, hpm, hk, hb⟩
      have hl : left = [] := by
        have e := hpm.length_eq
        rw [List.length_append, List.length_range] at e
        exact List.eq_nil_of_length_eq_zero (by omega)
      subst hl
      rw [List.append_nil] at hpm
      exact q D H2 ks hb (by have e : (m : Int).toNat = m := by omega
                             rw [e] at hs
                             exact hs) (s1.free nD) hD hpm
end
end Tb

set_option Elab.async false
set_option linter.all false
set_option maxRecDepth 100000
set_option maxHeartbeats 1000000
namespace Tb
open PySem PySem.Spec PyProof.Rows L2 TL
section
variable {P : Program} {w : World} {K : PySem.W.Frag} {mg : Str → Option Value} {base : Heap}
theorem scSigns : FnScope ["_law_source_here", "_law_signs_here", "_law_many", "_law_k"] ["_law_source_here", "_law_signs_here", "_law_many"] (defScope sSigns) := ⟨rfl, rfl, rfl, by decide +kernel, rfl, by decide +kernel, by decide +kernel⟩
/-- so many of the signs, in some order -/
def spSigns : Sp := fun vs H Q _ => ∃ (p : Addr) (n m : Nat) (zs : List Nat), vs = [.ref p, .str (S zs), num m] ∧ Src H p n ∧ n + zs.length < 1000000 ∧ zs.length ≤ 1000 ∧
  ∀ H' (all : List Nat), But p H H' → Src H' p (n + zs.length) → all.Perm zs → Q (.str (S (all.take m))) H'
theorem ok_signs {f : Addr} {fd : FuncData} {k : Nat} (F : Fun K "_law_signs" "_law_signs" sSigns f fd) (DO : Df P w K mg base (k + 1) "_law_order" ["_law_source_here", "_law_many"] spOrder) (ml : mg "len" = none) : FnOk P w K mg base CX0 (k + 2) f fd ["_law_source_here", "_law_signs_here", "_law_many"] spSigns := by
  refine F.ok scSigns (fun vs H Q E h => ?_) (fun cdv A outer s H vs Q E hr h => ?_)
  · obtain ⟨p, n, m, zs, rfl, _⟩ := h
    rfl
  · obtain ⟨p, n, m, zs, rfl, hp, hn, hz, q⟩ := h
    refine ⟨_, pss_one (ps_ret (pe_join pe_str (pe_slice sl_listS (pe_lc (own := [("_law_k", 3)]) (g := gName 3) (tt := tYes) (te := tOp rIxS (tVar 1) (tVar 3)) rfl scSigns.nd
        (pi_list (pe_df DO hr (pa_cons (pv 0) (pa_cons (pe_callB call_len_str (by rfl) ml PySem.boot_len (pa_cons (pv 1) pa_nil)) pa_nil)))) (blkOk_by (own := [("_law_k", 3)]) (N := ["_law_source_here", "_law_signs_here", "_law_many", "_law_k"]) (sc := defScope sSigns) (by decide +kernel))
        (fun _ _ _ _ _ => pg_name (i := 3) scSigns.nd rfl (.inl rfl)) (fun _ _ _ _ _ => pts_nil) (fun _ _ _ _ _ => pe_ix ix_str (pv 1) (pv 3) (fun _ _ => rfl))) po_none (po_some (pv 2))))), ?_⟩
    have lz : (S zs).length ≤ sizeLine := by
      rw [len_S]
      exact Nat.le_of_lt (small1000 hz)
    have hzl : ((S zs).length : Int) = (zs.length : Int) := by rw [len_S]
    refine ⟨⟨_, rfl⟩, _, rfl, _, rfl, _, rfl, lz, p, zs.length, n, by rw [hzl]; rfl, hp, hn, hz, fun a H1 ks hb1 hs1 na e1 hperm => ⟨a, rfl, ⟨_, SqL.of e1⟩, fun D nD => ?_⟩⟩
    refine lc_mapL (fun v => match v with | .int i => .str (S [zs.getD i.toNat 0]) | _ => .non) (SqL.of e1) nD ?_ ?_ ?_
    · rw [List.length_map, hperm.length_eq, List.length_range]
      exact small1000 hz
    · intro x hx H' R _ r
      obtain ⟨i, hi, rfl⟩ := List.mem_map.mp hx
      have hi' : i < zs.length := List.mem_range.mp (hperm.mem_iff.mp hi)
      refine ⟨_, rfl, _, rfl, S zs, (i : Int), zs[i], rfl, rfl, lz, atI_nat (List.getElem?_eq_getElem hi'), ?_⟩
      have e : zs.getD ((i : Int)).toNat 0 = zs[i] := by
        rw [Int.toNat_natCast, List.getD_eq_getElem?_getD, List.getElem?_eq_getElem hi']
        rfl
      have r' : R (.str (S [zs.getD ((i : Int)).toNat 0])) H' := r
      rw [e] at r'
      exact r'
    · intro H2 s2 e2
      refine ⟨_, rfl, m, rfl, D, _, rfl, SqL.of e2, fun T H3 s3 nT e3 => ?_⟩
      rw [cutV_take, List.map_map, ← List.map_take] at e3
      have e4 : (ks.take m).map ((fun v => match v with | V.int i => V.str (S [zs.getD i.toNat 0]) | _ => .non) ∘ num) = (((ks.map fun i => zs.getD i 0).take m).map fun c => S [c]).map V.str := by
        rw [← List.map_take, List.map_map, List.map_map]
        rfl
      rw [e4] at e3
      refine ⟨_, T, _, rfl, rfl, .inl (SqL.of e3), ?_, ?_⟩
      · rw [sum_ones, str_empty]
        have : (((ks.map fun i => zs.getD i 0).take m).map fun c => S [c]).length ≤ 1000 := by
          rw [List.length_map, List.length_take, List.length_map, hperm.length_eq, List.length_range]
          omega
        rw [List.length_map] at this
        rw [len_S]
        show _ + _ * 0 ≤ _
        omega
      · rw [str_empty, join_signs]
        have hall : (ks.map fun i => zs.getD i 0).Perm zs := by
          have h1 := hperm.map fun i => zs.getD i 0
          have h2 : (List.range zs.length).map (fun i => zs.getD i 0) = zs := by
            refine List.ext_getElem (by simp) fun i h1 h2 => ?_
            rw [List.getElem_map, List.getElem_range, List.getD_eq_getElem?_getD, List.getElem?_eq_getElem h2]
            rfl
          rw [h2] at h1
          exact h1
        exact q H3 _ (hb1.trans (Same.but (s2.trans s3) p)) ((hs1.same s2).same s3) hall
end
end Tb

set_option Elab.async false
set_option linter.all false
set_option maxRecDepth 100000
set_option maxHeartbeats 1000000
namespace Tb
open PySem PySem.Spec PyProof.Rows L2 TL
theorem ne_src {H : Hp} {p q : Addr} {n : Nat} (h : Src H p n) (hq : H q = none) : q ≠ p := fun z => by
  obtain ⟨o, e, _⟩ := h
  rw [z, e] at hq
  cases hq
theorem Src.at {H H' : Hp} {p : Addr} {n : Nat} (h : Src H p n) (e : H' p = H p) : Src H' p n := by
  obtain ⟨o, k, h⟩ := h
  exact ⟨o, e.trans k, h⟩
section
variable {P : Program} {w : World} {K : PySem.W.Frag} {mg : Str → Option Value} {base : Heap}
/-- a short text of these signs -/
def spPiece : Sp := fun vs H Q _ => ∃ (p : Addr) (n : Nat) (zs : List Nat), vs = [.ref p, .str (S zs)] ∧ Src H p n ∧ n + 4 < 1000000 ∧ 0 < zs.length ∧ zs.length ≤ 1000 ∧
  ∀ H' (cs : List Nat), But p H H' → Src H' p (n + 4) → cs.length ≤ 3 → (∀ c ∈ cs, c ∈ zs) → Q (.str (S cs)) H'
def sizes9 : List Nat := [0, 0, 0, 0, 1, 1, 1, 2, 3]
end
end Tb

set_option Elab.async false
set_option linter.all false
set_option maxRecDepth 100000
set_option maxHeartbeats 2000000
namespace Tb
open PySem PySem.Spec PyProof.Rows L2 TL
/-- the signs of a name -/
def NameL (cs : List Nat) : Prop := 1 ≤ cs.length ∧ cs.length ≤ 8 ∧ ∀ c ∈ cs, 97 ≤ c ∧ c ≤ 122
def az : List Nat := (List.range 26).map (97 + ·)
theorem az_str : Str.ofString "abcdefghijklmnopqrstuvwxyz" = S az := by decide +kernel
theorem az_mem {c : Nat} : c ∈ az ↔ 97 ≤ c ∧ c ≤ 122 := by
  unfold az
  rw [List.mem_map]
  constructor
  · rintro ⟨i, hi, rfl⟩
    have := List.mem_range.mp hi
    omega
  · rintro ⟨h1, h2⟩
    exact ⟨c - 97, List.mem_range.mpr (by omega), by omega⟩
theorem az_len : az.length = 26 := by decide
def words6 (r : List Nat) : List (List Nat) := [[112, 108, 97, 99, 101], [98, 111, 120, 101, 115], [108, 101, 116, 116, 101, 114, 115], [111, 110], [114, 101, 102, 117, 115, 101], 113 :: r]
theorem words6_str (r : List Nat) : (words6 r).map (fun y => V.str (S y)) = [.str (Str.ofString "place"), .str (Str.ofString "boxes"), .str (Str.ofString "letters"), .str (Str.ofString "on"), .str (Str.ofString "refuse"), .str (S (113 :: r))] := by
  have h1 : Str.ofString "place" = S [112, 108, 97, 99, 101] := by decide +kernel
  have h2 : Str.ofString "boxes" = S [98, 111, 120, 101, 115] := by decide +kernel
  have h3 : Str.ofString "letters" = S [108, 101, 116, 116, 101, 114, 115] := by decide +kernel
  have h4 : Str.ofString "on" = S [111, 110] := by decide +kernel
  have h5 : Str.ofString "refuse" = S [114, 101, 102, 117, 115, 101] := by decide +kernel
  rw [h1, h2, h3, h4, h5]
  rfl
theorem words6_name {r w : List Nat} (hr : r.length ≤ 7) (h : ∀ c ∈ r, 97 ≤ c ∧ c ≤ 122) (hw : w ∈ words6 r) : NameL w := by
  simp only [words6, List.mem_cons, List.not_mem_nil, or_false] at hw
  have lit : ∀ l : List Nat, 1 ≤ l.length → l.length ≤ 8 → (l.all fun c => decide (97 ≤ c ∧ c ≤ 122)) = true → NameL l := fun l a b c => ⟨a, b, fun x hx => of_decide_eq_true (List.all_eq_true.mp c x hx)⟩
  rcases hw with rfl | rfl | rfl | rfl | rfl | rfl
  · exact lit _ (by decide) (by decide) (by decide)
  · exact lit _ (by decide) (by decide) (by decide)
  · exact lit _ (by decide) (by decide) (by decide)
  · exact lit _ (by decide) (by decide) (by decide)
  · exact lit _ (by decide) (by decide) (by decide)
  · refine ⟨by rw [List.length_cons]; omega, by rw [List.length_cons]; omega, fun c hc => ?_⟩
    rcases List.mem_cons.mp hc with rfl | hc
    · omega
    · exact h c hc
def sizes13 : List Nat := [8, 4, 5, 6, 7, 1, 2, 3, 1, 2, 3, 1, 2]
section
variable {P : Program} {w : World} {K : PySem.W.Frag} {mg : Str → Option Value} {base : Heap}
abbrev nName : List Str := ["_law_source_here", "_law_taken", "_law_size", "_law_name_here", "_law_k", "_law_one", "_law_sign"]
/-- a name that is not taken -/
def spName (K : PySem.W.Frag) : Sp := fun vs H Q _ => ∃ (p t : Addr) (n : Nat) (taken : List (List Nat)), vs = [.ref p, .ref t] ∧ Src H p n ∧ n + 10 < 1000000 ∧ SqL K H t (taken.map fun y => .str (S y)) ∧ t ≠ p ∧ taken.length ≤ 25 ∧
  ∀ H' (cs : List Nat), But p H H' → Src H' p (n + 10) → NameL cs → cs ∉ taken → Q (.str (S cs)) H'
end
end Tb

set_option Elab.async false
set_option linter.all false
set_option maxRecDepth 100000
set_option maxHeartbeats 2000000
namespace Tb
open PySem PySem.Spec PyProof.Rows L2 TL
section
variable {P : Program} {w : World} {K : PySem.W.Frag} {mg : Str → Option Value} {base : Heap}
/-- so many unlike names -/
def spNames : Sp := fun vs H Q _ => ∃ (p : Addr) (n m : Nat), vs = [.ref p, num m] ∧ Src H p n ∧ n + 10 * m < 1000000 ∧ m ≤ 25 ∧
  ∀ t H' (ns : List (List Nat)), But p H H' → Src H' p (n + 10 * m) → H t = none → H' t = some (.lst (ns.map fun y => .str (S y))) → ns.length = m → (∀ x ∈ ns, NameL x) → ns.Nodup → Q (.ref t) H'
end
end Tb

set_option Elab.async false
set_option linter.all false
set_option maxRecDepth 100000
set_option maxHeartbeats 2000000
namespace Tb
open PySem PySem.Spec PyProof.Rows L2 TL
/-! ### dicts of texts -/
abbrev Fil := List (List Nat × List Nat)
def fkv (hf : Fil) : List (Key × V) := hf.map fun q => (Sum.inr (S q.1), V.str (S q.2))
def getF (hf : Fil) (h : List Nat) : Option (List Nat) := (hf.find? fun q => decide (q.1 = h)).map (·.2)
def setF (hf : Fil) (h f : List Nat) : Fil := hf.map fun q => if q.1 = h then (q.1, f) else q
theorem key_S {a b : List Nat} : (Sum.inr (S a) : Key) = Sum.inr (S b) ↔ a = b := ⟨fun h => S_inj (Sum.inr.inj h), fun h => by rw [h]⟩
theorem getF_cons (q : List Nat × List Nat) (hf : Fil) (h : List Nat) : getF (q :: hf) h = if q.1 = h then some q.2 else getF hf h := by
  unfold getF
  rw [List.find?_cons]
  by_cases e : q.1 = h
  · rw [if_pos e, decide_eq_true e]
    rfl
  · rw [if_neg e, decide_eq_false e]
theorem val_fkv (h : List Nat) : ∀ hf : Fil, valV (fkv hf) (Sum.inr (S h)) = (getF hf h).map fun f => V.str (S f)
  | [] => rfl
  | q :: hf => by
    rw [getF_cons]
    show valV ((Sum.inr (S q.1), V.str (S q.2)) :: fkv hf) _ = _
    by_cases e : q.1 = h
    · rw [if_pos e, valV_pos (key_S.mpr e)]
      rfl
    · rw [if_neg e, valV_neg (fun z => e (key_S.mp z)), val_fkv h hf]
theorem getF_some {hf : Fil} {h : List Nat} (m : h ∈ hf.map (·.1)) : ∃ f, getF hf h = some f ∧ (h, f) ∈ hf := by
  induction hf with
  | nil => exact (nomatch m)
  | cons q r ih =>
    rw [getF_cons]
    by_cases e : q.1 = h
    · exact ⟨q.2, by rw [if_pos e], by rw [← e]; exact List.mem_cons_self⟩
    · rw [if_neg e]
      rcases List.mem_cons.mp m with z | z
      · exact absurd z.symm e
      · obtain ⟨f, h1, h2⟩ := ih z
        exact ⟨f, h1, List.mem_cons_of_mem _ h2⟩
theorem getF_none {hf : Fil} {h : List Nat} (m : h ∉ hf.map (·.1)) : getF hf h = none := by
  induction hf with
  | nil => rfl
  | cons q r ih =>
    rw [getF_cons, if_neg (fun e => m (by rw [← e]; exact List.mem_cons_self)), ih (fun z => m (List.mem_cons_of_mem _ z))]
theorem put_fkv {hf : Fil} {h : List Nat} (f : List Nat) (m : h ∈ hf.map (·.1)) : putK (fkv hf) (Sum.inr (S h)) (V.str (S f)) = fkv (setF hf h f) := by
  obtain ⟨f0, e, _⟩ := getF_some m
  unfold putK
  rw [if_pos (by rw [valV_any, val_fkv, e]; rfl)]
  unfold fkv setF
  rw [List.map_map, List.map_map]
  refine List.map_congr_left fun q _ => ?_
  show (if (Sum.inr (S q.1) : Key) = Sum.inr (S h) then _ else _) = _
  by_cases e : q.1 = h
  · rw [if_pos (key_S.mpr e)]
    show _ = ((Sum.inr (S (if q.1 = h then (q.1, f) else q).1) : Key), V.str (S (if q.1 = h then (q.1, f) else q).2))
    rw [if_pos e]
  · rw [if_neg (fun z => e (key_S.mp z))]
    show _ = ((Sum.inr (S (if q.1 = h then (q.1, f) else q).1) : Key), V.str (S (if q.1 = h then (q.1, f) else q).2))
    rw [if_neg e]
theorem setF_keys (hf : Fil) (h f : List Nat) : (setF hf h f).map (·.1) = hf.map (·.1) := by
  unfold setF
  rw [List.map_map]
  refine List.map_congr_left fun q _ => ?_
  show (if q.1 = h then (q.1, f) else q).1 = q.1
  by_cases e : q.1 = h
  · rw [if_pos e]
  · rw [if_neg e]
theorem setF_mem {hf : Fil} {h f : List Nat} {q : List Nat × List Nat} (m : q ∈ setF hf h f) : q.2 = f ∨ q ∈ hf := by
  obtain ⟨r, hr, e⟩ := List.mem_map.mp m
  by_cases z : r.1 = h
  · rw [if_pos z] at e
    exact .inl (by rw [← e])
  · rw [if_neg z] at e
    exact .inr (by rw [← e]; exact hr)
theorem setF_other {h f : List Nat} : ∀ {hf : Fil}, h ∉ hf.map (·.1) → setF hf h f = hf
  | [], _ => rfl
  | q :: r, m => by
    have e : q.1 ≠ h := fun z => m (by rw [← z]; exact List.mem_cons_self)
    show (if q.1 = h then (q.1, f) else q) :: setF r h f = q :: r
    rw [if_neg e, setF_other (fun z => m (List.mem_cons_of_mem _ z))]
theorem setF_count (p : Nat → Bool) {h f0 x : List Nat} : ∀ {hf : Fil}, (hf.map (·.1)).Nodup → getF hf h = some f0 →
    (((setF hf h (f0 ++ x)).map (·.2)).flatten).countP p = ((hf.map (·.2)).flatten).countP p + x.countP p
  | [], _, e => by cases e
  | q :: r, nd, e => by
    have nd' := List.nodup_cons.mp nd
    rw [getF_cons] at e
    show (((if q.1 = h then (q.1, f0 ++ x) else q) :: setF r h (f0 ++ x)).map (·.2)).flatten.countP p = _
    rw [List.map_cons, List.flatten_cons, List.countP_append, List.map_cons, List.flatten_cons, List.countP_append]
    by_cases z : q.1 = h
    · rw [if_pos z] at e
      have e' : q.2 = f0 := Option.some.inj e
      rw [if_pos z, setF_other (by rw [← z]; exact nd'.1)]
      show (f0 ++ x).countP p + _ = _
      rw [List.countP_append, e']
      omega
    · rw [if_neg z] at e
      rw [if_neg z, setF_count p nd'.2 e]
      omega
theorem merge_new : ∀ (more acc : List (Key × V)), ((acc ++ more).map (·.1)).Nodup → mergeK acc more = acc ++ more
  | [], acc, _ => (List.append_nil acc).symm
  | kv :: r, acc, nd => by
    show mergeK (putK acc kv.1 kv.2) r = _
    have hno : kv.1 ∉ acc.map (·.1) := fun z => by
      rw [List.map_append, List.nodup_append] at nd
      exact nd.2.2 _ z _ (by rw [List.map_cons]; exact List.mem_cons_self) rfl
    have en : putK acc kv.1 kv.2 = acc ++ [kv] := by
      unfold putK
      rw [if_neg ?_]
      intro z
      obtain ⟨u, hu, e⟩ := List.any_eq_true.mp z
      exact hno (List.mem_map.mpr ⟨u, hu, of_decide_eq_true e⟩)
    rw [en, merge_new r (acc ++ [kv]) (by rw [List.append_assoc]; exact nd), List.append_assoc]
    rfl
theorem fkv_nodup {hf : Fil} (nd : (hf.map (·.1)).Nodup) : ((fkv hf).map (·.1)).Nodup := by
  unfold fkv
  rw [List.map_map]
  have e : hf.map ((fun q : Key × V => q.1) ∘ fun q => (Sum.inr (S q.1), V.str (S q.2))) = (hf.map (·.1)).map fun h => (Sum.inr (S h) : Key) := by
    rw [List.map_map]
    rfl
  rw [e]
  refine List.Pairwise.map _ (fun a b hab z => hab (key_S.mp z)) nd
/-! ### a list of pairs -/
section
variable {K : PySem.W.Frag} {te : TE} {tt : TT} {vs : List Nat} {σ : L2.St} {H1 : Hp} {D : Addr} {Qd : Hp → Prop} {sl : Nat}
theorem lc_pairsL {a : Addr} {xs : List V} (keep : V → Bool) (kf vf : V → V) (hS : SqL K H1 a xs) (nD : H1 D = none) (hl : xs.length < sizeLine)
    (ht : ∀ x ∈ xs, ∀ H' (R : Bool → Hp → Prop), Same H1 H' → R (keep x) H' → tt ((wipe σ vs).set sl (some x)) H' R)
    (he : ∀ x ∈ xs, keep x = true → ∀ H' (R : VK), Same H1 H' → New H' (.tup [kf x, vf x]) R → te ((wipe σ vs).set sl (some x)) H' R)
    (hd : ∀ H' ts, Same H1 H' → H' D = some (.lst (ts.map V.ref)) → Paired (fun t x => H' t = some (.tup [kf x, vf x])) ts (xs.filter keep) → Qd H') (hw : ∀ x, wipe ((wipe σ vs).set sl (some x)) vs = wipe σ vs := by intro _; rfl) :
    ∃ W : Nat → Nat → Hp → Prop, (∃ m, W 0 m (upd H1 D (.lst []))) ∧ ∀ i m H, W i m H →
      ((Itl K a).stop i H ∧ Qd H) ∨ ((Itl K a).go i H ∧ ∃ Nx : Hp → Prop, (∀ H', Nx H' → ∃ m', m' < m ∧ W (i + 1) m' H') ∧ ∀ x H', (Itl K a).yld i H x H' → gName sl x (wipe σ vs) H' fun σ2 H2 => wipe σ2 vs = wipe σ vs ∧ tt σ2 H2 fun b H3 =>
        if b = true then te σ2 H3 fun y H4 => ∃ acc, H4 D = some (.lst acc) ∧ acc.length < sizeLine ∧ Nx (upd H4 D (.lst (acc ++ [y]))) else Nx H3) := by
  have mono : ∀ {H H' : Hp} {ts : List Addr} {ys : List V}, (∀ b o, H b = some o → b ≠ D → H' b = some o) → (∃ l, H D = some (.lst l)) → Paired (fun t x => H t = some (.tup [kf x, vf x])) ts ys → Paired (fun t x => H' t = some (.tup [kf x, vf x])) ts ys := by
    intro H H' ts ys hb hD hp
    induction hp with
    | nil => exact .nil
    | cons h _ ih =>
      refine .cons (hb _ _ h fun z => ?_) ih
      obtain ⟨l, e⟩ := hD
      rw [z, e] at h
      cases h
  refine lc_list (K := K) (a := a) (xs := xs) (fun i H => Same H1 H ∧ ∃ ts, H D = some (.lst (ts.map V.ref)) ∧ Paired (fun t x => H t = some (.tup [kf x, vf x])) ts ((xs.take i).filter keep)) ⟨same_upd nD, [], upd_same, .nil⟩ (fun i H _ h => h.1.seq hS) ?_ ?_
  · rintro i x H hx ⟨s, ts, e, hp⟩
    have hm := List.mem_of_getElem? hx
    have et : xs.take (i + 1) = xs.take i ++ [x] := by
      rw [List.take_add_one, hx]
      rfl
    refine ⟨hw x, tif (k := keep x) (fun R r => ht x hm H R s r) (fun hk => he x hm hk H _ s fun T H2 s2 nT eT => ?_) (fun hk => ⟨s, ts, e, ?_⟩)⟩
    · have hlt : ts.length < sizeLine := by
        rw [Paired.length hp]
        refine Nat.lt_of_le_of_lt (List.length_filter_le _ _) ?_
        rw [List.length_take]
        exact Nat.lt_of_le_of_lt (Nat.min_le_right _ _) hl
      have nTD : T ≠ D := fun z => by
        rw [z, e] at nT
        cases nT
      refine ⟨_, s2 _ _ e, by rw [List.length_map]; exact hlt, fun b o eb => ?_, ts ++ [T], ?_, ?_⟩
      · rw [upd_ne (ne_of_none eb nD)]
        exact s2 _ _ (s _ _ eb)
      · rw [upd_same, List.map_append]
        rfl
      · rw [et, List.filter_append]
        have h1 : Paired (fun t x => (upd H2 D (.lst (ts.map V.ref ++ [.ref T]))) t = some (.tup [kf x, vf x])) ts ((xs.take i).filter keep) :=
          mono (H := H) (fun b o eb ne => by rw [upd_ne ne]; exact s2 _ _ eb) ⟨_, e⟩ hp
        have h2 : [x].filter keep = [x] := by simp [List.filter_cons, hk]
        rw [h2]
        exact h1.snoc (by rw [upd_ne nTD]; exact eT)
    · rw [et, List.filter_append]
      have h2 : [x].filter keep = [] := by simp [List.filter_cons, hk]
      rw [h2, List.append_nil]
      exact hp
  · rintro H ⟨s, ts, e, hp⟩
    rw [List.take_length] at hp
    exact hd H ts s e hp
end
section
variable {X : Cx}
def rDictP (K : PySem.W.Frag) : List V → Hp → VK → Prop := fun xs H Q => ∃ (a : Addr) (ps : List Addr) (kvs : List (Key × V)), xs = [.ref a] ∧ SqL K H a (ps.map V.ref) ∧ Paired (fun p kv => SqT K H p [kV kv.1, kv.2]) ps kvs ∧ New H (.dK (mergeK [] kvs)) Q
theorem call_dictS (hc : X.calm = true) : CallR X (.type "dict") (rDictP X.K) := CallR.weak (call_dictP hc) fun xs H Q ⟨a, ps, kvs, e, h1, h2, q⟩ => ⟨a, ps, kvs, e, h1, h2, q.at⟩
/-- xs != ys: of unlike lengths, or the very same things -/
def rNeLen (K : PySem.W.Frag) : R2 := fun x y H Q => ∃ a b xs ys, x = .ref a ∧ y = .ref b ∧ SqL K H a xs ∧ SqL K H b ys ∧ ((xs.length ≠ ys.length ∧ Q (.bl true) H) ∨ (xs = [] ∧ ys = [] ∧ Q (.bl false) H))
theorem op_neLen (hu : X.A.units + 1 < cLine) : OpR X (compareOp .NotEq) (rNeLen X.K) := by
  intro pins s σ H x y v u Q I rx ry h
  obtain ⟨a, b, xs, ys, rfl, rfl, ha, hb, hq⟩ := h
  cases (show v = Value.ref a from rx)
  cases (show u = Value.ref b from ry)
  obtain ⟨us, r1, p1, _⟩ := I.list ha
  obtain ⟨ws, r2, p2, _⟩ := I.list hb
  rcases hq with ⟨hne, q⟩ | ⟨rfl, rfl, q⟩
  · have hsz : (us.toArray.size != ws.toArray.size) = true := by
      rw [List.size_toArray, List.size_toArray, ← r1.length, ← r2.length]
      simpa using hne
    exact SeqAt.RcNeAt.lists_lengths (A := X.A) (s := s) p1.isList p2.isList hsz (by omega) X.prog X.w _ _ ⟨.bl true, H, I, rfl, q⟩
  · cases r1
    cases r2
    exact SeqAt.RcNeAt.lists (A := X.A) (s := s) (e := fun _ => true) p1.isList p2.isList rfl (by omega) (fun j h1 h2 => absurd h1 (Nat.not_lt_zero j)) X.prog X.w _ _ ⟨.bl false, H, I, rfl, q⟩
end
end Tb

set_option Elab.async false
set_option linter.all false
set_option maxRecDepth 100000
set_option maxHeartbeats 2000000
namespace Tb
open PySem PySem.Spec PyProof.Rows L2 TL
def txs (l : List (List Nat)) : List V := l.map fun y => V.str (S y)
def sgs (l : List Nat) : List V := l.map fun c => V.str (S [c])
/-- each sign of the fillings is of out or a box; each box stands at most as often as in `done` -/
structure FillOk (out boxes done : List Nat) (hf : Fil) : Prop where
  nd : (hf.map (·.1)).Nodup
  signs : ∀ q ∈ hf, ∀ c ∈ q.2, c ∈ out ∨ c ∈ boxes
  cnt : ∀ b ∈ boxes, ((hf.map (·.2)).flatten).count b ≤ done.count b
theorem count_countP (l : List Nat) (b : Nat) : l.count b = l.countP (· == b) := rfl
theorem FillOk.put {out boxes done : List Nat} {hf : Fil} (F : FillOk out boxes done hf) {h f0 x y : List Nat} (g : getF hf h = some f0) (hm : (h, f0) ∈ hf) (hx : ∀ c ∈ x, c ∈ out) (hb : ∀ b ∈ boxes, b ∉ out) (hy : ∀ c ∈ y, c ∈ boxes) (d2 : List Nat) (hd : ∀ b ∈ boxes, done.count b + y.count b ≤ d2.count b) :
    FillOk out boxes d2 (setF hf h (f0 ++ (x ++ y))) where
  nd := by rw [setF_keys]; exact F.nd
  signs := fun q hq c hc => by
    rcases setF_mem hq with e | e
    · rw [e] at hc
      rcases List.mem_append.mp hc with z | z
      · exact F.signs _ hm c z
      · rcases List.mem_append.mp z with z | z
        · exact .inl (hx c z)
        · exact .inr (hy c z)
    · exact F.signs q e c hc
  cnt := fun b hbm => by
    rw [count_countP, setF_count (· == b) F.nd g, List.countP_append]
    have h1 := F.cnt b hbm
    have h2 := hd b hbm
    rw [count_countP] at h1
    have h3 : x.countP (· == b) = 0 := List.countP_eq_zero.mpr fun c hc z => hb b hbm (by rw [← beq_iff_eq.mp z]; exact hx c hc)
    have h4 : y.countP (· == b) = y.count b := rfl
    omega
def lenF (hf : Fil) : Nat := ((hf.map (·.2)).flatten).length
theorem lenF_put {hf : Fil} {h f0 x : List Nat} (nd : (hf.map (·.1)).Nodup) (g : getF hf h = some f0) : lenF (setF hf h (f0 ++ x)) = lenF hf + x.length := by
  have e := setF_count (fun _ => true) nd g (x := x)
  simpa [lenF, List.countP_true] using e
theorem len_le {hf : Fil} {q : List Nat × List Nat} (m : q ∈ hf) : q.2.length ≤ lenF hf := by
  unfold lenF
  induction hf with
  | nil => exact (nomatch m)
  | cons r rs ih =>
    rw [List.map_cons, List.flatten_cons, List.length_append]
    rcases List.mem_cons.mp m with e | e
    · rw [e]; omega
    · have := ih e
      omega
theorem fill_start {out boxes : List Nat} {hs : List (List Nat)} (nd : hs.Nodup) : FillOk out boxes [] (hs.map fun h => (h, [])) := by
  have e0 : (hs.map fun h => (h, ([] : List Nat))).map (·.2) = hs.map fun _ => [] := by
    rw [List.map_map]
    rfl
  have e1 : ((hs.map fun h => (h, ([] : List Nat))).map (·.2)).flatten = [] := by
    rw [e0]
    induction hs with
    | nil => rfl
    | cons h r ih =>
      rw [List.map_cons, List.flatten_cons, ih (List.nodup_cons.mp nd).2 (by rw [List.map_map]; rfl)]
      rfl
  refine ⟨?_, fun q hq c hc => ?_, fun b _ => ?_⟩
  · have : (hs.map fun h => (h, ([] : List Nat))).map (·.1) = hs := by
      rw [List.map_map]
      exact List.map_id _
    rw [this]
    exact nd
  · obtain ⟨h, _, rfl⟩ := List.mem_map.mp hq
    exact (nomatch hc)
  · rw [e1]
    exact Nat.le_refl _
theorem keys_start (hs : List (List Nat)) : (hs.map fun h => (h, ([] : List Nat))).map (·.1) = hs := by
  rw [List.map_map]
  exact List.map_id _
theorem lenF_start (hs : List (List Nat)) : lenF (hs.map fun h => (h, ([] : List Nat))) = 0 := by
  unfold lenF
  rw [List.map_map]
  induction hs with
  | nil => rfl
  | cons h r ih => exact ih
theorem paired_map {α β γ : Type} {F : α → β → Prop} {g : γ → β} : ∀ {l : List α} {m : List γ}, Paired F l (m.map g) → Paired (fun a c => F a (g c)) l m
  | _, [], h => by
    cases h
    exact .nil
  | _, c :: m, h => by
    cases h with
    | cons h t => exact .cons h (paired_map t)
theorem map_paired {α β γ : Type} {F : α → β → Prop} {g : γ → β} : ∀ {l : List α} {m : List γ}, Paired (fun a c => F a (g c)) l m → Paired F l (m.map g)
  | _, [], h => by
    cases h
    exact .nil
  | _, c :: m, h => by
    cases h with
    | cons h t => exact .cons h (map_paired t)
def pick1 (l : List Nat) : V → V := fun v => match v with | .int i => .str (S [l.getD i.toNat 0]) | _ => .non
theorem pick1_num (l : List Nat) (i : Nat) : pick1 l (num i) = .str (S [l.getD i 0]) := rfl
theorem getD_perm {ks zs : List Nat} (h : ks.Perm (List.range zs.length)) : (ks.map fun i => zs.getD i 0).Perm zs := by
  have h1 := h.map fun i => zs.getD i 0
  have h2 : (List.range zs.length).map (fun i => zs.getD i 0) = zs := by
    refine List.ext_getElem (by simp) fun i h1 h2 => ?_
    rw [List.getElem_map, List.getElem_range, List.getD_eq_getElem?_getD, List.getElem?_eq_getElem h2]
    rfl
  rw [h2] at h1
  exact h1
section
variable {P : Program} {w : World} {K : PySem.W.Frag} {mg : Str → Option Value} {base : Heap}
abbrev nFill : List Str := ["_law_source_here", "_law_boxes", "_law_holders", "_law_out", "_law_holder", "_law_found", "_law_box", "_law_way", "_law_k"]
/-- fillings of the holders, each box once at most -/
def spFill (K : PySem.W.Frag) : Sp := fun vs H Q _ => ∃ (p tb th : Addr) (n : Nat) (boxes out : List Nat) (hs : List (List Nat)), vs = [.ref p, .ref tb, .ref th, .str (S out)] ∧ Src H p n ∧ n + 100 < 1000000 ∧ SqL K H tb (sgs boxes) ∧ SqL K H th (txs hs) ∧ tb ≠ p ∧ th ≠ p ∧
  boxes.length ≤ 7 ∧ hs.length ≤ 7 ∧ boxes.Nodup ∧ hs.Nodup ∧ 0 < out.length ∧ out.length ≤ 1000 ∧ (∀ b ∈ boxes, b ∉ out) ∧
  ∀ d H' (hf : Fil), But p H H' → Src H' p (n + 100) → H d = none → H' d = some (.dK (fkv hf)) → hf.map (·.1) = hs → FillOk out boxes boxes hf → (lenF hf ≤ 100 ∧ lenF hf ≤ 4 * boxes.length + 3 * hf.length) → Q (.ref d) H'
end
end Tb

set_option Elab.async false
set_option linter.all false
set_option maxRecDepth 100000
set_option maxHeartbeats 4000000
/-! set(..) of a list of texts, or of a text's signs, of any number; len of it. -/
namespace Ts
open PySem PySem.Spec PySem.Calls PyProof.Rows
def stepS (σ : List Str) (v : Str) : List Str := if σ.any (· == v) then σ else σ ++ [v]
/-- the first i of them, each once -/
def metS (val : Nat → Str) (i : Nat) : List Str := ((List.range i).map val).foldl stepS []
theorem metS_succ (val : Nat → Str) (i : Nat) : metS val (i + 1) = stepS (metS val i) (val i) := by
  unfold metS
  rw [List.range_succ, List.map_append, List.foldl_append]
  rfl
theorem stepS_len (σ : List Str) (v : Str) : (stepS σ v).length = if σ.any (· == v) then σ.length else σ.length + 1 := by
  unfold stepS
  split <;> simp
theorem metS_le (val : Nat → Str) : ∀ i, (metS val i).length ≤ i
  | 0 => Nat.le_refl _
  | i + 1 => by
    rw [metS_succ, stepS_len]
    have ih := metS_le val i
    split <;> omega
theorem stepS_any (σ : List Str) (v k : Str) : (stepS σ v).any (· == k) = (σ.any (· == k) || decide (k = v)) := by
  unfold stepS
  by_cases h : σ.any (· == v) = true
  · rw [if_pos h]
    by_cases e : k = v
    · subst e
      rw [h]
      simp
    · simp [e]
  · rw [if_neg h, List.any_append]
    by_cases e : k = v
    · subst e
      simp
    · have hb : (v == k) = false := by simpa [beq_iff_eq] using (fun h' : v = k => e h'.symm)
      simp [hb, e]
section
variable {prog : Program} {w : World} {A : Around} {R : Result → Shared → Prop} {I : Addr} {fp wr : List Addr} {G : Array GenState → Array GenState → Prop} {n : Nat} {P : Nat → Value → Prop} {St : Nat → Shared → Prop}
theorem loopS (W : WalksS prog w A.in1 I fp wr G n P St) (b0 : Addr) (hfp : b0 ∉ fp) (val : Nat → Str) (hval : ∀ i v, P i v → ∃ t, v = .str (val i) t) (hb : n + 1 < scanBound) :
    ∀ (k i : Nat) (s : Shared), n - i = k → i ≤ n → St i s → s.heap.SetOf (PySem.strKind prog w) b0 (fun k' => (metS val i).any (· == k')) (metS val i).length →
      (∀ s', Moved (b0 :: wr) G s s' → s'.heap.SetOf (PySem.strKind prog w) b0 (fun k' => (metS val n).any (· == k')) (metS val n).length → R (.ok (.ret .none)) s') →
      codeAny (model prog w) A (.builtin "set.update.loop" ⟨[.ref b0, .ref I], []⟩) R s := by
  have hwr : b0 ∉ wr := fun h => hfp (W.sub _ h)
  have sub : ∀ b ∈ wr, b ∈ b0 :: wr := fun b h => List.mem_cons_of_mem _ h
  intro k
  induction k with
  | zero =>
    intro i s hk hi hst hS hR
    have hin : i = n := by omega
    subst hin
    refine codeAny_builtin PyProof.Rows.F.entry_set_update_loop ?_
    rw [Around.under_plainId PyProof.Rows.F.plain_set_update_loop _]
    show wpAny _ A.in1 (pyNext (.ref I) >>= _) _ _ s
    refine wpAny_bind (W.done s _ _ hst fun s' hm => ?_)
    show wpAny _ A.in1 (ret Value.none) _ _ s'
    refine wpAny_pure (hR s' (hm.mono sub) ?_)
    obtain ⟨o, es, ep, t, ho, rest⟩ := hS
    exact ⟨o, es, ep, t, hm.heap b0 _ hwr ho, rest⟩
  | succ k ih =>
    intro i s hk hi hst hS hR
    have hlt : i < n := by omega
    refine codeAny_builtin PyProof.Rows.F.entry_set_update_loop ?_
    rw [Around.under_plainId PyProof.Rows.F.plain_set_update_loop _]
    show wpAny _ A.in1 (pyNext (.ref I) >>= _) _ _ s
    refine wpAny_bind (W.item i s _ _ hlt hst fun v s' hP hst' hm => ?_)
    obtain ⟨t, rfl⟩ := hval i v hP
    have hS1 : s'.heap.SetOf (PySem.strKind prog w) b0 (fun k' => (metS val i).any (· == k')) (metS val i).length := by
      obtain ⟨o, es, ep, tb, ho, rest⟩ := hS
      exact ⟨o, es, ep, tb, hm.heap b0 _ hwr ho, rest⟩
    show wpAny _ A.in1 (holding [Value.str (val i) t] (setAdd b0 (.str (val i) t)) >>= _) _ _ s'
    refine wpAny_bind (wpAny_holding ?_)
    unfold setAdd
    refine wpAny_holding ?_
    refine wpAny_bind ((PySem.strKind prog w).pyHash (k := val i) (strKind_is _ _ _ _) ?_)
    have room : (metS val i).length + 1 < scanBound := by
      have := metS_le val i
      omega
    refine wpAny_setAddHashed_of (knd := PySem.strKind prog w) (s := { s' with toks := s'.toks + 1 }) (strKind_is _ _ _ _) rfl hS1 room fun h' hsb hS2 => ?_
    have hSi : h'.SetOf (PySem.strKind prog w) b0 (fun k' => (metS val (i + 1)).any (· == k')) (metS val (i + 1)).length :=
      SetOf_congr hS2 (fun k' => by rw [metS_succ, stepS_any]) (by rw [metS_succ, stepS_len])
    refine wpAny_pure ⟨plainId_quiet PyProof.Rows.F.plain_set_update_loop _, ih (i + 1) _ (by omega) hlt (W.frame _ s' _ _ hst' (Nat.le_succ _) fun b hbf o e => ?_) hSi fun s2 hm2 hS2' => ?_⟩
    · rw [hsb.2 b (fun h : b = b0 => hfp (by rw [← h]; exact hbf))]
      exact e
    · refine hR s2 (Moved.trans W.gtrans ((hm.mono sub).then_heap (Nat.le_succ _) fun b o hbw e => ?_) hm2) hS2'
      rw [hsb.2 b (fun h : b = b0 => hbw (by rw [h]; exact List.mem_cons_self))]
      exact e
end
section
variable {prog : Program} {w : World} {A : Around} {E : Value → Shared → Prop} {s : Shared}
abbrev newSet (led : Bool) : Obj := { cls := .type "set", dict := none, data := .set #[] 0 (.fresh 0 0 led) }
set_option maxHeartbeats 6400000 in
theorem set_of_list {l : Addr} {items : Array Value} {val : Nat → Str} {Q : Value → Shared → Prop} (hh : A.handled = none) (hl : s.heap.IsList l items) (hi : ∀ (i : Nat) (v : Value), items[i]? = some v → ∃ t, v = .str (val i) t) (hb : items.size + 1 < scanBound)
    (h : ∀ (h' : Heap) (tk : Nat), h'.SetOf (PySem.strKind prog w) s.heap.objs.size (fun k' => (metS val items.size).any (· == k')) (metS val items.size).length →
      (∀ b o, b < s.heap.objs.size → s.heap.get? b = some o → h'.get? b = some o) → Q (.ref s.heap.objs.size) { s with heap := h', toks := tk }) :
    wpAny (model prog w) A (call (.type "set") [.ref l]) Q E s := by
  obtain ⟨c, tl, hmro⟩ := PySem.F.called_set.mro
  have hmade := PySem.F.called_set.made
  have hsub := PySem.F.called_set.sub
  refine wpAny_call (codeAny_of_tree ?_)
  show wpAny _ _ (callAny (.type "set") _) _ _ _
  refine wpAny_pure ⟨Code.quiet_builtin _ (by decide +kernel), codeAny_builtin PySem.F.entry_type_call ?_⟩
  rw [Around.under_plain (weight_type_call_type "set" [.ref l] []) rfl]
  have h1 := PySem.F.called_set.notType
  have h2 := PySem.F.called_set.canCreate
  have hct := PySem.F.typeCall_set_1 (.ref l)
  repeat (any_goals (first
    | assumption
    | wp_step))
  refine codeAny_mono (code_set_new_1 (.ref l) (E := E) (Q₁ := fun obj s₁ => ∃ led : Bool, obj = .ref s.heap.objs.size ∧ s₁ = { s with heap := s.heap.push (newSet led) }) fun led => ⟨led, rfl, rfl⟩) fun r s₁ hr => ?_
  cases r with
  | error e => exact hr
  | ok fl =>
    cases fl with
    | ret obj =>
      obtain ⟨led, rfl, rfl⟩ := hr
      have hS : (s.heap.push (newSet led)).get? s.heap.objs.size = some (newSet led) := Heap.get?_push_size _ rfl
      have hT : Shared.TypeIs { s with heap := s.heap.push (newSet led) } (.ref s.heap.objs.size) "set" := ⟨_, hS, rfl⟩
      have hli := PySem.F.called_set.init.lookup
      have hbi := PySem.F.called_set.init.bind (.ref s.heap.objs.size)
      repeat (any_goals (first
        | assumption
        | wp_step))
      refine codeAny_mono (codeAny_call_builtin (R := wants (fun r s₂ => r = .none ∧ ∃ h' tk, s₂ = { s with heap := h', toks := tk } ∧ h'.SetOf (PySem.strKind prog w) s.heap.objs.size (fun k' => (metS val items.size).any (· == k')) (metS val items.size).length ∧
          (∀ b o, b < s.heap.objs.size → s.heap.get? b = some o → h'.get? b = some o)) E) PySem.F.called_set.init.plain PySem.F.entry_set_init (check_set_init_1 hT ?_)) fun r₂ s₂ hr₂ => ?_
      · obtain ⟨ol, hol, hcl, nl, hdl⟩ := hl
        obtain ⟨ocls, odict, odata, oslots⟩ := ol
        simp only at hcl hdl
        subst hcl
        subst hdl
        have hol' : (s.heap.push (newSet led)).get? l = some { cls := .type "list", dict := odict, data := .seq items nl, slots := oslots } := Heap.get?_push_of_some _ hol
        have hsls := PySem.F.sub_list_set
        have hslf := PySem.F.sub_list_frozenset
        have hne : (Value.type "list" == Value.type "dict") = false := by decide
        have hl1 : (s.heap.push (newSet led)).IsList l items := ⟨_, hol', rfl, nl, rfl⟩
        unfold Builtin.«set.__init__» noKeywords Builtin.Frozenset.updateFrom
        generalize hPI : pyIter = PI
        wp_walk
        subst hPI
        refine wpAny_pyIter_list hl1 ?_
        refine wpAny_bind (wpAny_runValue ?_)
        have hlS : l < s.heap.objs.size := Heap.lt_size hol
        have hh3 : A.in1.in1.in1.handled = none := by simp [hh]
        have sz : (s.heap.push (newSet led)).objs.size = s.heap.objs.size + 1 := Heap.size_push _ _
        have hneI : l ≠ (s.heap.push (newSet led)).objs.size := by
          rw [sz]
          exact Nat.ne_of_lt (Nat.lt_succ_of_lt hlS)
        have hSf : s.heap.objs.size ∉ [(s.heap.push (newSet led)).objs.size, l] := by
          rw [sz]
          simp only [List.mem_cons, List.not_mem_nil, or_false, not_or]
          exact ⟨Nat.ne_of_lt (Nat.lt_succ_self _), Nat.ne_of_gt hlS⟩
        refine loopS ((Walks.list hh3 _ l hneI items).toS) s.heap.objs.size hSf val hi hb (items.size - 0) 0 _ (by omega) (Nat.zero_le _) ⟨⟨_, Heap.get?_push_size _ rfl, rfl, rfl⟩, (hl1.push _)⟩ ?hS0 ?hR
        case hS0 =>
          have hget : ((s.heap.push (newSet led)).push { cls := .type "list_iterator", data := .fields #[.ref l, .int 0 0] }).get? s.heap.objs.size = some (newSet led) := Heap.get?_push_of_some _ hS
          exact SetOf_congr ((setObjOf_fresh (knd := PySem.strKind prog w) led).setOf hget (by unfold scanBound; omega)) (fun _ => rfl) rfl
        case hR =>
          intro s' hm hS'
          obtain ⟨h', g', d', tk', os'⟩ := s'
          have eg : g' = s.gens := hm.gens
          have ed : d' = s.drawn := hm.drawn
          have eo : os' = s.os := hm.os
          subst eg
          subst ed
          subst eo
          show wpAny _ _ _ _ _ _
          refine wpAny_pure ?_
          show wpAny _ _ (ret Value.none) _ _ _
          refine wpAny_pure ⟨rfl, h', tk', rfl, hS', fun b o hbs e => ?_⟩
          refine hm.heap b o ?_ (Heap.get?_push_of_some _ (Heap.get?_push_of_some _ e))
          rw [sz]
          simp only [List.mem_cons, List.not_mem_nil, or_false, not_or]
          exact ⟨Nat.ne_of_lt hbs, Nat.ne_of_lt (Nat.lt_succ_of_lt hbs)⟩
      · cases r₂ with
        | error e => exact hr₂
        | ok fl₂ =>
          cases fl₂ with
          | ret r =>
            obtain ⟨rfl, h', tk, rfl, hS', hk'⟩ := hr₂
            repeat (any_goals (first
              | assumption
              | wp_step))
            exact h _ _ hS' hk'
          | _ => exact hr₂.elim
    | _ => exact hr.elim
end
end Ts

set_option Elab.async false
set_option linter.all false
set_option maxRecDepth 100000
set_option maxHeartbeats 4000000
namespace Ts
open PySem PySem.Spec PySem.Calls PyProof.Rows
section
variable {prog : Program} {w : World} {A : Around} {E : Value → Shared → Prop} {s : Shared}
set_option maxHeartbeats 6400000 in
theorem set_of_tuple {l : Addr} {items : Array Value} {val : Nat → Str} {Q : Value → Shared → Prop} (hh : A.handled = none) (hl : s.heap.IsTuple l items) (hi : ∀ (i : Nat) (v : Value), items[i]? = some v → ∃ t, v = .str (val i) t) (hb : items.size + 1 < scanBound)
    (h : ∀ (h' : Heap) (tk : Nat), h'.SetOf (PySem.strKind prog w) s.heap.objs.size (fun k' => (metS val items.size).any (· == k')) (metS val items.size).length →
      (∀ b o, b < s.heap.objs.size → s.heap.get? b = some o → h'.get? b = some o) → Q (.ref s.heap.objs.size) { s with heap := h', toks := tk }) :
    wpAny (model prog w) A (call (.type "set") [.ref l]) Q E s := by
  obtain ⟨c, tl, hmro⟩ := PySem.F.called_set.mro
  have hmade := PySem.F.called_set.made
  have hsub := PySem.F.called_set.sub
  refine wpAny_call (codeAny_of_tree ?_)
  show wpAny _ _ (callAny (.type "set") _) _ _ _
  refine wpAny_pure ⟨Code.quiet_builtin _ (by decide +kernel), codeAny_builtin PySem.F.entry_type_call ?_⟩
  rw [Around.under_plain (weight_type_call_type "set" [.ref l] []) rfl]
  have h1 := PySem.F.called_set.notType
  have h2 := PySem.F.called_set.canCreate
  have hct := PySem.F.typeCall_set_1 (.ref l)
  repeat (any_goals (first
    | assumption
    | wp_step))
  refine codeAny_mono (code_set_new_1 (.ref l) (E := E) (Q₁ := fun obj s₁ => ∃ led : Bool, obj = .ref s.heap.objs.size ∧ s₁ = { s with heap := s.heap.push (newSet led) }) fun led => ⟨led, rfl, rfl⟩) fun r s₁ hr => ?_
  cases r with
  | error e => exact hr
  | ok fl =>
    cases fl with
    | ret obj =>
      obtain ⟨led, rfl, rfl⟩ := hr
      have hS : (s.heap.push (newSet led)).get? s.heap.objs.size = some (newSet led) := Heap.get?_push_size _ rfl
      have hT : Shared.TypeIs { s with heap := s.heap.push (newSet led) } (.ref s.heap.objs.size) "set" := ⟨_, hS, rfl⟩
      have hli := PySem.F.called_set.init.lookup
      have hbi := PySem.F.called_set.init.bind (.ref s.heap.objs.size)
      repeat (any_goals (first
        | assumption
        | wp_step))
      refine codeAny_mono (codeAny_call_builtin (R := wants (fun r s₂ => r = .none ∧ ∃ h' tk, s₂ = { s with heap := h', toks := tk } ∧ h'.SetOf (PySem.strKind prog w) s.heap.objs.size (fun k' => (metS val items.size).any (· == k')) (metS val items.size).length ∧
          (∀ b o, b < s.heap.objs.size → s.heap.get? b = some o → h'.get? b = some o)) E) PySem.F.called_set.init.plain PySem.F.entry_set_init (check_set_init_1 hT ?_)) fun r₂ s₂ hr₂ => ?_
      · obtain ⟨ol, hol, hcl, nl, hdl⟩ := hl
        obtain ⟨ocls, odict, odata, oslots⟩ := ol
        simp only at hcl hdl
        subst hcl
        subst hdl
        have hol' : (s.heap.push (newSet led)).get? l = some { cls := .type "tuple", dict := odict, data := .seq items nl, slots := oslots } := Heap.get?_push_of_some _ hol
        have hsls := PySem.F.sub_tuple_set
        have hslf := PySem.F.sub_tuple_frozenset
        have hne : (Value.type "tuple" == Value.type "dict") = false := by decide
        have hl1 : (s.heap.push (newSet led)).IsTuple l items := ⟨_, hol', rfl, nl, rfl⟩
        unfold Builtin.«set.__init__» noKeywords Builtin.Frozenset.updateFrom
        generalize hPI : pyIter = PI
        wp_walk
        subst hPI
        refine wpAny_pyIter_tuple hl1 ?_
        refine wpAny_bind (wpAny_runValue ?_)
        have hlS : l < s.heap.objs.size := Heap.lt_size hol
        have hh3 : A.in1.in1.in1.handled = none := by simp [hh]
        have sz : (s.heap.push (newSet led)).objs.size = s.heap.objs.size + 1 := Heap.size_push _ _
        have hneI : l ≠ (s.heap.push (newSet led)).objs.size := by
          rw [sz]
          exact Nat.ne_of_lt (Nat.lt_succ_of_lt hlS)
        have hSf : s.heap.objs.size ∉ [(s.heap.push (newSet led)).objs.size, l] := by
          rw [sz]
          simp only [List.mem_cons, List.not_mem_nil, or_false, not_or]
          exact ⟨Nat.ne_of_lt (Nat.lt_succ_self _), Nat.ne_of_gt hlS⟩
        refine loopS ((Walks.tuple hh3 _ l hneI items).toS) s.heap.objs.size hSf val hi hb (items.size - 0) 0 _ (by omega) (Nat.zero_le _) ⟨⟨_, Heap.get?_push_size _ rfl, rfl, rfl⟩, (hl1.push _)⟩ ?hS0 ?hR
        case hS0 =>
          have hget : ((s.heap.push (newSet led)).push { cls := .type "tuple_iterator", data := .fields #[.ref l, .int 0 0] }).get? s.heap.objs.size = some (newSet led) := Heap.get?_push_of_some _ hS
          exact SetOf_congr ((setObjOf_fresh (knd := PySem.strKind prog w) led).setOf hget (by unfold scanBound; omega)) (fun _ => rfl) rfl
        case hR =>
          intro s' hm hS'
          obtain ⟨h', g', d', tk', os'⟩ := s'
          have eg : g' = s.gens := hm.gens
          have ed : d' = s.drawn := hm.drawn
          have eo : os' = s.os := hm.os
          subst eg
          subst ed
          subst eo
          show wpAny _ _ _ _ _ _
          refine wpAny_pure ?_
          show wpAny _ _ (ret Value.none) _ _ _
          refine wpAny_pure ⟨rfl, h', tk', rfl, hS', fun b o hbs e => ?_⟩
          refine hm.heap b o ?_ (Heap.get?_push_of_some _ (Heap.get?_push_of_some _ e))
          rw [sz]
          simp only [List.mem_cons, List.not_mem_nil, or_false, not_or]
          exact ⟨Nat.ne_of_lt hbs, Nat.ne_of_lt (Nat.lt_succ_of_lt hbs)⟩
      · cases r₂ with
        | error e => exact hr₂
        | ok fl₂ =>
          cases fl₂ with
          | ret r =>
            obtain ⟨rfl, h', tk, rfl, hS', hk'⟩ := hr₂
            repeat (any_goals (first
              | assumption
              | wp_step))
            exact h _ _ hS' hk'
          | _ => exact hr₂.elim
    | _ => exact hr.elim
end
end Ts

set_option Elab.async false
set_option linter.all false
set_option maxRecDepth 100000
set_option maxHeartbeats 4000000
namespace Ts
open PySem PySem.Spec PySem.Calls PyProof.Rows
section
variable {prog : Program} {w : World} {A : Around} {E : Value → Shared → Prop} {s : Shared}
set_option maxHeartbeats 6400000 in
theorem set_of_str {x : Str} {u : Tok} {val : Nat → Str} {Q : Value → Shared → Prop} (hh : A.handled = none) (hi : ∀ (i : Nat) (v : Value), SignAt x i v → ∃ t, v = .str (val i) t) (hb : x.cps.size + 1 < scanBound)
    (h : ∀ (h' : Heap) (tk : Nat), h'.SetOf (PySem.strKind prog w) s.heap.objs.size (fun k' => (metS val x.cps.size).any (· == k')) (metS val x.cps.size).length →
      (∀ b o, b < s.heap.objs.size → s.heap.get? b = some o → h'.get? b = some o) → Q (.ref s.heap.objs.size) { s with heap := h', toks := tk }) :
    wpAny (model prog w) A (call (.type "set") [.str x u]) Q E s := by
  obtain ⟨c, tl, hmro⟩ := PySem.F.called_set.mro
  have hmade := PySem.F.called_set.made
  have hsub := PySem.F.called_set.sub
  refine wpAny_call (codeAny_of_tree ?_)
  show wpAny _ _ (callAny (.type "set") _) _ _ _
  refine wpAny_pure ⟨Code.quiet_builtin _ (by decide +kernel), codeAny_builtin PySem.F.entry_type_call ?_⟩
  rw [Around.under_plain (weight_type_call_type "set" [.str x u] []) rfl]
  have h1 := PySem.F.called_set.notType
  have h2 := PySem.F.called_set.canCreate
  have hct := PySem.F.typeCall_set_1 (.str x u)
  repeat (any_goals (first
    | assumption
    | wp_step))
  refine codeAny_mono (code_set_new_1 (.str x u) (E := E) (Q₁ := fun obj s₁ => ∃ led : Bool, obj = .ref s.heap.objs.size ∧ s₁ = { s with heap := s.heap.push (newSet led) }) fun led => ⟨led, rfl, rfl⟩) fun r s₁ hr => ?_
  cases r with
  | error e => exact hr
  | ok fl =>
    cases fl with
    | ret obj =>
      obtain ⟨led, rfl, rfl⟩ := hr
      have hS : (s.heap.push (newSet led)).get? s.heap.objs.size = some (newSet led) := Heap.get?_push_size _ rfl
      have hT : Shared.TypeIs { s with heap := s.heap.push (newSet led) } (.ref s.heap.objs.size) "set" := ⟨_, hS, rfl⟩
      have hli := PySem.F.called_set.init.lookup
      have hbi := PySem.F.called_set.init.bind (.ref s.heap.objs.size)
      repeat (any_goals (first
        | assumption
        | wp_step))
      refine codeAny_mono (codeAny_call_builtin (R := wants (fun r s₂ => r = .none ∧ ∃ h' tk, s₂ = { s with heap := h', toks := tk } ∧ h'.SetOf (PySem.strKind prog w) s.heap.objs.size (fun k' => (metS val x.cps.size).any (· == k')) (metS val x.cps.size).length ∧
          (∀ b o, b < s.heap.objs.size → s.heap.get? b = some o → h'.get? b = some o)) E) PySem.F.called_set.init.plain PySem.F.entry_set_init (check_set_init_1 hT ?_)) fun r₂ s₂ hr₂ => ?_
      · have hsls := PySem.F.sub_str_set
        have hslf := PySem.F.sub_str_frozenset
        have hne : (Value.type "str" == Value.type "dict") = false := by decide
        unfold Builtin.«set.__init__» noKeywords Builtin.Frozenset.updateFrom
        generalize hPI : pyIter = PI
        wp_walk
        subst hPI
        refine wpAny_pyIter_str fun oI StI hW hst => ?_
        refine wpAny_bind (wpAny_runValue ?_)
        have hh3 : A.in1.in1.in1.handled = none := by simp [hh]
        have sz : (s.heap.push (newSet led)).objs.size = s.heap.objs.size + 1 := Heap.size_push _ _
        have hSf : s.heap.objs.size ∉ [(s.heap.push (newSet led)).objs.size] := by
          rw [sz]
          simp only [List.mem_cons, List.not_mem_nil, or_false]
          exact Nat.ne_of_lt (Nat.lt_succ_self _)
        refine loopS ((hW _ hh3).toS) s.heap.objs.size hSf val hi hb (x.cps.size - 0) 0 _ (by omega) (Nat.zero_le _) hst ?hS0 ?hR
        case hS0 =>
          have hget : ((s.heap.push (newSet led)).push oI).get? s.heap.objs.size = some (newSet led) := Heap.get?_push_of_some _ hS
          exact SetOf_congr ((setObjOf_fresh (knd := PySem.strKind prog w) led).setOf hget (by unfold scanBound; omega)) (fun _ => rfl) rfl
        case hR =>
          intro s' hm hS'
          obtain ⟨h', g', d', tk', os'⟩ := s'
          have eg : g' = s.gens := hm.gens
          have ed : d' = s.drawn := hm.drawn
          have eo : os' = s.os := hm.os
          subst eg
          subst ed
          subst eo
          show wpAny _ _ _ _ _ _
          refine wpAny_pure ?_
          show wpAny _ _ (ret Value.none) _ _ _
          refine wpAny_pure ⟨rfl, h', tk', rfl, hS', fun b o hbs e => ?_⟩
          refine hm.heap b o ?_ (Heap.get?_push_of_some _ (Heap.get?_push_of_some _ e))
          rw [sz]
          simp only [List.mem_cons, List.not_mem_nil, or_false, not_or]
          exact ⟨Nat.ne_of_lt hbs, Nat.ne_of_lt (Nat.lt_succ_of_lt hbs)⟩
      · cases r₂ with
        | error e => exact hr₂
        | ok fl₂ =>
          cases fl₂ with
          | ret r =>
            obtain ⟨rfl, h', tk, rfl, hS', hk'⟩ := hr₂
            repeat (any_goals (first
              | assumption
              | wp_step))
            exact h _ _ hS' hk'
          | _ => exact hr₂.elim
    | _ => exact hr.elim
end
end Ts

set_option Elab.async false
set_option linter.all false
set_option maxRecDepth 100000
set_option maxHeartbeats 4000000
namespace Tb
open PySem PySem.Spec PyProof.Rows L2 TL
def dedS (xs : List Str) : List Str := xs.foldl Ts.stepS []
theorem metS_list (xs : List Str) : Ts.metS (fun i => xs.getD i Str.empty) xs.length = dedS xs := by
  unfold Ts.metS dedS
  have e : (List.range xs.length).map (fun i => xs.getD i Str.empty) = xs := by
    refine List.ext_getElem (by simp) fun i h1 h2 => ?_
    rw [List.getElem_map, List.getElem_range, List.getD_eq_getElem?_getD, List.getElem?_eq_getElem h2]
    rfl
  rw [e]
/-- len(set(a)), a a list or a tuple of texts, or a text -/
def tLenSetS (K : PySem.W.Frag) (ta : TE) : TE := fun σ H Q => ta σ H fun x H1 =>
  (∃ l, ∃ xs : List Str, x = .ref l ∧ (SqL K H1 l (xs.map V.str) ∨ SqT K H1 l (xs.map V.str)) ∧ xs.length ≤ 1000 ∧ Q (num (dedS xs).length) H1) ∨
  (∃ cs : List Nat, x = .str (S cs) ∧ cs.length ≤ 1000 ∧ Q (num (dedS (cs.map fun c => S [c])).length) H1)
section
variable {X : Cx}
theorem pe_lenSetS {a : Expr} {ta : TE} {p p2 q pos : Pos} (hc : X.calm = true) (hg : Gl X "len") (hm : X.mg "len" = none) (hg2 : Gl X "set") (hm2 : X.mg "set" = none) (ha : PE X a ta)
    (na : starEach [a] X.env = (false, eval a X.env) :: starEach [] X.env := by rfl) : PE X (.Call (.Name "len" p) [.Call (.Name "set" p2) [a] [] q] [] pos) (tLenSetS X.K ta) := by
  refine ⟨fun pins s σ H Q I h => ?_⟩
  refine Call_ (ld_blt I hg hm boot_len ?_)
  refine PyProof.Rows.callWith_builtin1 (PyProof.Rows.args_cons ?_ rfl) rfl rfl
  refine Call_ (ld_blt I hg2 hm2 boot_set ?_)
  refine PyProof.Rows.callWith_type1 (PyProof.Rows.args_cons (thn (ha.run pins s σ H _ I h) fun v s1 ⟨x, H1, I1, r1, q1⟩ => PyProof.Rows.args_nil ?_) na) na rfl
  have scan : (1002 : Nat) < scanBound := by unfold scanBound; decide
  have fin : ∀ (xs : List Str), xs.length ≤ 1000 → Q (num (dedS xs).length) H1 → ∀ (h' : Heap) (tk : Nat), h'.SetOf (PySem.strKind X.prog X.w) s1.heap.objs.size (fun k' => (Ts.metS (fun i => xs.getD i Str.empty) xs.length).any (· == k')) (Ts.metS (fun i => xs.getD i Str.empty) xs.length).length →
      (∀ b o, b < s1.heap.objs.size → s1.heap.get? b = some o → h'.get? b = some o) →
      wpAny (model X.prog X.w) X.A (spliced (backTo pos (starEach [] X.env))) (fun vs s₂ => wpAny (model X.prog X.w) X.A (call (.builtin "len") (Value.ref s1.heap.objs.size :: vs)) (EP X pins σ Q) X.xe s₂) X.xe { s1 with heap := h', toks := tk } := fun xs hl q h' tk hS hk => by
    refine PyProof.Rows.args_nil ?_
    rw [metS_list] at hS
    have hle : (dedS xs).length ≤ xs.length := by
      rw [← metS_list]
      exact Ts.metS_le _ _
    obtain ⟨o, es, ep, t, ho, hex, hd, _, _, _, hf, hn⟩ := hS
    have I2 : Inv X pins σ H1 { s1 with heap := h', toks := tk } := I1.kept fun b o e => hk b o (Heap.lt_size e) e
    exact call_len_set ho hex hd hf (by rw [hn]; omega) ⟨.int (dedS xs).length, H1, I2.tok _, ⟨_, by rw [hn]⟩, q⟩
  have strAt : ∀ (xs : List Str) (its : List Value), Vals (xs.map V.str) its → ∀ (i : Nat) (v : Value), its.toArray[i]? = some v → ∃ t, v = .str (xs.getD i Str.empty) t := by
    intro xs its r i v hv
    rw [List.getElem?_toArray] at hv
    have hlt : i < xs.length := by
      have h1 := (List.getElem?_eq_some_iff.mp hv).1
      rw [← r.length, List.length_map] at h1
      exact h1
    obtain ⟨u, hu, ru⟩ := r.get (i := i) (x := V.str xs[i]) (by rw [List.getElem?_map, List.getElem?_eq_getElem hlt]; rfl)
    rw [hv] at hu
    cases hu
    obtain ⟨t, e⟩ := ru
    exact ⟨t, by rw [e, List.getD_eq_getElem?_getD, List.getElem?_eq_getElem hlt]; rfl⟩
  rcases q1 with ⟨l, xs, rfl, hq, hl, q1⟩ | ⟨cs, rfl, hl, q1⟩
  · cases r1
    rcases hq with hq | hq
    · obtain ⟨its, r, pl, hz⟩ := I1.list hq
      have sz : its.toArray.size = xs.length := by rw [List.size_toArray, ← r.length, List.length_map]
      exact Ts.set_of_list (val := fun i => xs.getD i Str.empty) (I1.ok.hd hc) pl.isList (strAt xs its r) (by omega) fun h' tk hS hk => fin xs hl q1 h' tk (by rw [sz] at hS; exact hS) hk
    · obtain ⟨its, r, pl, hz⟩ := I1.tuple hq
      have sz : its.toArray.size = xs.length := by rw [List.size_toArray, ← r.length, List.length_map]
      exact Ts.set_of_tuple (val := fun i => xs.getD i Str.empty) (I1.ok.hd hc) pl (strAt xs its r) (by omega) fun h' tk hS hk => fin xs hl q1 h' tk (by rw [sz] at hS; exact hS) hk
  · obtain ⟨t, rfl⟩ := r1
    have sz : (S cs).cps.size = (cs.map fun c => S [c]).length := by
      rw [List.length_map]
      rfl
    refine Ts.set_of_str (val := fun i => (cs.map fun c => S [c]).getD i Str.empty) (I1.ok.hd hc) (fun i v ⟨c, u, hcv, e⟩ => ⟨u, ?_⟩) (by rw [sz, List.length_map]; omega) fun h' tk hS hk => fin (cs.map fun c => S [c]) (by rw [List.length_map]; exact hl) q1 h' tk (by rw [sz] at hS; exact hS) hk
    have hc' : cs[i]? = some c := by
      rw [show (S cs).cps = cs.toArray from rfl, List.getElem?_toArray] at hcv
      exact hcv
    rw [e, List.getD_eq_getElem?_getD, List.getElem?_map, hc']
    rfl
end
/-! ### are they different -/
theorem dedS_nodup : ∀ (xs acc : List Str), (acc ++ xs).Nodup → xs.foldl Ts.stepS acc = acc ++ xs
  | [], acc, _ => (List.append_nil acc).symm
  | x :: r, acc, nd => by
    have hno : x ∉ acc := fun z => by
      rw [List.nodup_append] at nd
      exact nd.2.2 x z x List.mem_cons_self rfl
    have e : Ts.stepS acc x = acc ++ [x] := by
      unfold Ts.stepS
      rw [if_neg]
      intro z
      obtain ⟨y, hy, e⟩ := List.any_eq_true.mp z
      rw [beq_iff_eq.mp e] at hy
      exact hno hy
    rw [List.foldl_cons, e, dedS_nodup r (acc ++ [x]) (by rw [List.append_assoc]; exact nd), List.append_assoc]
    rfl
theorem dedS_len {xs : List Str} (nd : xs.Nodup) : (dedS xs).length = xs.length := by
  unfold dedS
  rw [dedS_nodup xs [] nd]
  rfl
theorem dedS_grow : ∀ (xs acc : List Str), (xs.foldl Ts.stepS acc).length ≤ acc.length + xs.length
  | [], acc => Nat.le_refl _
  | x :: r, acc => by
    rw [List.foldl_cons, List.length_cons]
    have h1 := dedS_grow r (Ts.stepS acc x)
    have h2 := Ts.stepS_len acc x
    split at h2 <;> omega
theorem stepS_mem {acc : List Str} {x y : Str} (h : y ∈ acc) : y ∈ Ts.stepS acc x := by
  unfold Ts.stepS
  split
  · exact h
  · exact List.mem_append_left _ h
theorem dedS_less : ∀ (xs acc : List Str), ((∃ x ∈ xs, x ∈ acc) ∨ ¬ xs.Nodup) → (xs.foldl Ts.stepS acc).length < acc.length + xs.length
  | [], acc, h => by
    rcases h with ⟨x, hx, _⟩ | h
    · exact (nomatch hx)
    · exact absurd List.nodup_nil h
  | x :: r, acc, h => by
    rw [List.foldl_cons, List.length_cons]
    have h2 := Ts.stepS_len acc x
    by_cases hx : acc.any (· == x) = true
    · rw [if_pos hx] at h2
      have h1 := dedS_grow r (Ts.stepS acc x)
      omega
    · rw [if_neg hx] at h2
      have hxn : x ∉ acc := fun z => hx (List.any_eq_true.mpr ⟨x, z, beq_self_eq_true x⟩)
      have h1 : (∃ y ∈ r, y ∈ Ts.stepS acc x) ∨ ¬ r.Nodup := by
        rcases h with ⟨y, hy, hya⟩ | h
        · rcases List.mem_cons.mp hy with e | e
          · rw [e] at hya
            exact absurd hya hxn
          · exact .inl ⟨y, e, stepS_mem hya⟩
        · by_cases hr : r.Nodup
          · refine .inl ⟨x, Classical.byContradiction fun z => h (List.nodup_cons.mpr ⟨z, hr⟩), ?_⟩
            unfold Ts.stepS
            rw [if_neg hx]
            exact List.mem_append_right _ List.mem_cons_self
          · exact .inr hr
      have h3 := dedS_less r _ h1
      omega
theorem dedS_iff (xs : List Str) : (dedS xs).length = xs.length ↔ xs.Nodup := by
  constructor
  · intro h
    refine Classical.byContradiction fun z => ?_
    have h1 := dedS_less xs [] (.inr z)
    unfold dedS at h
    simp at h1
    omega
  · exact dedS_len
end Tb

set_option Elab.async false
set_option linter.all false
set_option maxRecDepth 100000
set_option maxHeartbeats 2000000
namespace Tb
open PySem PySem.Spec PyProof.Rows L2 TL
/-! ### list(text) -/
def rListStr : List V → Hp → VK → Prop := fun xs H Q => ∃ cs : List Nat, xs = [.str (S cs)] ∧ cs.length ≤ 1000 ∧ New H (.lst (sgs cs)) Q
theorem vals_signs : ∀ (cs : List Nat) (us : List Value), us.length = cs.length → (∀ (j : Nat) v, us[j]? = some v → ∃ c t, cs[j]? = some c ∧ v = .str (S [c]) t) → Vals (sgs cs) us
  | [], [], _, _ => .nil
  | c :: cs, u :: us, hl, h => by
    obtain ⟨c', t, e, hu⟩ := h 0 u rfl
    cases e
    exact .cons ⟨t, hu⟩ (vals_signs cs us (Nat.succ.inj hl) fun j v hv => h (j + 1) v hv)
theorem call_listStr {X : Cx} (hc : X.calm = true) : CallR X (.type "list") rListStr := by
  intro pins s σ H xs us Q I r h
  obtain ⟨cs, rfl, hl, q⟩ := h
  obtain ⟨u, rfl, t, rfl⟩ := vals1 r
  have sz : (S cs).cps.size = cs.length := rfl
  have line : (1000 : Nat) ≤ sizeLine := by decide
  refine PySem.call_list_str (I.ok.hd hc) (S cs) t (hn := by rw [sz]; omega) fun h' tk acc c' k hS hacc => ?_
  have hv : Vals (sgs cs) acc.toList := vals_signs cs acc.toList (by rw [Array.length_toList, hacc.1, sz]) fun j v hv => by
    obtain ⟨c, u, e1, e2⟩ := hacc.2 j v (by simpa using hv)
    refine ⟨c, u, ?_, e2⟩
    rw [show (S cs).cps = cs.toArray from rfl, List.getElem?_toArray] at e1
    exact e1
  have hz : (sgs cs).length ≤ sizeLine := by
    unfold sgs
    rw [List.length_map]
    omega
  exact ⟨.ref s.heap.objs.size, _, I.laid (t' := tk) k (Nat.le_refl _) (show ObjOk X.prog X.w _ h' _ (.lst (sgs cs)) from ⟨hz, acc.toList, c', hv, by simpa using hS⟩), rfl, q.at _ (I.hok.fresh (Nat.le_refl _))⟩
/-! ### the parts of a program -/
structure Mv where
  pl : List Nat
  lt : Nat
  to : List Nat
  fl : Fil
structure Pt where
  letters : List Nat
  boxes : List Nat
  places : List (List Nat)
  moves : List Mv
  ends : Fil
def Mv.key (m : Mv) : List Key := [Sum.inr (S m.pl), Sum.inr (S [m.lt])]
/-- what stands under a key of the moves -/
def MvAt (H : Hp) (kv : List Key × V) (m : Mv) : Prop := kv.1 = m.key ∧ ∃ t d, kv.2 = .ref t ∧ H t = some (.tup [.str (S m.to), .ref d]) ∧ H d = some (.dK (fkv m.fl))
structure PtAt (H : Hp) (L : Addr) (pt : Pt) : Prop where
  ex : ∃ tp tm te kvs, H L = some (.lst [.str (S pt.letters), .str (S pt.boxes), .ref tp, .ref tm, .ref te]) ∧ H tp = some (.lst (txs pt.places)) ∧ H tm = some (.dT kvs) ∧ Paired (MvAt H) kvs pt.moves ∧ H te = some (.dK (fkv pt.ends))
theorem MvAt.same {H H' : Hp} (s : Same H H') {kv : List Key × V} {m : Mv} (h : MvAt H kv m) : MvAt H' kv m := by
  obtain ⟨e, t, d, h1, h2, h3⟩ := h
  exact ⟨e, t, d, h1, s _ _ h2, s _ _ h3⟩
theorem MvAt.but {H H' : Hp} {p : Addr} {n : Nat} (hp : Src H p n) (s : But p H H') {kv : List Key × V} {m : Mv} (h : MvAt H kv m) : MvAt H' kv m := by
  obtain ⟨e, t, d, h1, h2, h3⟩ := h
  obtain ⟨o, ho, g, sd, c, rfl, _⟩ := hp
  exact ⟨e, t, d, h1, s _ _ h2 (ne_of h2 ho (by intro z; cases z)), s _ _ h3 (ne_of h3 ho (by intro z; cases z))⟩
theorem PtAt.same {H H' : Hp} (s : Same H H') {L : Addr} {pt : Pt} (h : PtAt H L pt) : PtAt H' L pt := by
  obtain ⟨tp, tm, te, kvs, h1, h2, h3, h4, h5⟩ := h.ex
  exact ⟨tp, tm, te, kvs, s _ _ h1, s _ _ h2, s _ _ h3, Paired.mono (fun _ _ z => z.same s) h4, s _ _ h5⟩
/-- drawn fillings: each sign is a lower letter or a box, no box stands twice -/
structure FilOk (boxes : List Nat) (fs : List (List Nat)) : Prop where
  sg : ∀ f ∈ fs, ∀ c ∈ f, (97 ≤ c ∧ c ≤ 122) ∨ c ∈ boxes
  one : ∀ b ∈ boxes, fs.flatten.count b ≤ 1
  len : fs.flatten.length ≤ 100
  ti : fs.flatten.length ≤ 4 * boxes.length + 3 * fs.length
structure GoodP (pt : Pt) : Prop where
  l1 : 1 ≤ pt.letters.length
  l5 : pt.letters.length ≤ 5
  ll : ∀ c ∈ pt.letters, 97 ≤ c ∧ c ≤ 122
  ln : pt.letters.Nodup
  b6 : pt.boxes.length ≤ 6
  bb : ∀ c ∈ pt.boxes, 65 ≤ c ∧ c ≤ 90
  bn : pt.boxes.Nodup
  p1 : 1 ≤ pt.places.length
  p8 : pt.places.length ≤ 8
  pn : pt.places.Nodup
  pp : ∀ x ∈ pt.places, NameL x
  ky : (pt.moves.map fun m => (m.pl, m.lt)).Nodup
  mv : ∀ m ∈ pt.moves, m.pl ∈ pt.places ∧ m.lt ∈ pt.letters ∧ m.to ∈ pt.places ∧ m.fl.map (·.1) = pt.boxes.map (fun b => [b]) ∧ FilOk pt.boxes (m.fl.map (·.2))
  ek : (pt.ends.map (·.1)).Nodup
  en : ∀ q ∈ pt.ends, q.1 ∈ pt.places ∧ FilOk pt.boxes [q.2]
theorem putK_end {κ : Type} [DecidableEq κ] {kvs : List (κ × V)} {k : κ} (v : V) (h : k ∉ kvs.map (·.1)) : putK kvs k v = kvs ++ [(k, v)] := by
  unfold putK
  rw [if_neg]
  intro z
  obtain ⟨u, hu, e⟩ := List.any_eq_true.mp z
  exact h (List.mem_map.mpr ⟨u, hu, of_decide_eq_true e⟩)
theorem keys_of {H : Hp} : ∀ {kvs : List (List Key × V)} {ms : List Mv}, Paired (MvAt H) kvs ms → kvs.map (·.1) = ms.map Mv.key
  | _, _, .nil => rfl
  | _, _, .cons h t => by
    rw [List.map_cons, List.map_cons, h.1, keys_of t]
theorem key_inj {m : Mv} {pl : List Nat} {c : Nat} (h : m.key = [Sum.inr (S pl), Sum.inr (S [c])]) : m.pl = pl ∧ m.lt = c := by
  injection h with h1 h2
  injection h2 with h3 _
  have e := key_S.mp h3
  injection e with e1 _
  exact ⟨key_S.mp h1, e1⟩
def xyz : List Nat := [88, 89, 90, 65, 66, 80, 81]
theorem xyz_str : Str.ofString "XYZABPQ" = S xyz := by decide +kernel
def outs : List (List Nat) := [[97, 98], [97, 122], [97, 98, 99], [120]]
theorem outs_str : txs outs = [.str (Str.ofString "ab"), .str (Str.ofString "az"), .str (Str.ofString "abc"), .str (Str.ofString "x")] := by
  have h1 : Str.ofString "ab" = S [97, 98] := by decide +kernel
  have h2 : Str.ofString "az" = S [97, 122] := by decide +kernel
  have h3 : Str.ofString "abc" = S [97, 98, 99] := by decide +kernel
  have h4 : Str.ofString "x" = S [120] := by decide +kernel
  rw [h1, h2, h3, h4]
  rfl
theorem outs_ok {o : List Nat} (h : o ∈ outs) : 0 < o.length ∧ o.length ≤ 3 ∧ ∀ c ∈ o, 97 ≤ c ∧ c ≤ 122 := by
  have h' : ∀ o ∈ outs, 0 < o.length ∧ o.length ≤ 3 ∧ (o.all fun c => decide (97 ≤ c ∧ c ≤ 122)) = true := by decide
  obtain ⟨a, b, c⟩ := h' o h
  exact ⟨a, b, fun x hx => of_decide_eq_true (List.all_eq_true.mp c x hx)⟩
theorem end_str : Str.ofString "end" = S [101, 110, 100] := by decide +kernel
def MvOk (boxes letters : List Nat) (places : List (List Nat)) (m : Mv) : Prop := m.pl ∈ places ∧ m.lt ∈ letters ∧ m.to ∈ places ∧ m.fl.map (·.1) = boxes.map (fun b => [b]) ∧ FilOk boxes (m.fl.map (·.2))
structure MsOk (boxes letters : List Nat) (places done : List (List Nat)) (cur : List Nat) (sofar : List Nat) (ms : List Mv) : Prop where
  nd : (ms.map fun m => (m.pl, m.lt)).Nodup
  ok : ∀ m ∈ ms, MvOk boxes letters places m
  wh : ∀ m ∈ ms, m.pl ∈ done ∨ (m.pl = cur ∧ m.lt ∈ sofar)
structure EsOk (boxes : List Nat) (places done : List (List Nat)) (es : Fil) : Prop where
  nd : (es.map (·.1)).Nodup
  ok : ∀ q ∈ es, q.1 ∈ places ∧ FilOk boxes [q.2]
  wh : ∀ q ∈ es, q.1 ∈ done
/-- a move, its fillings apart from te -/
def MvX (te : Addr) (H : Hp) (kv : List Key × V) (m : Mv) : Prop := kv.1 = m.key ∧ ∃ t d, kv.2 = .ref t ∧ H t = some (.tup [.str (S m.to), .ref d]) ∧ H d = some (.dK (fkv m.fl)) ∧ d ≠ te
theorem MvX.at {te : Addr} {H : Hp} {kv : List Key × V} {m : Mv} (h : MvX te H kv m) : MvAt H kv m := by
  obtain ⟨e, t, d, a, b, c, _⟩ := h
  exact ⟨e, t, d, a, b, c⟩
/-- what the drawing of a program holds meanwhile -/
structure PgAt (H : Hp) (tb tpl tm te : Addr) (boxes : List Nat) (places : List (List Nat)) (ms : List Mv) (es : Fil) : Prop where
  b : H tb = some (.lst (sgs boxes))
  pl : H tpl = some (.lst (txs places))
  m : ∃ kvs, H tm = some (.dT kvs) ∧ Paired (MvX te H) kvs ms
  e : H te = some (.dK (fkv es))
theorem PgAt.same {H H' : Hp} {tb tpl tm te : Addr} {boxes : List Nat} {places : List (List Nat)} {ms : List Mv} {es : Fil} (G : PgAt H tb tpl tm te boxes places ms es) (s : Same H H') : PgAt H' tb tpl tm te boxes places ms es := by
  obtain ⟨kvs, h1, h2⟩ := G.m
  refine ⟨s _ _ G.b, s _ _ G.pl, ⟨kvs, s _ _ h1, Paired.mono (fun _ _ z => ?_) h2⟩, s _ _ G.e⟩
  obtain ⟨e, t, d, a, b, c, n⟩ := z
  exact ⟨e, t, d, a, s _ _ b, s _ _ c, n⟩
theorem PgAt.but {H H' : Hp} {p tb tpl tm te : Addr} {n : Nat} {boxes : List Nat} {places : List (List Nat)} {ms : List Mv} {es : Fil} (G : PgAt H tb tpl tm te boxes places ms es) (hp : Src H p n) (n1 : tb ≠ p) (n2 : tpl ≠ p) (s : But p H H') : PgAt H' tb tpl tm te boxes places ms es := by
  obtain ⟨kvs, h1, h2⟩ := G.m
  obtain ⟨o, ho, g, sd, c, rfl, _⟩ := id hp
  refine ⟨s _ _ G.b n1, s _ _ G.pl n2, ⟨kvs, s _ _ h1 (ne_of h1 ho (by intro z; cases z)), Paired.mono (fun _ _ z => ?_) h2⟩, s _ _ G.e (ne_of G.e ho (by intro z; cases z))⟩
  obtain ⟨e, t, d, a, b, c, n⟩ := z
  exact ⟨e, t, d, a, s _ _ b (ne_of b ho (by intro z; cases z)), s _ _ c (ne_of c ho (by intro z; cases z)), n⟩
/-- a move more -/
theorem PgAt.put {H : Hp} {tb tpl tm te t d : Addr} {boxes : List Nat} {places : List (List Nat)} {ms : List Mv} {es : Fil} {kvs : List (List Key × V)} (G : PgAt H tb tpl tm te boxes places ms es) (h1 : H tm = some (.dT kvs)) (h2 : Paired (MvX te H) kvs ms) (m : Mv) (hk : m.key ∉ kvs.map (·.1))
    (ht : H t = some (.tup [.str (S m.to), .ref d])) (hd : H d = some (.dK (fkv m.fl))) (nd : d ≠ te) : PgAt (upd H tm (.dT (putK kvs m.key (.ref t)))) tb tpl tm te boxes places (ms ++ [m]) es := by
  refine ⟨by rw [upd_ne (ne_of G.b h1 (by intro z; cases z))]; exact G.b, by rw [upd_ne (ne_of G.pl h1 (by intro z; cases z))]; exact G.pl, ⟨_, upd_same, ?_⟩, by rw [upd_ne (ne_of G.e h1 (by intro z; cases z))]; exact G.e⟩
  rw [putK_end _ hk]
  refine (Paired.mono (fun kv m' z => ?_) h2).snoc ?_
  · obtain ⟨e, t', d', a, b, c, n⟩ := z
    exact ⟨e, t', d', a, by rw [upd_ne (ne_of b h1 (by intro z; cases z))]; exact b, by rw [upd_ne (ne_of c h1 (by intro z; cases z))]; exact c, n⟩
  · exact ⟨rfl, t, d, rfl, by rw [upd_ne (ne_of ht h1 (by intro z; cases z))]; exact ht, by rw [upd_ne (ne_of hd h1 (by intro z; cases z))]; exact hd, nd⟩
/-- an end more -/
theorem PgAt.pute {H : Hp} {tb tpl tm te : Addr} {boxes : List Nat} {places : List (List Nat)} {ms : List Mv} {es es2 : Fil} (G : PgAt H tb tpl tm te boxes places ms es) : PgAt (upd H te (.dK (fkv es2))) tb tpl tm te boxes places ms es2 := by
  obtain ⟨kvs, h1, h2⟩ := G.m
  refine ⟨by rw [upd_ne (ne_of G.b G.e (by intro z; cases z))]; exact G.b, by rw [upd_ne (ne_of G.pl G.e (by intro z; cases z))]; exact G.pl, ⟨kvs, by rw [upd_ne (ne_of h1 G.e (by intro z; cases z))]; exact h1, Paired.mono (fun _ _ z => ?_) h2⟩, upd_same⟩
  obtain ⟨e, t, d, a, b, c, n⟩ := z
  exact ⟨e, t, d, a, by rw [upd_ne (ne_of b G.e (by intro z; cases z))]; exact b, by rw [upd_ne n]; exact c, n⟩
theorem keysX {te : Addr} {H : Hp} : ∀ {kvs : List (List Key × V)} {ms : List Mv}, Paired (MvX te H) kvs ms → kvs.map (·.1) = ms.map Mv.key
  | _, _, .nil => rfl
  | _, _, .cons h t => by
    rw [List.map_cons, List.map_cons, h.1, keysX t]
theorem fil_of {out boxes : List Nat} {hf : Fil} (F : FillOk out boxes boxes hf) (ho : ∀ c ∈ out, 97 ≤ c ∧ c ≤ 122) (bn : boxes.Nodup) (hl : lenF hf ≤ 100 ∧ lenF hf ≤ 4 * boxes.length + 3 * hf.length) : FilOk boxes (hf.map (·.2)) where
  sg := fun f hf' c hc => by
    obtain ⟨q, hq, rfl⟩ := List.mem_map.mp hf'
    rcases F.signs q hq c hc with h | h
    · exact .inl (ho c h)
    · exact .inr h
  one := fun b hb => Nat.le_trans (F.cnt b hb) (List.nodup_iff_count.mp bn b)
  len := hl.1
  ti := by
    rw [List.length_map]
    exact hl.2
theorem fkv_put {es : Fil} {h : List Nat} (f : List Nat) (hk : h ∉ es.map (·.1)) : putK (fkv es) (Sum.inr (S h)) (.str (S f)) = fkv (es ++ [(h, f)]) := by
  rw [putK_end]
  · unfold fkv
    rw [List.map_append]
    rfl
  · intro z
    obtain ⟨kv, hkv, e⟩ := List.mem_map.mp z
    obtain ⟨q, hq, rfl⟩ := List.mem_map.mp hkv
    exact hk (List.mem_map.mpr ⟨q, hq, key_S.mp e⟩)
section
variable {P : Program} {w : World} {K : PySem.W.Frag} {mg : Str → Option Value} {base : Heap}
abbrev nProgram : List Str := ["_law_source_here", "_law_letters", "_law_most_boxes", "_law_most_places", "_law_boxes", "_law_places", "_law_out", "_law_moves", "_law_ends", "_law_place", "_law_letter"]
def spProgram : Sp := fun vs H Q _ => ∃ (p : Addr) (n mb mp : Nat) (letters : List Nat), vs = [.ref p, .str (S letters), num mb, num mp] ∧ Src H p n ∧ n + 6000 < 1000000 ∧ 1 ≤ letters.length ∧ letters.length ≤ 5 ∧ letters.Nodup ∧ (∀ c ∈ letters, 97 ≤ c ∧ c ≤ 122) ∧ mb ≤ 6 ∧ 1 ≤ mp ∧ mp ≤ 8 ∧
  ∀ L H' (pt : Pt), But p H H' → Src H' p (n + 6000) → H L = none → PtAt H' L pt → GoodP pt → pt.letters = letters → pt.boxes.length ≤ mb → pt.places.length ≤ mp → Q (.ref L) H'
end
end Tb

set_option Elab.async false
set_option linter.all false
set_option maxRecDepth 100000
set_option maxHeartbeats 4000000
namespace Tb
open PySem PySem.Spec PyProof.Rows L2 TL
/-! ### sorted(text) -/
def rSortStr : List V → Hp → VK → Prop := fun xs H Q => ∃ cs : List Nat, xs = [.str (S cs)] ∧ cs.length < 64 ∧ ∀ (ys : List Str), ys.Perm (cs.map fun c => S [c]) → sortedS ys = true → New H (.lst (ys.map V.str)) Q
theorem call_sortStr {X : Cx} (hcalm : X.calm = true) : CallR X (.builtin "sorted") rSortStr := by
  intro pins s σ H xs us Q I r q
  obtain ⟨cs, rfl, h64, q⟩ := q
  obtain ⟨u, rfl, t, rfl⟩ := vals1 r
  have sz : (S cs).cps.size = cs.length := rfl
  refine Calls.call_function_entry PyProof.Rows.kind_sorted PyProof.Rows.plain_sorted PyProof.Rows.entry_sorted (PyProof.Rows.args_sorted1 _) ?_
  unfold Builtin.«sorted»
  refine wpAny_bind (m := checkCount "sorted" 1 1 _) (wpAny_pure ?_)
  refine wpAny_bind (PySem.wpAny_collect_str (A := X.A.in1) (I.ok.hd hcalm) (S cs) t (hn := by rw [sz]; exact Nat.le_of_lt (small1000 (by omega))) fun s' acc hk hg hd ho hacc => ?_)
  obtain ⟨h', g', d', tk, os'⟩ := s'
  have hg' : g' = s.gens := hg
  have hd' : d' = s.drawn := hd
  have ho' : os' = s.os := ho
  subst hg' hd' ho'
  have hal : acc.toList.length = (cs.map fun c => S [c]).length := by rw [Array.length_toList, hacc.1, sz, List.length_map]
  have hS : StrsAre acc.toList (cs.map fun c => S [c]) := strs_at hal fun j v e => by
    obtain ⟨c, u, e1, e2⟩ := hacc.2 j v (by rw [← Array.getElem?_toList]; exact e)
    rw [show (S cs).cps = cs.toArray from rfl, List.getElem?_toArray] at e1
    exact ⟨S [c], u, by rw [List.getElem?_map, e1]; rfl, e2⟩
  have h64' : acc.toList.length < 64 := by rw [hal, List.length_map]; exact h64
  have I1 : Inv X pins σ H { s with heap := h', toks := tk } := I.kept hk
  refine wpAny_bind (wpAny_newList ?_ (by rw [sizeLine_eq]; omega))
  have hoL : (h'.push (seqObj "list" acc.toList.toArray 0)).get? h'.objs.size = some (seqObj "list" acc.toList.toArray 0) := Heap.get?_push_size _ rfl
  show wpAny _ _ _ _ _ { s with heap := h'.push (seqObj "list" acc.toList.toArray 0), toks := tk }
  refine wpAny_bind (wpAny_holding (wpAny_call_entry PyProof.Rows.slot_list_sort ⟨_, hoL, rfl⟩ PyProof.Rows.entry_list_sort
    (list_sort_treeK strKind_oneLt (s := { s with heap := h'.push (seqObj "list" acc.toList.toArray 0), toks := tk }) hoL hS.keysOf (fun v₁ v₂ rest e => keyKind_strs (by rw [← e]; exact hS)) h64' fun st' hp hs => ⟨_, rfl, ?_⟩)
    (PyProof.Rows.args_list_sort _)))
  obtain ⟨ys, g1, g2, g3⟩ := sorted_out_str hS hp hs
  obtain ⟨e', he'⟩ := PyProof.Rows.sortedHeap_at (vs := acc.toList) (out := (arrOf st').map (·.2)) hoL
  have hlen : (ys.map V.str).length ≤ sizeLine := by
    rw [List.length_map, g2.length_eq, List.length_map]
    exact Nat.le_trans (Nat.le_of_lt h64) (by decide)
  refine wpAny_pure ⟨_, rfl, .ref h'.objs.size, upd H h'.objs.size (.lst (ys.map V.str)), I1.laid (t' := tk) (fun b u e => ?_) (Nat.le_refl _)
    (show ObjOk X.prog X.w _ _ _ (.lst (ys.map V.str)) from ⟨hlen, ((arrOf st').map (·.2)).toList, e', vals_of_strs g1, by rw [Array.toArray_toList]; exact he'⟩), rfl, (q ys g2 g3).at _ (I1.hok.fresh (Nat.le_refl _))⟩
  have hb : b < h'.objs.size := Heap.lt_size e
  rw [PyProof.Rows.sortedHeap_old (Nat.ne_of_lt hb) (by rw [size_push']; exact Nat.lt_succ_of_lt hb)]
  exact Heap.get?_push_of_some _ e
end Tb

set_option Elab.async false
set_option linter.all false
set_option maxRecDepth 100000
namespace Tb
open PySem PySem.Spec PyProof.Rows L2
/-- the places of the program's own defs -/
abbrev sIsText : Stmt := topS 8
abbrev sIsName : Stmt := topS 10
abbrev sIsFilling : Stmt := topS 12
abbrev sAreDiff : Stmt := topS 15
abbrev sAreNames : Stmt := topS 11
abbrev sInOrder : Stmt := topS 16
abbrev sClass : Stmt := topS 22
abbrev sAreLetters : Stmt := topS 9
abbrev sAreBoxes : Stmt := topS 23
abbrev sArePlaces : Stmt := topS 24
abbrev sIsPair : Stmt := topS 13
abbrev sIsOneOf : Stmt := topS 14
abbrev sAreMoves : Stmt := topS 25
abbrev sAreFillings : Stmt := topS 26
abbrev sAreEnds : Stmt := topS 27
abbrev sKept : Stmt := topS 28
def subS (st : Stmt) (i : Nat) : Stmt := (match st with | .ClassDef (body := b) .. => b | _ => []).getD i (.Pass ⟨0, 0, 0, 0⟩)
abbrev sInit : Stmt := subS sClass 0
abbrev sLettersP : Stmt := subS sClass 1
abbrev sBoxesP : Stmt := subS sClass 2
abbrev sPlacesP : Stmt := subS sClass 3
abbrev sMove : Stmt := subS sClass 4
abbrev sEnd : Stmt := subS sClass 5
abbrev sEq : Stmt := subS sClass 6
abbrev sText : Stmt := subS sClass 7
abbrev sParse : Stmt := subS sClass 8
/-- the runs, and what the laws write themselves -/
abbrev sPartsOf : Stmt := topS 17
abbrev sLenOf : Stmt := topS 42
abbrev sPut : Stmt := topS 43
abbrev sWith : Stmt := topS 44
abbrev sRopeOf : Stmt := topS 45
abbrev sWritten : Stmt := topS 46
abbrev sCheck : Stmt := topS 48
abbrev sFilled : Stmt := topS 49
abbrev sSteps : Stmt := topS 50
abbrev sTold : Stmt := topS 52
abbrev sBehind : Stmt := topS 9999
abbrev sLFilled : Stmt := topS 9999
abbrev sLText : Stmt := topS 59
abbrev sLState : Stmt := topS 9999
abbrev sLTold : Stmt := topS 9999
abbrev sLaw : Stmt := topS 62
abbrev sMovesOf : Stmt := topS 9999
abbrev sEndsOf : Stmt := topS 9999
abbrev sSame : Stmt := topS 9999
abbrev sStInit : Stmt := subS sSteps 0
abbrev sStMove : Stmt := subS sSteps 1
abbrev sStMip : Stmt := subS sSteps 2
abbrev sStAlong : Stmt := subS sSteps 3
abbrev sStFirst : Stmt := subS sSteps 4
abbrev sStBehind : Stmt := subS sSteps 5
abbrev sStShown : Stmt := subS sSteps 6
abbrev sStEnded : Stmt := subS sSteps 7
abbrev sStTold : Stmt := subS sSteps 8
end Tb

set_option Elab.async false
set_option linter.all false
set_option maxRecDepth 100000
set_option maxHeartbeats 2000000
namespace Tb
open PySem PySem.Spec PyProof.Rows L2 TL
/-- what isinstance(x, c) tells -/
def Isi (K : PySem.W.Frag) (H : Hp) (x : V) (c : String) (b : Bool) : Prop := ∃ t, TyX K H x t ∧ PySem.W.kitOne K t (.type c) = some b
theorem isi_str {K : PySem.W.Frag} {H : Hp} (y : Str) : Isi K H (.str y) "str" true := ⟨_, .base (.str y), kit_ty (by decide +kernel)⟩
def tIsi (K : PySem.W.Frag) (c : String) (ta : TE) : TE := fun σ H Q => ta σ H fun x H1 => ∃ b, Isi K H1 x c b ∧ Q (.bl b) H1
theorem pe_isi {X : Cx} {c : String} {a : Expr} {ta : TE} {p p2 pos : Pos} (ha : PE X a ta) (mi : X.mg "isinstance" = none) (hg : Gl X "isinstance") (mc : X.mg (Str.ofString c) = none) (hgc : Gl X (Str.ofString c)) (hv : bootBuiltins (Str.ofString c) = some (.type c))
    (hn : (Str.ofString c) ≠ "__name__" := by decide) (hd : ((Str.ofString c) == ("__debug__" : Str)) = false := by decide) (na : starEach [a, .Name (Str.ofString c) p2] X.env = (false, eval a X.env) :: starEach [.Name (Str.ofString c) p2] X.env := by rfl)
    (na2 : starEach [.Name (Str.ofString c) p2] X.env = (false, eval (.Name (Str.ofString c) p2) X.env) :: starEach [] X.env := by rfl) (hpl : (backTo pos (starEach [.Name (Str.ofString c) p2] X.env)).any (·.1) = false := by rfl) :
    PE X (.Call (.Name "isinstance" p) [a, .Name (Str.ofString c) p2] [] pos) (tIsi X.K c ta) :=
  PE.weak (pe_callB call_isi hg mi (by decide +kernel) (pa_cons (PE.mono ha) (pa_cons (pe_bltn hgc mc hv (v := .ty c) rfl hn hd) pa_nil na2) na) (he := na) (hpl := hpl)) fun σ H Q z => ⟨_, z, fun x H1 ⟨b, ⟨t, ty, k⟩, q⟩ => ⟨x, .ty c, t, _, b, rfl, .ty c, ty, k, q⟩⟩
/-- .. with str, the two names as they stand -/
theorem pe_isStr {X : Cx} {a : Expr} {ta : TE} {p p2 pos : Pos} (ha : PE X a ta) (mi : X.mg "isinstance" = none) (hg : Gl X "isinstance") (mc : X.mg "str" = none) (hgc : Gl X "str")
    (na : starEach [a, .Name "str" p2] X.env = (false, eval a X.env) :: starEach [.Name "str" p2] X.env := by rfl) (hpl : (backTo pos (starEach [.Name "str" p2] X.env)).any (·.1) = false := by rfl) :
    PE X (.Call (.Name "isinstance" p) [a, .Name "str" p2] [] pos) (tIsi X.K "str" ta) := pe_isi ha mi hg mc hgc (by decide +kernel) (na := na) (hpl := hpl)
theorem pe_isDict {X : Cx} {a : Expr} {ta : TE} {p p2 pos : Pos} (ha : PE X a ta) (mi : X.mg "isinstance" = none) (hg : Gl X "isinstance") (mc : X.mg "dict" = none) (hgc : Gl X "dict")
    (na : starEach [a, .Name "dict" p2] X.env = (false, eval a X.env) :: starEach [.Name "dict" p2] X.env := by rfl) (hpl : (backTo pos (starEach [.Name "dict" p2] X.env)).any (·.1) = false := by rfl) :
    PE X (.Call (.Name "isinstance" p) [a, .Name "dict" p2] [] pos) (tIsi X.K "dict" ta) := pe_isi ha mi hg mc hgc (by decide +kernel) (na := na) (hpl := hpl)
/-! ### is_text -/
def isLow (c : Nat) : Bool := decide (97 ≤ c ∧ c ≤ 122)
theorem low_az (c : Nat) : decide (c ∈ az) = isLow c := by
  unfold isLow
  rw [decide_eq_decide]
  exact az_mem
section
variable {P : Program} {w : World} {K : PySem.W.Frag} {mg : Str → Option Value} {base : Heap}
abbrev nIsText : List Str := ["thing"]
theorem scIsText : FnScope nIsText ["thing"] (defScope sIsText) := ⟨rfl, rfl, rfl, by decide +kernel, rfl, by decide +kernel, by decide +kernel⟩
def spIsText (K : PySem.W.Frag) : Sp := fun vs H Q _ => (∃ cs : List Nat, vs = [.str (S cs)] ∧ cs.length ≤ 1000 ∧ ∀ H', Same H H' → Q (.bl (cs.all isLow)) H') ∨ (∃ x, vs = [x] ∧ Isi K H x "str" false ∧ Q (.bl false) H)
theorem asc_facts : ∀ c ∈ List.range 128, (Unicode.isAlpha c = true → (65 ≤ c ∧ c ≤ 90) ∨ (97 ≤ c ∧ c ≤ 122)) ∧ (97 ≤ c ∧ c ≤ 122 → Unicode.isAlpha c = true ∧ Unicode.isLower c = true ∧ Unicode.isUpper c = false ∧ Unicode.isTitle c = false) ∧ (65 ≤ c ∧ c ≤ 90 → Unicode.isUpper c = true) := by decide +kernel
theorem lower_is (cs : List Nat) (hne : cs ≠ []) : (Txt.isascii (S cs) && (Txt.isalpha (S cs) && Txt.islower (S cs))) = cs.all isLow := by
  have e1 : Txt.isascii (S cs) = cs.all fun c => decide (c < 128) := by
    show cs.toArray.all (fun c => decide (c < 128)) = _
    rw [List.all_toArray]
  have e2 : Txt.isalpha (S cs) = cs.all Unicode.isAlpha := by
    show (decide ((S cs).length > 0) && cs.toArray.all Unicode.isAlpha) = _
    rw [List.all_toArray, len_S, decide_eq_true (List.length_pos_iff.mpr hne), Bool.true_and]
  have e3 : Txt.islower (S cs) = (cs.any Unicode.isLower && !cs.any fun c => Unicode.isUpper c || Unicode.isTitle c) := by
    show (cs.toArray.any Unicode.isLower && !cs.toArray.any fun c => Unicode.isUpper c || Unicode.isTitle c) = _
    rw [List.any_toArray, List.any_toArray]
  rw [e1, e2, e3]
  by_cases h : cs.all isLow = true
  · rw [h]
    have hl : ∀ c ∈ cs, 97 ≤ c ∧ c ≤ 122 := fun c hc => of_decide_eq_true (List.all_eq_true.mp h c hc)
    have f : ∀ c ∈ cs, c < 128 ∧ Unicode.isAlpha c = true ∧ Unicode.isLower c = true ∧ Unicode.isUpper c = false ∧ Unicode.isTitle c = false := fun c hc => by
      have h1 := hl c hc
      have h2 := (asc_facts c (List.mem_range.mpr (by omega))).2.1 h1
      exact ⟨by omega, h2⟩
    obtain ⟨c0, r, rfl⟩ : ∃ c0 r, cs = c0 :: r := by
      cases cs with
      | nil => exact absurd rfl hne
      | cons a b => exact ⟨a, b, rfl⟩
    have h1 : ((c0 :: r).all fun c => decide (c < 128)) = true := List.all_eq_true.mpr fun c hc => decide_eq_true (f c hc).1
    have h2 : (c0 :: r).all Unicode.isAlpha = true := List.all_eq_true.mpr fun c hc => (f c hc).2.1
    have h3 : (c0 :: r).any Unicode.isLower = true := List.any_eq_true.mpr ⟨c0, List.mem_cons_self, (f c0 List.mem_cons_self).2.2.1⟩
    have h4 : ((c0 :: r).any fun c => Unicode.isUpper c || Unicode.isTitle c) = false := by
      rw [Bool.eq_false_iff]
      intro z
      obtain ⟨c, hc, e⟩ := List.any_eq_true.mp z
      obtain ⟨_, _, _, a, b⟩ := f c hc
      rw [a, b] at e
      cases e
    rw [h1, h2, h3, h4]
    rfl
  · rw [Bool.eq_false_iff.mpr h, Bool.eq_false_iff]
    intro z
    rw [Bool.and_eq_true, Bool.and_eq_true, Bool.and_eq_true, Bool.not_eq_true'] at z
    obtain ⟨z1, z2, _, z4⟩ := z
    refine h (List.all_eq_true.mpr fun c hc => ?_)
    have a1 : c < 128 := of_decide_eq_true (List.all_eq_true.mp z1 c hc)
    have a2 := List.all_eq_true.mp z2 c hc
    have fa := asc_facts c (List.mem_range.mpr a1)
    rcases fa.1 a2 with u | u
    · have hu := fa.2.2 u
      have : (cs.any fun c => Unicode.isUpper c || Unicode.isTitle c) = true := List.any_eq_true.mpr ⟨c, hc, by rw [hu]; rfl⟩
      rw [this] at z4
      cases z4
    · exact decide_eq_true u
theorem ok_isText {f : Addr} {fd : FuncData} {k : Nat} (F : Fun K "is_text" "is_text" sIsText f fd) (mi : mg "isinstance" = none) (ms : mg "str" = none) : FnOk P w K mg base CX0 (k + 1) f fd ["thing"] (spIsText K) := by
  refine F.ok scIsText (fun vs H Q E h => ?_) (fun cdv A outer s H vs Q E hr h => ?_)
  · rcases h with ⟨cs, rfl, _⟩ | ⟨x, rfl, _⟩ <;> rfl
  · refine ⟨_, pss_cons (ps_if (pt_not (pt_val (pe_isStr (pv 0) mi (by rfl) ms (by rfl)))) (pss_one (ps_ret pe_bl)) pss_nil)
      (pss_one (ps_ret (pe_or (pe_cmpR op_eq (pv 0) pe_str (nomark _)) (pe_one (pe_and (pe_m0 PySem.F.slot_str_isascii PySem.F.type_str_isascii mt_isascii (pv 0)) (pe_and (pe_m0 PySem.F.slot_str_isalpha PySem.F.type_str_isalpha mt_isalpha (pv 0)) (pe_one (pe_m0 PySem.F.slot_str_islower PySem.F.type_str_islower mt_islower (pv 0))))))))), ?_⟩
    rcases h with ⟨cs, rfl, hl, q⟩ | ⟨x, rfl, hx, q⟩
    · have q0 := q H (fun _ _ e => e)
      refine ⟨_, rfl, true, isi_str _, true, rfl, iteF ?_⟩
      by_cases hne : cs = []
      · refine ⟨_, rfl, rfl, true, ?_, iteT ?_⟩
        · rw [hne]
          decide +kernel
        · rw [hne] at q0
          exact q0
      · have hd : decide (V.str (S cs) = V.str (Str.ofString "")) = false := decide_eq_false fun z => hne (by
          have e : Str.ofString "" = S [] := by decide +kernel
          rw [e] at z
          injection z with z
          exact S_inj z)
        refine ⟨_, rfl, rfl, false, by rw [hd], iteF ?_⟩
        have e := lower_is cs hne
        refine ⟨_, rfl, ⟨_, rfl⟩, S cs, rfl, rfl, trivial, _, rfl, ?_⟩
        cases h1 : Txt.isascii (S cs) with
        | false =>
          rw [h1, Bool.false_and] at e
          rw [← e] at q0
          exact iteF q0
        | true =>
          rw [h1, Bool.true_and] at e
          refine iteT ⟨_, rfl, ⟨_, rfl⟩, S cs, rfl, rfl, trivial, _, rfl, ?_⟩
          cases h2 : Txt.isalpha (S cs) with
          | false =>
            rw [h2, Bool.false_and] at e
            rw [← e] at q0
            exact iteF q0
          | true =>
            rw [h2, Bool.true_and] at e
            rw [← e] at q0
            exact iteT ⟨_, rfl, ⟨_, rfl⟩, S cs, rfl, rfl, trivial, q0⟩
    · exact ⟨_, rfl, false, hx, false, rfl, iteT q⟩
end
end Tb

set_option Elab.async false
set_option linter.all false
set_option maxRecDepth 100000
set_option maxHeartbeats 2000000
namespace Tb
open PySem PySem.Spec PyProof.Rows L2 TL
/-! ### a text's signs, ascending -/
def sortN (cs : List Nat) : List Nat := cs.mergeSort (fun a b => decide (a ≤ b))
theorem sortN_perm (cs : List Nat) : (sortN cs).Perm cs := List.mergeSort_perm _ _
theorem sortN_le (cs : List Nat) : (sortN cs).Pairwise (· ≤ ·) := by
  have h := List.pairwise_mergeSort (le := fun a b : Nat => decide (a ≤ b)) (fun a b c h1 h2 => by simp at *; omega) (fun a b => by simp; omega) cs
  exact h.imp fun h => of_decide_eq_true h
theorem sortN_of {zs cs : List Nat} (hp : zs.Perm cs) (hs : zs.Pairwise (· ≤ ·)) : zs = sortN cs :=
  List.Perm.eq_of_pairwise (fun a b _ _ h1 h2 => Nat.le_antisymm h1 h2) hs (sortN_le cs) (hp.trans (sortN_perm cs).symm)
theorem ltC_one (a b : Nat) : ltCps (S [a]).cps.toList (S [b]).cps.toList = decide (a < b) := by
  show ltCps [a] [b] = _
  by_cases h : a < b
  · simp [ltCps, h]
  · simp [ltCps, h]
theorem rising_one : ∀ (zs : List Nat) (a : Nat), risingS (S [a]) (zs.map fun c => S [c]) = true → (a :: zs).Pairwise (· ≤ ·)
  | [], a, _ => List.pairwise_singleton _ _
  | z :: r, a, h => by
    have h' : (!ltCps (S [z]).cps.toList (S [a]).cps.toList && risingS (S [z]) (r.map fun c => S [c])) = true := h
    rw [ltC_one, Bool.and_eq_true] at h'
    have h1 : a ≤ z := by
      have := h'.1
      simp at this
      exact this
    have h2 := rising_one r z h'.2
    refine List.pairwise_cons.mpr ⟨fun x hx => ?_, h2⟩
    rcases List.mem_cons.mp hx with e | e
    · rw [e]; exact h1
    · exact Nat.le_trans h1 ((List.pairwise_cons.mp h2).1 x e)
theorem sorted_signs {ys : List Str} {cs : List Nat} (hp : ys.Perm (cs.map fun c => S [c])) (hs : sortedS ys = true) : ys = (sortN cs).map fun c => S [c] := by
  have e1 : ys = (ys.map fun s => (tl s).headD 0).map fun c => S [c] := by
    rw [List.map_map]
    conv => lhs; rw [← List.map_id ys]
    refine List.map_congr_left fun y hy => ?_
    obtain ⟨c, _, rfl⟩ := List.mem_map.mp (hp.mem_iff.mp hy)
    rfl
  have hp2 : (ys.map fun s => (tl s).headD 0).Perm cs := by
    have h := hp.map fun s => (tl s).headD 0
    rw [List.map_map] at h
    have e : cs.map ((fun s => (tl s).headD 0) ∘ fun c => S [c]) = cs := by
      conv => rhs; rw [← List.map_id cs]
      exact List.map_congr_left fun c _ => rfl
    rw [e] at h
    exact h
  generalize (ys.map fun s => (tl s).headD 0) = zs at e1 hp2
  have hz : zs.Pairwise (· ≤ ·) := by
    rw [e1] at hs
    cases zs with
    | nil => exact List.Pairwise.nil
    | cons z r => exact rising_one r z hs
  rw [e1, sortN_of hp2 hz]
/-! ### are_different, in_order, is_name -/
def isName (cs : List Nat) : Bool := cs.all isLow && (decide (1 ≤ cs.length) && decide (cs.length ≤ 8))
theorem isName_iff {cs : List Nat} : isName cs = true ↔ NameL cs := by
  unfold isName NameL
  rw [Bool.and_eq_true, Bool.and_eq_true, List.all_eq_true]
  constructor
  · rintro ⟨h1, h2, h3⟩
    exact ⟨of_decide_eq_true h2, of_decide_eq_true h3, fun c hc => of_decide_eq_true (h1 c hc)⟩
  · rintro ⟨h1, h2, h3⟩
    exact ⟨fun c hc => decide_eq_true (h3 c hc), decide_eq_true h1, decide_eq_true h2⟩
theorem nodup_S {l : List (List Nat)} : (l.map S).Nodup ↔ l.Nodup := by
  constructor
  · intro h
    rw [List.nodup_iff_pairwise_ne] at h ⊢
    exact (List.pairwise_map.mp h).imp fun h e => h (by rw [e])
  · intro h
    rw [List.nodup_iff_pairwise_ne] at h ⊢
    exact List.pairwise_map.mpr (h.imp fun h e => h (S_inj e))
theorem nodup_S1 {l : List Nat} : (l.map fun c => S [c]).Nodup ↔ l.Nodup := by
  constructor
  · intro h
    rw [List.nodup_iff_pairwise_ne] at h ⊢
    exact (List.pairwise_map.mp h).imp fun h e => h (by rw [e])
  · intro h
    rw [List.nodup_iff_pairwise_ne] at h ⊢
    exact List.pairwise_map.mpr (h.imp fun h e => h (by have := S_inj e; injection this))
theorem num_eq (a b : Nat) : decide (num a = num b) = decide (a = b) := by
  rw [decide_eq_decide]
  unfold num
  constructor
  · intro h
    injection h with h
    omega
  · intro h
    rw [h]
section
variable {P : Program} {w : World} {K : PySem.W.Frag} {mg : Str → Option Value} {base : Heap}
abbrev nIsName : List Str := ["thing"]
theorem scIsName : FnScope nIsName ["thing"] (defScope sIsName) := ⟨rfl, rfl, rfl, by decide +kernel, rfl, by decide +kernel, by decide +kernel⟩
def spIsName (K : PySem.W.Frag) : Sp := fun vs H Q _ => (∃ cs : List Nat, vs = [.str (S cs)] ∧ cs.length ≤ 1000 ∧ ∀ H', Same H H' → Q (.bl (isName cs)) H') ∨ (∃ x, vs = [x] ∧ Isi K H x "str" false ∧ Q (.bl false) H)
theorem ok_isName {f : Addr} {fd : FuncData} {k : Nat} (F : Fun K "is_name" "is_name" sIsName f fd) (DT : Df P w K mg base (k + 1) "is_text" ["thing"] (spIsText K)) (ml : mg "len" = none) (mN : ∃ t, mg "LONGEST_NAME" = some (.int 8 t)) : FnOk P w K mg base CX0 (k + 2) f fd ["thing"] (spIsName K) := by
  obtain ⟨tN, mN⟩ := mN
  refine F.ok scIsName (fun vs H Q E h => ?_) (fun cdv A outer s H vs Q E hr h => ?_)
  · rcases h with ⟨cs, rfl, _⟩ | ⟨x, rfl, _⟩ <;> rfl
  · refine ⟨_, pss_one (ps_ret (pe_and (pe_df DT hr (pa_cons (pv 0) pa_nil)) (pe_one (pe_chain op_le op_le pe_int (pe_callB call_len_str (by rfl) ml PySem.boot_len (pa_cons (pv 0) pa_nil)) (pe_glob (v := .int 8) (by rfl) mN ⟨_, rfl⟩))))), ?_⟩
    rcases h with ⟨cs, rfl, hl, q⟩ | ⟨x, rfl, hx, q⟩
    · refine ⟨_, rfl, .inl ⟨cs, rfl, hl, fun H' s' => ?_⟩⟩
      have hq := q H' s'
      refine ⟨_, rfl, ?_⟩
      unfold isName at hq
      by_cases h1 : cs.all isLow = true
      · rw [h1] at hq ⊢
        refine iteT ⟨_, rfl, S cs, rfl, by rw [len_S]; exact Nat.le_trans hl (by decide), _, _, rfl, rfl, _, rfl, ?_⟩
        rw [len_S]
        by_cases h2 : 1 ≤ cs.length
        · rw [decide_eq_true h2] at hq
          rw [decide_eq_true (show (1 : Int) ≤ (cs.length : Int) by omega)]
          refine iteT ⟨_, _, rfl, rfl, ?_⟩
          have e : decide ((cs.length : Int) ≤ 8) = decide (cs.length ≤ 8) := by
            rw [decide_eq_decide]
            omega
          show Q (.bl (decide ((cs.length : Int) ≤ 8))) H'
          rw [e]
          exact hq
        · rw [decide_eq_false h2] at hq
          rw [decide_eq_false (show ¬ (1 : Int) ≤ (cs.length : Int) by omega)]
          exact iteF hq
      · rw [Bool.eq_false_iff.mpr h1] at hq ⊢
        exact iteF hq
    · exact ⟨_, rfl, .inr ⟨x, rfl, hx, false, rfl, iteF q⟩⟩
abbrev nAreDiff : List Str := ["strings"]
theorem scAreDiff : FnScope nAreDiff ["strings"] (defScope sAreDiff) := ⟨rfl, rfl, rfl, by decide +kernel, rfl, by decide +kernel, by decide +kernel⟩
def spAreDiff (K : PySem.W.Frag) : Sp := fun vs H Q _ => (∃ cs : List Nat, vs = [.str (S cs)] ∧ cs.length ≤ 1000 ∧ Q (.bl (decide cs.Nodup)) H) ∨ (∃ l, ∃ xs : List (List Nat), vs = [.ref l] ∧ (SqL K H l (txs xs) ∨ SqT K H l (txs xs)) ∧ xs.length ≤ 1000 ∧ Q (.bl (decide xs.Nodup)) H)
theorem ok_areDiff {f : Addr} {fd : FuncData} {k : Nat} (F : Fun K "are_different" "are_different" sAreDiff f fd) (ml : mg "len" = none) (mt : mg "set" = none) : FnOk P w K mg base CX0 (k + 1) f fd ["strings"] (spAreDiff K) := by
  refine F.ok scAreDiff (fun vs H Q E h => ?_) (fun cdv A outer s H vs Q E hr h => ?_)
  · rcases h with ⟨cs, rfl, _⟩ | ⟨l, xs, rfl, _⟩ <;> rfl
  · rcases h with ⟨cs, rfl, hl, q⟩ | ⟨l, xs, rfl, hx, hl, q⟩
    · refine ⟨_, pss_one (ps_ret (pe_cmpR op_eq (pe_lenSetS rfl (by rfl) ml (by rfl) mt (pv 0)) (pe_callB call_len_str (by rfl) ml PySem.boot_len (pa_cons (pv 0) pa_nil)) (nomark _))), ?_⟩
      refine ⟨_, rfl, .inr ⟨cs, rfl, hl, _, rfl, S cs, rfl, by rw [len_S]; exact Nat.le_trans hl (by decide), rfl, ?_⟩⟩
      rw [len_S]
      have e : decide (num (dedS (cs.map fun c => S [c])).length = V.int (cs.length : Int)) = decide cs.Nodup := by
        rw [show V.int (cs.length : Int) = num cs.length from rfl, num_eq, decide_eq_decide]
        have h := dedS_iff (cs.map fun c => S [c])
        rw [List.length_map] at h
        exact h.trans nodup_S1
      rw [e]
      exact q
    · refine ⟨_, pss_one (ps_ret (pe_cmpR op_eq (pe_lenSetS rfl (by rfl) ml (by rfl) mt (pv 0)) (pe_callB call_lenS (by rfl) ml PySem.boot_len (pa_cons (pv 0) pa_nil)) (nomark _))), ?_⟩
      have ex : txs xs = (xs.map S).map V.str := by
        unfold txs
        rw [List.map_map]
        rfl
      refine ⟨_, rfl, .inl ⟨l, xs.map S, rfl, by rw [← ex]; exact hx, by rw [List.length_map]; exact hl, _, rfl, l, txs xs, rfl, hx, rfl, ?_⟩⟩
      have e : decide (num (dedS (xs.map S)).length = V.int ((txs xs).length : Int)) = decide xs.Nodup := by
        rw [show V.int ((txs xs).length : Int) = num (txs xs).length from rfl, num_eq, decide_eq_decide]
        have h := dedS_iff (xs.map S)
        rw [List.length_map] at h
        unfold txs
        rw [List.length_map]
        exact h.trans nodup_S
      rw [e]
      exact q
abbrev nInOrder : List Str := ["signs"]
theorem scInOrder : FnScope nInOrder ["signs"] (defScope sInOrder) := ⟨rfl, rfl, rfl, by decide +kernel, rfl, by decide +kernel, by decide +kernel⟩
def spInOrder : Sp := fun vs H Q _ => ∃ cs : List Nat, vs = [.str (S cs)] ∧ cs.length < 64 ∧ ∀ H', Same H H' → Q (.str (S (sortN cs))) H'
theorem ok_inOrder {f : Addr} {fd : FuncData} {k : Nat} (F : Fun K "in_order" "in_order" sInOrder f fd) (ms : mg "sorted" = none) : FnOk P w K mg base CX0 (k + 1) f fd ["signs"] spInOrder := by
  refine F.ok scInOrder (fun vs H Q E h => ?_) (fun cdv A outer s H vs Q E hr h => ?_)
  · obtain ⟨cs, rfl, _⟩ := h
    rfl
  · obtain ⟨cs, rfl, hl, q⟩ := h
    refine ⟨_, pss_one (ps_ret (pe_join pe_str (pe_callB (call_sortStr rfl) (by rfl) ms (by decide +kernel) (pa_cons (pv 0) pa_nil)))), ?_⟩
    refine ⟨⟨_, rfl⟩, _, rfl, cs, rfl, hl, fun ys hp hs p H' s' n' e' => ?_⟩
    have ey := sorted_signs hp hs
    subst ey
    have e1 : (sortN cs).map (fun c => S [c]) = (sortN cs).map fun c => S [c] := rfl
    refine ⟨_, p, (sortN cs).map fun c => S [c], rfl, rfl, .inl (SqL.of e'), ?_, ?_⟩
    · have h1 : (sortN cs).length < 64 := by rw [(sortN_perm cs).length_eq]; exact hl
      rw [sum_ones, str_empty, len_S]
      show _ + _ * 0 ≤ _
      omega
    rw [str_empty, join_signs]
    exact q H' s'
end
end Tb

set_option Elab.async false
set_option linter.all false
set_option maxRecDepth 100000
set_option maxHeartbeats 4000000
namespace Tb
open PySem PySem.Spec PyProof.Rows L2
section
variable {X : Cx} {pins : List (Addr × Obj)} {σ : L2.St} {H : Hp} {s : Shared}
/-- what the body does: the text at ir, the sign at ib -/
def tRm (ir ib : Nat) : TS := fun D σ H => ∃ (z : Str) (c : Nat), σ[ir]? = some (some (.str z)) ∧ σ[ib]? = some (some (.str ⟨#[c]⟩)) ∧
  if Txt.count z ⟨#[c]⟩ > 1 then D.rt (.bl false) H else z.length ≤ 16777216 ∧ D.nx (σ.set ir (some (.str (Txt.replace z ⟨#[c]⟩ Str.empty)))) H
theorem ld_known {x : Str} {pos : Pos} {m : Str → Option Value} {v : Value} {Q E : Value → Shared → Prop} (I : Inv X pins σ H s) (hk : X.env.scope.names.lookup x = some .local) (hn : s.heap.Ns X.env.locals m) (hm : m x = some v) (fin : Q v s) (hd : (x == ("__debug__" : Str)) = false := by decide) :
    wpAny (model X.prog X.w) X.A (eval (.Name x pos) X.env) Q E s := wpAny_Name (wpAny_loadName_local I.ok.kind hk hn hm fin) hd
theorem psb_rm {ir ib : Nat} {xr xb : Str} {p1 p2 p3 p4 p5 p6 p7 p8 p9 p10 p11 p12 p13 p14 : Pos} {j1 j2 : Nat} (hN : X.N.Nodup) (hir : X.N[ir]? = some xr) (hkr : X.env.scope.names.lookup xr = some .local) (hib : X.N[ib]? = some xb) (hkb : X.env.scope.names.lookup xb = some .local)
    (hs1 : starEach [.Name xb p3] X.env = [(false, eval (.Name xb p3) X.env)] := by rfl)
    (hbase1 : attributeBase (.Name xr p1) "count" X.env (eval (.Name xr p1) X.env) = eval (.Name xr p1) X.env := by rfl) (hline1 : (p2.endLine == p4.line) = true := by rfl)
    (hs2 : starEach [.Name xb p11, .Constant (.str Str.empty) j2 p12] X.env = [(false, eval (.Name xb p11) X.env), (false, eval (.Constant (.str Str.empty) j2 p12) X.env)] := by rfl)
    (hbase2 : attributeBase (.Name xr p9) "replace" X.env (eval (.Name xr p9) X.env) = eval (.Name xr p9) X.env := by rfl) (hline2 : (p10.endLine == p13.line) = true := by rfl)
    (hsw : swapsWith (.Call (.Attribute (.Name xr p9) "replace" p10) [.Name xb p11, .Constant (.str Str.empty) j2 p12] [] p13) (some (.Name xr p8)) p14.line X.env = pure false := by rfl)
    (d1 : (xr == ("__debug__" : Str)) = false := by decide) (d2 : (xb == ("__debug__" : Str)) = false := by decide) (d3 : (xr == ("__classdict__" : Str)) = false := by decide) {st : List Stmt} (hret : PSs X st (tRet (tC (.bl false)))) :
    PSb X xb [.If (.Compare (.Call (.Attribute (.Name xr p1) "count" p2) [.Name xb p3] [] p4) [.Gt] [.Constant (.int 1) j1 p5] p6) st [] p7,
      .Assign [.Name xr p8] (.Call (.Attribute (.Name xr p9) "replace" p10) [.Name xb p11, .Constant (.str Str.empty) j2 p12] [] p13) p14] ib (tRm ir ib) := by
  intro pins s σ H D c u m hu0 hu I hn hm hσ h
  obtain ⟨z, c', hz, hc', h⟩ := h
  rw [hσ] at hc'
  have ec : c = c' := by
    have h1 := Option.some.inj (Option.some.inj hc')
    injection h1 with h1
    have h2 := congrArg (fun y : Str => y.cps) h1
    have h2 : #[c] = #[c'] := h2
    injection h2 with h3
    injection h3
  subst ec
  refine wpAny_execs_cons (wpAny_If (wpAny_isTrue_Compare1 (PySem.Call_method1 hbase1 hs1 hline1 (raw_name hir (.inl hkr) I hz (fun v r => ?_) d1 d3))))
  obtain ⟨tz, rfl⟩ := r
  refine ⟨"str", _, F.plainAttrs_str, F.slot_str_count, F.type_str_count, typeIs_str _ _ _, (fun _ e => nomatch e), Calls.callWith_builtin rfl (Calls.evalArgs_plain (Calls.spliced_cons (ld_known I hkb hn hm (Calls.spliced_nil ?_) d2)))⟩
  refine PySem.SC.count ?_
  refine wpAny_Constant_int ?_
  refine gt_int ?_
  refine wpAny_truthy_bool ?_
  have I2 : Inv X pins σ H { s with toks := s.toks + 1 + 1 } := I.tok _
  by_cases hc : Txt.count z ⟨#[c]⟩ > 1
  · rw [if_pos hc] at h
    rw [decide_eq_true (show (1 : Int) < Txt.count z ⟨#[c]⟩ from hc)]
    refine wpAny_mono (hret.run pins _ σ H { D with nx := fun _ _ => False } I2 h) (fun f s1 q => ?_) fun _ _ x => x
    cases f with
    | next =>
      obtain ⟨_, _, _, q⟩ := q
      exact q.elim
    | ret v => exact q
    | brk => exact q
    | cont => exact q
  · rw [if_neg hc] at h
    obtain ⟨hl, h⟩ := h
    rw [decide_eq_false (show ¬ (1 : Int) < Txt.count z ⟨#[c]⟩ from hc)]
    refine wpAny_execs_nil ?_
    refine wpAny_execs_cons (wpAny_Assign_Name (PySem.Call_method2 hbase2 hs2 hline2 (raw_name hir (.inl hkr) I2 hz (fun v r => ?_) d1 d3)) hsw)
    obtain ⟨tz2, rfl⟩ := r
    refine ⟨"str", _, F.plainAttrs_str, F.slot_str_replace, F.type_str_replace, typeIs_str _ _ _, (fun _ e => nomatch e), Calls.callWith_builtin rfl (Calls.evalArgs_plain (Calls.spliced_cons (ld_known I2 hkb hn hm (Calls.spliced_cons (Calls.Constant_str (Calls.spliced_nil ?_))) d2)))⟩
    have hu2 : u < s.toks + 1 + 1 := Nat.lt_succ_of_lt (Nat.lt_succ_of_lt hu)
    refine PySem.SC.replace (Nat.ne_of_gt hu0) (Nat.ne_of_gt (Nat.succ_pos _)) (Nat.ne_of_lt hu2) rfl (by rw [show Str.empty.length = 0 from rfl]; omega) fun t' k => ?_
    exact store_okN (I2.tok k) hN hir hkr (v := V.str (Txt.replace z ⟨#[c]⟩ Str.empty)) ⟨_, rfl⟩ fun s' m' I3 _ _ _ _ => wpAny_execs_nil ⟨_, H, I3, h⟩
end
end Tb

set_option Elab.async false
set_option linter.all false
set_option maxRecDepth 100000
set_option maxHeartbeats 2000000
namespace Tb
open PySem PySem.Spec PyProof.Rows L2 TL
theorem op_notIn_sign {X : Cx} : OpR X (compareOp .NotIn) (fun x y H Q => ∃ (c : Nat) (z : Str), x = .str ⟨#[c]⟩ ∧ y = .str z ∧ Q (.bl (!decide (c ∈ z.cps.toList))) H) := OpR.weak op_notIn_str fun x y H Q ⟨c, z, e1, e2, q⟩ => ⟨_, z, e1, e2, by rw [PySem.StrLaws.found_one]; exact q⟩
/-! ### is_filling -/
def caps (cs : List Nat) : List Nat := cs.filter fun c => !isLow c
def isFill (cs bs : List Nat) : Bool := decide (caps cs).Nodup && (caps cs).all fun c => decide (c ∈ bs)
theorem isFill_iff {cs bs : List Nat} : isFill cs bs = true ↔ (caps cs).Nodup ∧ ∀ c ∈ caps cs, c ∈ bs := by
  unfold isFill
  rw [Bool.and_eq_true, List.all_eq_true]
  exact ⟨fun ⟨a, b⟩ => ⟨of_decide_eq_true a, fun c hc => of_decide_eq_true (b c hc)⟩, fun ⟨a, b⟩ => ⟨decide_eq_true a, fun c hc => decide_eq_true (b c hc)⟩⟩
theorem caps_split {cs : List Nat} {j c : Nat} (h : cs[j]? = some c) (hl : isLow c = false) : caps cs = caps (cs.take j) ++ c :: caps (cs.drop (j + 1)) := by
  have e : cs = cs.take j ++ c :: cs.drop (j + 1) := by
    obtain ⟨h1, h2⟩ := List.getElem?_eq_some_iff.mp h
    rw [← h2, ← List.drop_eq_getElem_cons h1, List.take_append_drop]
  unfold caps
  conv => lhs; rw [e]
  rw [List.filter_append, List.filter_cons, if_pos (by rw [hl]; rfl)]
theorem caps_take {cs : List Nat} {j c : Nat} (h : cs[j]? = some c) : caps (cs.take (j + 1)) = caps (cs.take j) ++ (if isLow c = true then [] else [c]) := by
  have et : cs.take (j + 1) = cs.take j ++ [c] := by
    rw [List.take_add_one, h]
    rfl
  unfold caps
  rw [et, List.filter_append]
  congr 1
  by_cases hl : isLow c = true
  · simp [List.filter_cons, hl]
  · simp [List.filter_cons, hl]
theorem count_S (cs : List Nat) (c : Nat) : Txt.count (S cs) ⟨#[c]⟩ = (cs.count c : Int) := by
  rw [count_is]
  show PyProof.Rows.cnt c cs = _
  induction cs with
  | nil => rfl
  | cons a r ih =>
    rw [cnt_cons, ih, List.count_cons]
    by_cases h : a = c
    · rw [if_pos h, h, beq_self_eq_true, if_pos rfl]
      omega
    · rw [if_neg h, beq_false_of_ne h, if_neg Bool.false_ne_true]
      omega
theorem replL_filter (c : Nat) : ∀ l : List Nat, StrLaws.replL [c] [] l = l.filter fun x => decide (x ≠ c)
  | [] => StrLaws.replL_nil
  | a :: r => by
    by_cases h : a = c
    · rw [StrLaws.replL_hit (by simp) (by rw [h]; rfl), List.filter_cons_of_neg (by simp [h])]
      show [] ++ StrLaws.replL [c] [] r = _
      rw [List.nil_append, replL_filter c r]
    · rw [StrLaws.replL_miss (by intro z; have z : [a] = [c] := z; injection z with z; exact h z), List.filter_cons_of_pos (by simp [h]), replL_filter c r]
theorem replace_S (cs : List Nat) (c : Nat) : Txt.replace (S cs) ⟨#[c]⟩ Str.empty = S (cs.filter fun x => decide (x ≠ c)) := by
  refine ext_tl ?_
  have h := StrLaws.replace_list (x := S cs) (y := ⟨#[c]⟩) (z := Str.empty) (Nat.le_refl 1)
  show (Txt.replace (S cs) ⟨#[c]⟩ Str.empty).cps.toList = _
  rw [h]
  exact replL_filter c cs
/-- the signs that are none of these -/
def outOf (bs cs : List Nat) : List Nat := cs.filter fun x => decide (x ∉ bs)
theorem outOf_nil (cs : List Nat) : outOf [] cs = cs := by
  unfold outOf
  rw [List.filter_eq_self]
  exact fun _ _ => by simp
theorem outOf_snoc (bs cs : List Nat) (c : Nat) : outOf (bs ++ [c]) cs = (outOf bs cs).filter fun x => decide (x ≠ c) := by
  unfold outOf
  rw [List.filter_filter]
  refine List.filter_congr fun x _ => ?_
  simp
  exact Bool.and_comm _ _
theorem outOf_count (bs cs : List Nat) (c : Nat) (h : c ∉ bs) : (outOf bs cs).count c = cs.count c := by
  unfold outOf
  rw [List.count_filter (by simpa using h)]
theorem caps_count {cs : List Nat} {b : Nat} (h : isLow b = false) : (caps cs).count b = cs.count b := by
  unfold caps
  rw [List.count_filter (by rw [h]; rfl)]
theorem isFill_end {cs bs : List Nat} (hb : ∀ b ∈ bs, isLow b = false) (h : ∀ b ∈ bs, cs.count b ≤ 1) : isFill cs bs = (outOf bs cs).all isLow := by
  rw [Bool.eq_iff_iff, isFill_iff, List.all_eq_true]
  constructor
  · rintro ⟨_, h2⟩ c hc
    unfold outOf at hc
    obtain ⟨h3, h4⟩ := List.mem_filter.mp hc
    cases hl : isLow c with
    | true => rfl
    | false =>
      refine absurd (h2 c ?_) (of_decide_eq_true h4)
      unfold caps
      exact List.mem_filter.mpr ⟨h3, by rw [hl]; rfl⟩
  · intro h2
    have sub : ∀ c ∈ caps cs, c ∈ bs := fun c hc => by
      unfold caps at hc
      obtain ⟨h3, h4⟩ := List.mem_filter.mp hc
      by_cases z : c ∈ bs
      · exact z
      · have := h2 c (by unfold outOf; exact List.mem_filter.mpr ⟨h3, decide_eq_true z⟩)
        rw [this] at h4
        cases h4
    refine ⟨List.nodup_iff_count.mpr fun c => ?_, sub⟩
    by_cases z : c ∈ caps cs
    · rw [caps_count (hb c (sub c z))]
      exact h c (sub c z)
    · rw [List.count_eq_zero.mpr z]
      exact Nat.zero_le _
theorem isFill_two {cs bs : List Nat} {b : Nat} (hl : isLow b = false) (h : cs.count b > 1) : isFill cs bs = false := by
  rw [Bool.eq_false_iff]
  intro z
  have := List.nodup_iff_count.mp (isFill_iff.mp z).1 b
  rw [caps_count hl] at this
  omega
section
variable {P : Program} {w : World} {K : PySem.W.Frag} {mg : Str → Option Value} {base : Heap}
abbrev nIsFilling : List Str := ["thing", "boxes", "rest", "box"]
theorem scIsFilling : FnScope nIsFilling ["thing", "boxes"] (defScope sIsFilling) := ⟨rfl, rfl, rfl, by decide +kernel, rfl, by decide +kernel, by decide +kernel⟩
def spIsFilling (K : PySem.W.Frag) : Sp := fun vs H Q _ => (∃ cs bs : List Nat, vs = [.str (S cs), .str (S bs)] ∧ cs.length ≤ 1000 ∧ (∀ b ∈ bs, isLow b = false) ∧ ∀ H', Same H H' → Q (.bl (isFill cs bs)) H') ∨ (∃ x b, vs = [x, b] ∧ Isi K H x "str" false ∧ Q (.bl false) H)
theorem ok_isFilling {f : Addr} {fd : FuncData} {k : Nat} (F : Fun K "is_filling" "is_filling" sIsFilling f fd) (DT : Df P w K mg base (k + 1) "is_text" ["thing"] (spIsText K)) (mi : mg "isinstance" = none) (ms : mg "str" = none) : FnOk P w K mg base CX0 (k + 2) f fd ["thing", "boxes"] (spIsFilling K) := by
  refine F.ok scIsFilling (fun vs H Q E h => ?_) (fun cdv A outer s H vs Q E hr h => ?_)
  · rcases h with ⟨cs, bs, rfl, _⟩ | ⟨x, b, rfl, _⟩ <;> rfl
  · refine ⟨_, pss_cons (ps_if (pt_not (pt_val (pe_isStr (pv 0) mi (by rfl) ms (by rfl)))) (pss_one (ps_ret pe_bl)) pss_nil)
      (pss_tok (i := 2) scIsFilling.nd rfl rfl (pv 0)
      (psst_cons (pst_forS PassesOwn.never rfl scIsFilling.nd (i := 3) rfl rfl (pv 1) (psb_rm (ir := 2) (ib := 3) scIsFilling.nd rfl rfl rfl rfl (hret := pss_one (ps_ret pe_bl))))
      (PSsT.of (pss_one (ps_ret (pe_df DT hr (pa_cons (pv 2) pa_nil))))))), ?_⟩
    rcases h with ⟨cs, bs, rfl, hl, hb, q⟩ | ⟨x, b, rfl, hx, q⟩
    · refine ⟨_, rfl, true, isi_str _, true, rfl, iteF ?_⟩
      refine ⟨_, rfl, ?_⟩
      refine ⟨_, rfl, S bs, rfl, for_it (walk_str (z := S bs)) (fun j σ H' => ∃ v3, σ = [some (.str (S cs)), some (.str (S bs)), some (.str (S (outOf (bs.take j) cs))), v3] ∧ Same H H' ∧ ∀ b ∈ bs.take j, cs.count b ≤ 1)
        ⟨none, by rw [List.take_zero, outOf_nil]; rfl, fun _ _ e => e, fun b hb => (nomatch hb)⟩ (fun _ _ _ _ _ => trivial) ?_ ?_⟩
      · rintro j x σ H2 H2' hj ⟨v3, rfl, s2, hc⟩ ⟨rfl, c, hx, rfl⟩
        have hx' : bs[j]? = some c := by
          rw [show (S bs).cps = bs.toArray from rfl, List.getElem?_toArray] at hx
          exact hx
        have hm := List.mem_of_getElem? hx'
        have et : bs.take (j + 1) = bs.take j ++ [c] := by
          rw [List.take_add_one, hx']
          rfl
        refine ⟨S (outOf (bs.take j) cs), c, rfl, rfl, ?_⟩
        rw [count_S, replace_S, ← outOf_snoc, ← et]
        by_cases h1 : ((outOf (bs.take j) cs).count c : Int) > 1
        · rw [if_pos h1]
          have h2 : cs.count c > 1 := by
            have : (outOf (bs.take j) cs).count c ≤ cs.count c := List.Sublist.count_le _ List.filter_sublist
            omega
          have h3 := q _ s2
          rw [isFill_two (hb c hm) h2] at h3
          exact h3
        · rw [if_neg h1]
          refine ⟨?_, _, rfl, s2, fun b hb' => ?_⟩
          · rw [len_S]
            have : (outOf (bs.take j) cs).length ≤ cs.length := List.length_filter_le _ _
            omega
          · rw [et] at hb'
            rcases List.mem_append.mp hb' with z | z
            · exact hc b z
            · rw [List.mem_singleton.mp z]
              by_cases hin : c ∈ bs.take j
              · exact hc c hin
              · rw [outOf_count _ _ _ hin] at h1
                omega
      · rintro σ H2 ⟨v3, rfl, s2, hc⟩
        have lsz : (S bs).cps.size = bs.length := rfl
        rw [lsz, List.take_length] at hc
        rw [lsz, List.take_length]
        have ho : (outOf bs cs).length ≤ cs.length := List.length_filter_le _ _
        refine ⟨_, rfl, .inl ⟨outOf bs cs, rfl, by omega, fun H3 s3 => ?_⟩⟩
        rw [← isFill_end hb hc]
        exact q _ (s2.trans s3)
    · exact ⟨_, rfl, false, hx, false, rfl, iteT q⟩
end
end Tb

set_option Elab.async false
set_option linter.all false
set_option maxRecDepth 100000
set_option maxHeartbeats 2000000
namespace Tb
open PySem PySem.Spec PyProof.Rows L2 TL
/-! ### d.items() walked, d a dict whose keys are tuples -/
def Itit (d : Addr) (o : Obj) (kvs : List (List Key × V)) : It :=
  ⟨fun i H => H d = some (.frz o (.dT kvs)) ∧ i < kvs.length, fun i H x H' => ∃ T k v q, kvs[i]? = some (k, v) ∧ H q = some (.tup (k.map kV)) ∧ x = .ref T ∧ H T = none ∧ H' = upd H T (.tup [.ref q, v]), fun i H => H d = some (.frz o (.dT kvs)) ∧ kvs.length ≤ i⟩
theorem walk_itemsT {d : Addr} {o : Obj} {kvs : List (List Key × V)} : Walk (Itit d o kvs) kvs.length (fun H => H d = some (.frz o (.dT kvs))) (fun i H x H' => ∃ T k v q, kvs[i]? = some (k, v) ∧ H q = some (.tup (k.map kV)) ∧ x = .ref T ∧ H T = none ∧ H' = upd H T (.tup [.ref q, v])) :=
  ⟨fun _ _ hi q => ⟨q, hi⟩, fun _ q => ⟨q, Nat.le_refl _⟩, fun _ _ _ _ _ _ y => y⟩
theorem frzT2 {X : Cx} {pins : List (Addr × Obj)} {σ : L2.St} {H : Hp} {s : Shared} {d : Addr} {o : Obj} {kvs : List (List Key × V)} (I : Inv X pins σ H s) (h : H d = some (.frz o (.dT kvs))) :
    (d == sysModules) = false ∧ s.heap.get? d = some o ∧ o.ExactDict ∧ ∃ (es : Array DictEntry) (ep : Nat), o.data = .dict es ep ∧ es.size = kvs.length ∧
      ∀ (i : Nat) (k : List Key) (v : V), kvs[i]? = some (k, v) → ∃ (en : DictEntry) (q : Addr), es[i]? = some en ∧ en.key = .ref q ∧ H q = some (.tup (k.map kV)) ∧ RelV v en.val := by
  obtain ⟨hd, z, hs, xs, pr, o', es, ep, ho, hx, hdt, he, _⟩ := I.hok d _ h
  rw [hd] at ho
  cases ho
  refine ⟨hs, hd, hx, es, ep, hdt, ?_, fun i k v e => ?_⟩
  · have l1 : es.size = xs.length := size_of_entries he
    have l2 : kvs.length = xs.length := Paired.length pr
    omega
  · obtain ⟨b, hb, e1, e2, e3⟩ := paired_get pr e
    have q := entry_at he i
    rw [hb] at q
    exact ⟨_, b.2.1, q, rfl, e2, e3⟩
theorem turn_itemsT {P : Program} {w : World} {K : PySem.W.Frag} {d : Addr} {o : Obj} {es : Array DictEntry} {ep : Nat} {kvs : List (List Key × V)} {elts : List Expr} {kk : Nat} {tpos : Pos} (it : Addr) (hod : o.data = .dict es ep) :
    Turn P w K (.Tuple elts kk tpos) (Itit d o kvs) [it] it (fun i h => ∃ ok ov, IsItemIter h it d i kvs.length ep ok ov) where
  mem := by simp
  obj := fun i h st b hb => by
    have e : b = it := by simpa using hb
    subst e
    obtain ⟨ok, ov, e⟩ := st
    exact ⟨_, e, fun v z => nomatch z⟩
  keep := fun i h h' st k => let ⟨ok, ov, e⟩ := st; ⟨ok, ov, k it (by simp) _ e⟩
  item := by
    intro X hP hw hK hc i pins s σ H E I hf st hg
    subst hP hw hK
    obtain ⟨hd, hi⟩ := hg
    obtain ⟨hs, hgd, hx, es', ep', hdt, hsz, ent⟩ := frzT2 I hd
    obtain ⟨rfl, rfl⟩ := dict_ep hod hdt
    obtain ⟨⟨k, v⟩, hkv⟩ : ∃ p, kvs[i]? = some p := ⟨kvs[i], List.getElem?_eq_getElem hi⟩
    obtain ⟨en, q, hen, hkey, hq, hval⟩ := ent i k v hkv
    obtain ⟨hlt', hen'⟩ := Array.getElem?_eq_some_iff.mp hen
    obtain ⟨ok, ov, he⟩ := st
    rw [← hsz] at he
    have hlt : it < s.heap.objs.size := Heap.lt_size he
    refine DT.nextI he ⟨o, hgd, hx, hdt⟩ hlt' fun h' ho hT hz hk => ?_
    rw [hen'] at ho hT
    refine ⟨_, rfl, wpAny_letOwnedTupleGo_items (s := { s with heap := h' }) ho fun h'' he' sb => ?_⟩
    have hT2 : h''.get? s.heap.objs.size = some { cls := .type "tuple", data := .seq #[en.key, en.val] } := (sb.2 _ (Nat.ne_of_gt hlt)).trans hT
    have new : ObjOk X.prog X.w (upd H s.heap.objs.size (.tup [.ref q, v])) h'' s.heap.objs.size (.tup [.ref q, v]) :=
      ⟨by show 2 ≤ sizeLine; decide, [en.key, en.val], .cons hkey (.cons hval .nil), ⟨_, hT2, rfl, _, rfl⟩⟩
    have I1 : Inv X pins σ (upd H s.heap.objs.size (.tup [.ref q, v])) { s with heap := h'' } :=
      I.turnedNew (t' := s.toks) (ch := [it]) (fun b ob hb e => (sb.2 b (by simpa using hb)).trans (hk b ob (by simpa using hb) e)) hf (Nat.le_refl _) new
    refine ⟨.ref s.heap.objs.size, _, I1, rfl, ⟨_, k, v, q, hkv, hq, rfl, I.hok.fresh (Nat.le_refl _), rfl⟩, ⟨en.key, en.val, ?_⟩, fun b hb => ?_⟩
    · rw [← hsz]; exact he'
    · have e : b = it := by simpa using hb
      rw [e, upd_ne (Nat.ne_of_lt hlt)]
      exact (hf it (by simp)).1
  done := by
    intro X hP hw hK hc i pins s σ H E I hf st hg
    subst hP hw hK
    obtain ⟨hd, hi⟩ := hg
    obtain ⟨f0, f1, f2, f3, f4, f5⟩ := hf it (by simp)
    obtain ⟨hs, hgd, hx, es', ep', hdt, hsz, ent⟩ := frzT2 I hd
    obtain ⟨rfl, rfl⟩ := dict_ep hod hdt
    obtain ⟨ok, ov, he⟩ := st
    rw [← hsz] at he
    exact DT.endI (I.ok.hd hc) he ⟨o, hgd, hx, hdt⟩ (by omega) fun h' eb => ⟨rfl, I.turned (t' := s.toks) (fun b ob hb e => eb b ob hb e) f0 f1 f3 f4 f5⟩
  self := fun A i s Q E st h => let ⟨_, _, e⟩ := st; PySem.W.kcp_self e h
def iItemsT (td : TE) : TI := fun σ H R => td σ H fun x H1 => ∃ d o kvs, x = .ref d ∧ H1 d = some (.frz o (.dT kvs)) ∧ R (Itit d o kvs) H1
section
variable {X : Cx} {tg e : Expr} {td : TE} {apos cpos : Pos}
theorem pi_itemsT {elts : List Expr} {kk : Nat} {tpos : Pos} (he : PE X e td) (hbase : attributeBase e "items" X.env (eval e X.env) = eval e X.env := by rfl) (hline : (apos.endLine == cpos.line) = true := by rfl) :
    PI X (.Tuple elts kk tpos) (.Call (.Attribute e "items" apos) [] [] cpos) (iItemsT td) := by
  refine ⟨fun pins s σ H R I h => ?_⟩
  refine wpAny_Call_method (T := "dict") (id := "dict.items") hbase rfl hline PySem.F.plainAttrs_dict PySem.F.slot_dict_items PySem.F.type_dict_items (thn (he.run pins s σ H _ I h) fun u s1 ⟨x, H1, I1, rx, d, o, kvs, ex, hd, q⟩ => ?_)
  subst ex
  obtain rfl : u = Value.ref d := rx
  obtain ⟨hs, hgd, hx, es, ep, hdt, hsz, ent⟩ := frzT2 I1 hd
  have hraw : DT.Raw s1.heap d es ep := ⟨o, hgd, hx, hdt⟩
  refine ⟨hraw.typeIs, ?_, ?_⟩
  · intro a ea
    cases ea
    exact ⟨o, hgd, hx.2.1⟩
  have I2 : Inv X pins σ H1 { s1 with heap := s1.heap.push { cls := .type "dict_items", data := .fields #[.ref d] } } := I1.kept (t' := s1.toks) fun b ob q => Heap.get?_push_of_some _ q
  have fin : wpAny (model X.prog X.w) X.A (pyIter (.ref s1.heap.objs.size)) (PIE X pins σ (.Tuple elts kk tpos) R) X.xe { s1 with heap := s1.heap.push { cls := .type "dict_items", data := .fields #[.ref d] } } := by
    refine DT.iterI (d := d) ⟨_, Heap.get?_push_size _ rfl, rfl, rfl⟩ (hraw.push _) (pi_one (tk := s1.toks) I2 _ (turn_itemsT _ hdt) ⟨.none, .none, ?_⟩ q)
    rw [← hsz]
    exact Heap.get?_push_size _ rfl
  show wpAny _ _ (callWith cpos (.builtin "dict.items") [.ref d] [] []) _ X.xe s1
  exact method_meetsIn PySem.F.slot_dict_items PySem.F.entry_dict_items rfl (PySem.evalArgs_none ⟨rfl, hraw.typeIs, PySem.F.args_dict_items_1 _, _, DT.meetsItems (es := es) (ep := ep) hs, hraw, fin⟩)
end
end Tb

set_option Elab.async false
set_option linter.all false
set_option maxRecDepth 100000
set_option maxHeartbeats 4000000
/-! sep.join(d.values()), d a dict of texts -/
namespace PySem
open Builtin Builtin.Str Builtin.Int
theorem nolenDV : typeLookup (.type "dict_valueiterator") "__len__" = pure none := by rw [typeLookup_type, builtinLookup_eq_fast]; kernel_rfl
theorem hintDV : typeLookup (.type "dict_valueiterator") "__length_hint__" = pure (some (.builtin "dict_valueiterator.__length_hint__")) := by rw [typeLookup_type, builtinLookup_eq_fast]; kernel_rfl
section
variable {prog : Program} {w : World} {A : Around} {E : Value → Shared → Prop} {s : Shared} {I : Addr} {fp wr : List Addr} {G : Array GenState → Array GenState → Prop} {n : Nat} {P : Nat → Value → Prop} {St : Nat → Shared → Prop}
theorem collectDV {Q : List Value → Shared → Prop}
    (W : WalksS prog w A.in1 I fp wr G n P St) (hT : ∀ i s, St i s → s.TypeIs (.ref I) "dict_valueiterator") (hst : St 0 s) (hfp : ∀ b ∈ fp, b < s.heap.objs.size) (hI : I ∈ fp)
    (hQ : ∀ s' acc, Moved wr G s s' → ItemsOf P acc n → Q acc.toList s') (hn : n ≤ sizeLine) : wpAny (model prog w) A (collect (.ref I)) Q E s := by
  have hSf : s.heap.objs.size ∉ fp := fun hm => Nat.lt_irrefl _ (hfp _ hm)
  have hSI : s.heap.objs.size ≠ I := fun e => hSf (e ▸ hI)
  unfold collect
  refine wpAny_bind (wpAny_runValue (codeAny_builtin F.entry_proto_collect ?_))
  rw [Around.under_plainId F.plain_proto_collect _]
  show wpAny _ A.in1 (newList [] >>= fun l => again (.builtin "list.__iadd__" ⟨[l, .ref I], []⟩)) _ _ s
  refine wpAny_bind (wpAny_newObj_type ?_)
  refine wpAny_pure ⟨plainId_quiet F.plain_list_iadd _, codeAny_builtin F.entry_list_iadd ?_⟩
  rw [Around.under_plainId F.plain_list_iadd _]
  have hst₁ := W.frame 0 s (s.heap.push { cls := .type "list", data := .seq ([] : List Value).toArray }) s.toks hst (Nat.le_refl _) fun b _ o e => Heap.get?_push_of_some _ e
  have hS₁ : (s.heap.push { cls := .type "list", data := .seq ([] : List Value).toArray }).get? s.heap.objs.size = some { cls := .type "list", data := .seq ([] : List Value).toArray } := Heap.get?_push_size _ rfl
  have h1 : Builtin.List.listSameRef (.ref s.heap.objs.size) (.ref I) = false := by simp [Builtin.List.listSameRef, hSI]
  show wpAny _ A.in1 (Builtin.List.listExtendWith (.ref s.heap.objs.size) (.ref I) (.ref s.heap.objs.size)) _ _ _
  unfold Builtin.List.listExtendWith
  refine wpAny_bind (wpAny_typeOf (hT 0 _ hst₁) ?_)
  rw [if_neg (by rw [h1]; decide)]
  refine wpAny_bind (W.self 0 _ _ _ hst₁ ?_)
  refine wpAny_bind (wpAny_holding ?_)
  unfold Builtin.List.listLengthHint
  refine wpAny_bind (wpAny_specialOf (hT 0 _ hst₁) nolenDV ?_)
  show wpAny _ A.in1 (specialOf (Value.ref I) (Str.ofString "__length_hint__") >>= _) _ _ _
  refine wpAny_bind (wpAny_specialOf (hT 0 _ hst₁) hintDV ?_)
  generalize hid : ("dict_valueiterator.__length_hint__" : String) = id0
  wp_delta
  rw [show splitId id0 = some ("dict_valueiterator", "__length_hint__") from by subst hid; decide +kernel]
  subst hid
  refine wpAny_bind (wpAny_isInstance (b := true) (hT 0 _ hst₁) (by rw [isSubtype_type]; kernel_rfl) ?_)
  refine wpAny_pure ?_
  rw [if_neg (by decide)]
  refine wpAny_pure ⟨plainId_quiet F.plain_extend_loop _, codeAny_extend_loopS W hn _ hSf _ n 0 _ _ _ rfl (Nat.zero_le _) hst₁ hS₁ (ItemsOf.nil P) fun s' acc' c' hm hS' hacc => ?_⟩
  show wpAny _ A (load s.heap.objs.size >>= _) _ _ s'
  refine wpAny_bind (wpAny_load hS' ?_)
  exact wpAny_pure (hQ s' acc' (Moved.drop_new (o := { cls := .type "list", data := .seq ([] : List Value).toArray }) (tk := s.toks) hm (Nat.le_refl _)) hacc)
end
end PySem
namespace PySem
open Builtin Builtin.Str Builtin.Int PyProof.Rows
section
variable {prog : Program} {w : World} {A : Around} {E : Value → Shared → Prop} {s : Shared}
theorem joinDV {κ : Type} [DecidableEq κ] {knd : KeyKind prog w κ} {v d : Addr} {kvs : List (κ × Value)} {ep : Nat} {x : Str} {t : Tok} {ys : List Str} {Q : Value → Shared → Prop} (hh : A.handled = none) (hv : s.heap.IsValuesView v d) (hm : s.heap.DictAt knd d kvs ep)
    (hP : StrsAre (kvs.map Prod.snd) ys) (hn : kvs.length ≤ sizeLine) (hok : (ys.map (·.length)).sum + ys.length * x.length ≤ 16777216)
    (hq : ∀ h' t' k, (∀ b o, s.heap.get? b = some o → h'.get? b = some o) → Q (.str (Txt.join x ys) t') { s with heap := h', toks := k }) :
    wpAny (model prog w) A (call (.builtin "str.join") [.str x t, .ref v]) Q E s := by
  refine wpAny_call (codeAny_call_builtin F.slot_str_join.plain F.entry_str_join (F.slot_str_join.check _ _ _ _ _ _ _ _ (typeIs_str _ _ _) (F.args_str_join_2 _ _) ?_))
  rw [join_tree_other]
  refine wpAny_bind (wpAny_typeOf hv.typeIs ?_)
  show wpAny _ A.in1 ((pyIter (.ref v)).tryCatch _ >>= fun it => collect it >>= fun items => joinTail x items) _ _ s
  refine wpAny_bind (wpAny_tryCatch (wpAny_pyIter_values hv hm ?_))
  have hlt : d < s.heap.objs.size := by
    obtain ⟨o, _, ho, _⟩ := hm
    exact Heap.lt_size ho
  have hM := hm.push (o := { cls := .type "dict_valueiterator", data := .fields #[.ref d, .int 0 0, .int kvs.length 0, .int ep 0] })
  refine wpAny_bind (collectDV (Walks.dictValues (knd := knd) (A := A.in1.in1) hh s.heap.objs.size d (Nat.ne_of_lt hlt) kvs ep).toS (fun i s' st => ?_) ⟨⟨_, Heap.get?_push_size _ rfl, rfl, rfl⟩, hM⟩ (fun b hb => ?_) (by simp) (fun s' acc hmv hacc => ?_) hn)
  · obtain ⟨oi, e, c, _⟩ := st.1
    exact ⟨oi, e, c⟩
  · show b < (s.heap.push _).objs.size
    rw [Heap.size_push]
    rcases List.mem_cons.mp hb with e | hb
    · rw [e]
      exact Nat.lt_succ_self _
    · rw [List.mem_singleton.mp hb]
      exact Nat.lt_succ_of_lt hlt
  have hS : StrsAre acc.toList ys := by
    have e : acc.toList = kvs.map Prod.snd := by
      apply List.ext_getElem?
      intro i
      by_cases hi : i < kvs.length
      · have hi' : i < acc.size := by rw [hacc.1]; exact hi
        obtain ⟨k, hk⟩ := hacc.2 i acc[i] (Array.getElem?_eq_getElem hi')
        rw [List.getElem?_map, hk, Array.getElem?_toList, Array.getElem?_eq_getElem hi']
        rfl
      · rw [List.getElem?_eq_none (by rw [Array.length_toList, hacc.1]; omega), List.getElem?_eq_none (by rw [List.length_map]; omega)]
    rw [e]
    exact hP
  obtain ⟨l, hl, ht⟩ := strsAre_values hS
  subst ht
  rw [hl]
  have hok' := joinOk_of hok
  unfold JoinOk at hok'
  rw [Bool.not_eq_true'] at hok'
  have g : Gives (joinTail x (strValues l)) (joinMade x l) := by
    have g0 := gives_joinTail x l hok'
    cases l with
    | nil => exact g0
    | cons p r => cases r with
      | nil => exact g0
      | cons q r' => exact g0
  refine g prog w A (wants Q E) s' (post_join l ⟨joinFit_length hok', fun t' k => ?_⟩)
  rw [Moved.eq_with hmv]
  refine hq s'.heap t' k fun b o e => hmv.heap b o (fun hI => absurd (Heap.lt_size e) (by rw [List.mem_singleton.mp hI]; exact Nat.lt_irrefl _)) (Heap.get?_push_of_some _ e)
end
end PySem

namespace Tb
open PySem PySem.Spec PyProof.Rows L2 TL
def valsO (p d : Addr) : HO := .ext fun h => h.IsValuesView p d
theorem valsO_ok {P : Program} {w : World} {H : Hp} {h : Heap} {p d : Addr} (e : h.get? p = some { cls := .type "dict_values", data := .fields #[.ref d] }) : ObjOk P w H h p (valsO p d) :=
  ⟨⟨_, e, rfl, rfl⟩, ⟨_, e⟩, fun h1 h2 x k => let ⟨o, ho, r⟩ := x; ⟨o, k o ho, r⟩⟩
section
variable {X : Cx}
def rVals : V → List V → Hp → VK → Prop := fun x xs H Q => ∃ (a : Addr) (kvs : List (Key × V)), x = .ref a ∧ xs = [] ∧ H a = some (.dK kvs) ∧ ∀ p, H p = none → Q (.ref p) (upd H p (valsO p a))
theorem mt_vals : MtR X "dict.values" rVals := by
  intro pins s σ H x xs v us Q I rx rxs h
  obtain ⟨a, kvs, rfl, rfl, ha, q⟩ := h
  cases rx
  cases rxs
  obtain ⟨_, hsys, vs, rel, dof⟩ := dk_of I.hok ha
  obtain ⟨ep, dat⟩ := dof.dictAt
  obtain ⟨ob, es, ho, ex, hdat, hko, hpr, hnd⟩ := id dat
  refine call_meetsIn PySem.F.slot_dict_values ⟨ob, ho, ex.1⟩ PySem.F.entry_dict_values (PySem.F.args_dict_values_1 _) (meets_dict_values (mixKind X.prog X.w) a hsys) ⟨⟨vs, dof⟩, ?_⟩
  exact ⟨.ref s.heap.objs.size, upd H s.heap.objs.size (valsO s.heap.objs.size a), I.laid (t' := s.toks) (fun b u e => Heap.get?_push_of_some _ e) (Nat.le_refl _) (valsO_ok (Heap.get?_push_size _ rfl)), rfl, q _ (I.hok.fresh (Nat.le_refl _))⟩
def rJoinV : V → List V → Hp → VK → Prop := fun x xs H Q => ∃ (a : Str) (p d : Addr) (kvs : List (Key × V)) (ys : List Str), x = .str a ∧ xs = [.ref p] ∧ H p = some (valsO p d) ∧ H d = some (.dK kvs) ∧ kvs.map Prod.snd = ys.map V.str ∧ (ys.map (·.length)).sum + ys.length * a.length ≤ 16777216 ∧ Q (.str (Txt.join a ys)) H
theorem mt_joinV (hc : X.calm = true) : MtR X "str.join" rJoinV := by
  intro pins s σ H x xs v us Q I rx rxs h
  obtain ⟨a, p, d, kvs, ys, rfl, rfl, hp, hd, hy, hz, q⟩ := h
  obtain ⟨t, rfl⟩ := rx
  obtain ⟨u, rfl, r⟩ := vals1 rxs
  cases (show u = Value.ref p from r)
  have hv : s.heap.IsValuesView p d := (show ObjOk X.prog X.w H s.heap p (valsO p d) from I.hok p _ hp).1
  obtain ⟨hl, hsys, vs, rel, dof⟩ := dk_of I.hok hd
  obtain ⟨ep, dat⟩ := dof.dictAt
  have hlen : kvs.length = vs.length := KV.length rel
  have hS : StrsAre (vs.map Prod.snd) ys := strs_at (by
      have e1 := congrArg List.length hy
      rw [List.length_map, List.length_map] at e1
      rw [List.length_map, ← hlen, e1]) fun j v e => by
    rw [List.getElem?_map] at e
    obtain ⟨⟨k, v'⟩, hk, e'⟩ := Option.map_eq_some_iff.mp e
    have e'' : v' = v := e'
    subst e''
    obtain ⟨x, h1, h2⟩ := KV.at' rel hk
    have e1 : (kvs.map Prod.snd)[j]? = some x := by rw [List.getElem?_map, h1] <;> rfl
    rw [hy, List.getElem?_map] at e1
    obtain ⟨y, hj, e2⟩ := Option.map_eq_some_iff.mp e1
    subst e2
    obtain ⟨t, e3⟩ := h2
    exact ⟨y, t, hj, e3⟩
  refine joinDV (I.ok.hd hc) hv dat hS (by omega) hz fun h' t' k hk => ?_
  exact ⟨.str _, H, I.kept (t' := k) hk, ⟨t', rfl⟩, q⟩
/-- sep.join(d.values()) -/
def tJoinV (ts td : TE) : TE := fun σ H Q => ts σ H fun x H1 => ∃ a : Str, x = .str a ∧ td σ H1 fun y H2 => ∃ (d : Addr) (kvs : List (Key × V)) (ys : List Str), y = .ref d ∧ H2 d = some (.dK kvs) ∧ kvs.map Prod.snd = ys.map V.str ∧ (ys.map (·.length)).sum + ys.length * a.length ≤ 16777216 ∧ ∀ H', Same H2 H' → Q (.str (Txt.join a ys)) H'
theorem pe_joinV {o e : Expr} {to te : TE} {apos pos ap2 p2 : Pos} (hc : X.calm = true) (ho : PE X o to) (he : PE X e te) (hs : starEach [Expr.Call (.Attribute e "values" ap2) [] [] p2] X.env = [(false, eval (Expr.Call (.Attribute e "values" ap2) [] [] p2) X.env)] := by rfl) (hbase : attributeBase o "join" X.env (eval o X.env) = eval o X.env := by rfl) (hline : (apos.endLine == pos.line) = true := by rfl)
    (hbase2 : attributeBase e "values" X.env (eval e X.env) = eval e X.env := by rfl) (hline2 : (ap2.endLine == p2.line) = true := by rfl) :
    PE X (.Call (.Attribute o "join" apos) [.Call (.Attribute e "values" ap2) [] [] p2] [] pos) (tJoinV to te) :=
  PE.weak (pe_m1 PySem.F.slot_str_join PySem.F.type_str_join (mt_joinV hc) (PE.mono ho) (pe_bm0 PySem.F.plainAttrs_dict PySem.F.slot_dict_values PySem.F.type_dict_values mt_vals (PE.mono he) hbase2 hline2) hs hbase hline) fun σ H Q z => by
    refine ⟨_, z, fun x H1 ⟨a, ex, z1⟩ => ⟨⟨a, ex⟩, _, z1, fun y H2 ⟨d, kvs, ys, ey, hd, hv, hz, q⟩ => ?_⟩⟩
    subst ex ey
    have ht : tyV X.K "dict" (.ref d) H2 := .inr (.inr (.inl ⟨rfl, .inl ⟨kvs, hd⟩⟩))
    refine ⟨ht, d, kvs, rfl, rfl, hd, fun p np => ?_⟩
    have npd : d ≠ p := ne_of_none hd np
    exact ⟨a, p, d, kvs, ys, rfl, rfl, upd_same, by rw [upd_ne npd]; exact hd, hv, hz, q _ (same_upd np)⟩
end
end Tb

set_option Elab.async false
set_option linter.all false
set_option maxRecDepth 100000
set_option maxHeartbeats 2000000
/-! list(d.values()); a != b of two lists of equal plain things -/
namespace Tb
open PySem PySem.Spec PyProof.Rows L2 TL
section
variable {X : Cx}
def rListV : List V → Hp → VK → Prop := fun xs H Q => ∃ p d kvs, xs = [.ref p] ∧ H p = some (valsO p d) ∧ H d = some (.dK kvs) ∧ ∀ q, H q = none → Q (.ref q) (upd H q (.lst (kvs.map Prod.snd)))
theorem call_listV (hc : X.calm = true) : CallR X (.type "list") rListV := by
  intro pins s σ H xs us Q I r h
  obtain ⟨p, d, kvs, e, hp, hk, q⟩ := h
  subst e
  obtain ⟨u, eu, rx⟩ := vals1 r
  subst eu
  obtain rfl : u = Value.ref p := rx
  have hv : s.heap.IsValuesView p d := (show ObjOk X.prog X.w H s.heap p (valsO p d) from I.hok p _ hp).1
  obtain ⟨z, lo, vs, rk, hd⟩ := (show ObjOk X.prog X.w H s.heap d (.dK kvs) from I.hok d _ hk)
  obtain ⟨ep, hat⟩ := hd.dictAt
  have hl : kvs.length = vs.length := Paired.length rk
  refine PySem.W.kdl_call (PySem.W.kdl_values (knd := mixKind X.prog X.w) (kvs := vs) (ep := ep)) (I.ok.hd hc) ⟨hv, hat⟩ (by rw [← hl]; exact z) fun h' tk acc' c' hkeep hS hacc => ?_
  refine ⟨.ref s.heap.objs.size, upd H s.heap.objs.size (.lst (kvs.map Prod.snd)), I.laid hkeep (Nat.le_refl _) (show ObjOk X.prog X.w _ _ _ (.lst (kvs.map Prod.snd)) from ⟨?_, acc'.toList, c', ?_, ?_⟩), rfl, q _ (I.hok.fresh (Nat.le_refl _))⟩
  · rw [List.length_map]; exact z
  · have el : acc'.toList.length = acc'.size := by simp
    refine vals_of_at (by rw [List.length_map, el, hacc.1, hl]) fun j x w h1 h2 => ?_
    obtain ⟨k, hky⟩ := hacc.2 j w (by rw [← Array.getElem?_toList]; exact h2)
    obtain ⟨x', h3, h4⟩ := KV.at' rk hky
    rw [List.getElem?_map, h3] at h1
    cases h1
    exact h4
  · rw [Array.toArray_toList]; exact hS
/-- xs != ys: of equal plain things -/
def rNeSame (K : PySem.W.Frag) : R2 := fun x y H Q => ∃ a b xs, x = .ref a ∧ y = .ref b ∧ SqL K H a xs ∧ SqL K H b xs ∧ xs.all flatB = true ∧ Q (.bl false) H
theorem op_neSame (hu : X.A.units + 1 < cLine) : OpR X (compareOp .NotEq) (rNeSame X.K) := by
  intro pins s σ H x y v u Q I rx ry h
  obtain ⟨a, b, xs, rfl, rfl, ha, hb, hf, q⟩ := h
  cases (show v = Value.ref a from rx)
  cases (show u = Value.ref b from ry)
  obtain ⟨us, r1, p1, _⟩ := I.list ha
  obtain ⟨ws, r2, p2, _⟩ := I.list hb
  have hsz : us.toArray.size = ws.toArray.size := by
    rw [List.size_toArray, List.size_toArray, ← r1.length, ← r2.length]
  refine SeqAt.RcNeAt.lists (A := X.A) (s := s) (e := fun _ => true) p1.isList p2.isList hsz (by omega) (fun j h1 h2 => ?_) X.prog X.w _ _ ⟨.bl false, H, I, ?_, q⟩
  · rw [List.size_toArray] at h1 h2
    have hj : j < xs.length := by rw [r1.length]; exact h1
    obtain ⟨u1, e1, q1⟩ := r1.get (List.getElem?_eq_getElem hj)
    obtain ⟨u2, e2, q2⟩ := r2.get (List.getElem?_eq_getElem hj)
    rw [List.getElem?_eq_getElem h1] at e1
    rw [List.getElem?_eq_getElem h2] at e2
    have z1 := Option.some.inj e1
    have z2 := Option.some.inj e2
    simp only [List.getElem_toArray]
    rw [z1, z2]
    exact eqAt_same q1 q2 (List.all_eq_true.mp hf _ (List.getElem_mem hj))
  · rw [show (List.range us.toArray.size).all (fun _ => true) = true from List.all_eq_true.mpr fun _ _ => rfl]
    rfl
end
end Tb

set_option Elab.async false
set_option linter.all false
set_option maxRecDepth 100000
set_option maxHeartbeats 4000000
namespace Tb
open PySem PySem.Spec PySem.Builtin PySem.Builtin.Str PyProof.Rows L2
section
variable {X : Cx} {x : Str} {c : Nat}
/-! operations that give out tokens alone -/
theorem opk_gt : OpK X (compareOp .Gt) (fun a b H Q => ∃ i j, a = .int i ∧ b = .int j ∧ Q (.bl (decide (i > j))) H) := by
  rintro pins s σ H a b v u Q I ra rb ⟨i, j, rfl, rfl, q⟩
  obtain ⟨t, rfl⟩ := ra
  obtain ⟨t', rfl⟩ := rb
  exact gt_int ⟨Kept.refl X s, .bl _, H, I, rfl, q⟩
theorem opk_lt : OpK X (compareOp .Lt) (fun a b H Q => ∃ i j, a = .int i ∧ b = .int j ∧ Q (.bl (decide (i < j))) H) := by
  rintro pins s σ H a b v u Q I ra rb ⟨i, j, rfl, rfl, q⟩
  obtain ⟨t, rfl⟩ := ra
  obtain ⟨t', rfl⟩ := rb
  exact lt_int ⟨Kept.refl X s, .bl _, H, I, rfl, q⟩
theorem opk_addI : OpK X (binaryOp .Add) (fun a b H Q => ∃ i j, a = .int i ∧ b = .int j ∧ Q (.int (i + j)) H) := by
  rintro pins s σ H a b v u Q I ra rb ⟨i, j, rfl, rfl, q⟩
  obtain ⟨t, rfl⟩ := ra
  obtain ⟨t', rfl⟩ := rb
  exact add_int (epT (Q := Q) I (v := .int (i + j)) ⟨_, rfl⟩ q _)
theorem opk_addS : OpK X (binaryOp .Add) (fun a b H Q => ∃ i j, a = .str i ∧ b = .str j ∧ i.length + j.length ≤ sizeLine ∧ Q (.str (i ++ j)) H) := by
  rintro pins s σ H a b v u Q I ra rb ⟨i, j, rfl, rfl, l, q⟩
  obtain ⟨t, rfl⟩ := ra
  obtain ⟨t', rfl⟩ := rb
  exact PyProof.Rows.add_str (fun t' k => epT (Q := Q) I (v := .str (i ++ j)) ⟨t', rfl⟩ q k) l
theorem opk_mulS : OpK X (binaryOp .Mult) (fun a b H Q => ∃ i j, a = .str i ∧ b = .int j ∧ MulOk i j ∧ Q (.str (Txt.mul i j)) H) := by
  rintro pins s σ H a b v u Q I ra rb ⟨i, j, rfl, rfl, ok, q⟩
  obtain ⟨t, rfl⟩ := ra
  obtain ⟨t', rfl⟩ := rb
  exact PySem.SB.mul ok fun t' k => epT (Q := Q) I (v := .str (Txt.mul i j)) ⟨t', rfl⟩ q k
theorem opk_eqS : OpK X (compareOp .Eq) (fun a b H Q => ∃ i j : Str, a = .str i ∧ b = .str j ∧ Q (.bl (i == j)) H) := by
  rintro pins s σ H a b v u Q I ra rb ⟨i, j, rfl, rfl, q⟩
  obtain ⟨t, rfl⟩ := ra
  obtain ⟨t', rfl⟩ := rb
  exact PyProof.Rows.eq_str ⟨Kept.refl X s, .bl _, H, I, rfl, q⟩
theorem opk_cat : OpK X (binaryOp .Add) rCatS := by
  rintro pins s σ H a b v u Q I ra rb ⟨l, k, xs, ys, zs, rfl, rfl, hl, hk, size, rfl, q⟩
  cases ra
  cases rb
  obtain ⟨_, us, n, r, g⟩ := I.hok l _ hl
  obtain ⟨_, ws, n', r', g'⟩ := I.hok k _ hk
  refine PySem.P.add_list g g' ?_ (by rw [List.size_toArray, List.size_toArray, ← r.length, ← r'.length]; exact size)
  rw [show us.toArray ++ ws.toArray = (us ++ ws).toArray by simp]
  have nD : H s.heap.objs.size = none := I.hok.fresh (Nat.le_refl _)
  have up : ∀ b o, s.heap.get? b = some o → (s.heap.push { cls := .type "list", data := .seq (us ++ ws).toArray }).get? b = some o := fun b o e => Heap.get?_push_of_some _ e
  refine ⟨Kept.all up, .ref s.heap.objs.size, _, I.laid (o := .lst (xs ++ ys)) (t' := s.toks) up (Nat.le_refl _) ⟨?_, us ++ ws, 0, r.append r', Heap.get?_push_size _ rfl⟩, rfl, q.at _ nD⟩
  rw [List.length_append]
  exact size
/-- != of two lists of the same plain things -/
theorem opk_neSame (hu : X.A.units + 1 < cLine) : OpK X (compareOp .NotEq) (rNeSame X.K) := by
  rintro pins s σ H a b v u Q I ra rb ⟨l, k, xs, rfl, rfl, hl, hk, flat, q⟩
  cases ra
  cases rb
  obtain ⟨us, r, p, _⟩ := I.list hl
  obtain ⟨ws, r', p', _⟩ := I.list hk
  have sz : us.toArray.size = ws.toArray.size := by rw [List.size_toArray, List.size_toArray, ← r.length, ← r'.length]
  have eqs : ∀ j (h1 : j < us.toArray.size) (h2 : j < ws.toArray.size), SeqAt.EqAt X.A.in1 s us.toArray[j] ws.toArray[j] true := by
    intro j h1 h2
    rw [List.size_toArray] at h1 h2
    have hj : j < xs.length := by rw [r.length]; exact h1
    obtain ⟨v1, g1, q1⟩ := r.get (List.getElem?_eq_getElem hj)
    obtain ⟨v2, g2, q2⟩ := r'.get (List.getElem?_eq_getElem hj)
    rw [List.getElem?_eq_getElem h1] at g1
    rw [List.getElem?_eq_getElem h2] at g2
    simp only [List.getElem_toArray]
    rw [Option.some.inj g1, Option.some.inj g2]
    exact eqAt_same q1 q2 (List.all_eq_true.mp flat _ (List.getElem_mem hj))
  refine SeqAt.RcNeAt.lists (A := X.A) (s := s) (e := fun _ => true) p.isList p'.isList sz (by omega) eqs X.prog X.w _ _ ⟨Kept.refl X s, .bl false, H, I, ?_, q⟩
  rw [show (List.range us.toArray.size).all (fun _ => true) = true from List.all_eq_true.mpr fun _ _ => rfl]
  rfl
/-! slices of texts -/
def cutBy (z : Str) (l u k : Option Int) : Str := if (k.getD 1 == 1 && (strSliceIndices l u (k.getD 1) z.length).length == z.length) = true then z else ⟨((strSliceIndices l u (k.getD 1) z.length).filterMap (z.cps[·]?)).toArray⟩
abbrev TP' := L2.St → Hp → (Option Int → Hp → Prop) → Prop
def PPK (X : Cx) (x : Str) (c : Nat) (o : Option Expr) (t : TP') : Prop := ∀ (pins : List (Addr × Obj)) (s : Shared) (σ : L2.St) (H : Hp) (Q : Option Int → Hp → Prop), KS X x c s → Inv X pins σ H s → t σ H Q →
  wpAny (model X.prog X.w) X.A (evalPart o X.env) (fun u s' => KS X x c s' ∧ ∃ (l : Option (Int × Tok)) (H' : Hp), u = partValue l ∧ Inv X pins σ H' s' ∧ Q (l.map (·.1)) H') X.xe s
theorem ppk_none : PPK X x c none (fun _ H Q => Q none H) := fun pins s σ H Q k I q => wpAny_pure ⟨k, none, H, rfl, I, q⟩
theorem ppk_some {e : Expr} {te : TE} (h : PEK X x c e te) : PPK X x c (some e) (fun σ H Q => te σ H fun v H' => ∃ i, v = .int i ∧ Q (some i) H') := by
  intro pins s σ H Q k I q
  refine thn (h pins s σ H _ k I q) ?_
  rintro u s1 ⟨k1, v, H1, I1, r1, i, rfl, q1⟩
  obtain ⟨t, rfl⟩ := r1
  exact ⟨k1, some (i, t), H1, rfl, I1, q1⟩
theorem pek_slc {e : Expr} {te : TE} {lo hi st : Option Expr} {tl th ts : TP'} {p3 pos : Pos} (he : PEK X x c e te) (hl : PPK X x c lo tl) (hh : PPK X x c hi th) (hs : PPK X x c st ts) (sub : ∀ (z : Str) (t : Tok) (a : Addr), subscripted (.Slice lo hi st p3) false (.str z t) (.ref a) = operate [.ref a, .str z t] (getItem (.str z t) (.ref a)) := by intro z t a; with_unfolding_all rfl) :
    PEK X x c (.Subscript e (.Slice lo hi st p3) pos) (fun σ H Q => te σ H fun v H1 => tl σ H1 fun l H2 => th σ H2 fun u H3 => ts σ H3 fun k H4 => ∃ z, v = .str z ∧ (k.getD 1 == 0) = false ∧ (cutBy z l u k).length ≤ sizeLine ∧ Q (.str (cutBy z l u k)) H4) := by
  intro pins s σ H Q k I q
  refine Subscript_ (thn (he pins s σ H _ k I q) ?_)
  rintro v s1 ⟨k1, y, H1, I1, r1, q1⟩
  refine wpAny_Slice (thn (hl pins s1 σ H1 _ k1 I1 q1) ?_)
  rintro vl s2 ⟨k2, l, H2, rfl, I2, q2⟩
  refine thn (hh pins s2 σ H2 _ k2 I2 q2) ?_
  rintro vh s3 ⟨k3, u, H3, rfl, I3, q3⟩
  refine thn (hs pins s3 σ H3 _ k3 I3 q3) ?_
  rintro vk s4 ⟨k4, n, H4, rfl, I4, z, rfl, n0, size, q4⟩
  obtain ⟨t, rfl⟩ := r1
  have up : ∀ b o, s4.heap.get? b = some o → (s4.heap.push { cls := .type "slice", data := .fields #[partValue l, partValue u, partValue n] }).get? b = some o := fun b o e => Heap.get?_push_of_some _ e
  show wpAny (model X.prog X.w) X.A (subscriptTail e (.Slice lo hi st p3) (.str z t) (.ref s4.heap.objs.size)) _ X.xe { s4 with heap := s4.heap.push { cls := .type "slice", data := .fields #[partValue l, partValue u, partValue n] } }
  refine tail_any (ops := [.ref s4.heap.objs.size, .str z t]) (typeIs_str _ _ _) F.slot_str_getitem.lookup ?_ (sub _ _ _)
  refine keepK (k4.keep (Nat.le_refl _) (Kept.all up)) (wpAny_getItem_str_slice (l := l) (u := u) (st := n) ⟨_, Heap.get?_push_size _ rfl, rfl, rfl⟩ n0 (post_val_or_str ⟨size, fun t' k => ⟨fun _ h => h, .str (cutBy z (l.map (·.1)) (u.map (·.1)) (n.map (·.1))), H4, (I4.kept (t' := k) up), ⟨t', rfl⟩, q4⟩⟩))
/-! methods of texts -/
def MtK (X : Cx) (id : String) (r : Str → V → Hp → VK → Prop) : Prop := ∀ (pins : List (Addr × Obj)) (s : Shared) (σ : L2.St) (H : Hp) (z : Str) (t : Tok) (b : V) (u : Value) (Q : VK), Inv X pins σ H s → RelV b u → r z b H Q →
  wpAny (model X.prog X.w) X.A (call (.builtin id) [.str z t, u]) (fun w s' => Kept X s s' ∧ EP X pins σ Q w s') X.xe s
theorem mtk_count : MtK X "str.count" (fun z b H Q => ∃ y, b = .str y ∧ Q (.int (Txt.count z y)) H) := by
  rintro pins s σ H z t b u Q I rb ⟨y, rfl, q⟩
  obtain ⟨t', rfl⟩ := rb
  exact PySem.SC.count (epT (Q := Q) I (v := .int (Txt.count z y)) ⟨_, rfl⟩ q _)
theorem mtk_find : MtK X "str.find" (fun z b H Q => ∃ y, b = .str y ∧ Q (.int (Txt.find z y)) H) := by
  rintro pins s σ H z t b u Q I rb ⟨y, rfl, q⟩
  obtain ⟨t', rfl⟩ := rb
  exact PySem.SC.find (epT (Q := Q) I (v := .int (Txt.find z y)) ⟨_, rfl⟩ q _)
theorem pek_m1 {o e : Expr} {to te : TE} {id : String} {name : Str} {apos pos : Pos} {r : Str → V → Hp → VK → Prop} (slot : Slot "str" name id) (ty : typeOf (.builtin id) = pure (.type "method_descriptor")) (rule : MtK X id r) (ho : PEK X x c o to) (he : PEK X x c e te)
    (st : starEach [e] X.env = [(false, eval e X.env)] := by rfl) (base : attributeBase o name X.env (eval o X.env) = eval o X.env := by rfl) (line : (apos.endLine == pos.line) = true := by rfl) :
    PEK X x c (.Call (.Attribute o name apos) [e] [] pos) (fun σ H Q => to σ H fun v H1 => ∃ z, v = .str z ∧ te σ H1 fun b H2 => r z b H2 Q) := by
  intro pins s σ H Q k I q
  refine PySem.Call_method1 base st line (thn (ho pins s σ H _ k I q) ?_)
  rintro v s1 ⟨k1, y, H1, I1, r1, z, rfl, q1⟩
  obtain ⟨t, rfl⟩ := r1
  refine ⟨"str", _, F.plainAttrs_str, slot, ty, typeIs_str _ _ _, (fun _ e => nomatch e), Calls.callWith_builtin rfl (Calls.evalArgs_plain (Calls.spliced_cons (thn (he pins s1 σ H1 _ k1 I1 q1) ?_)))⟩
  rintro u s2 ⟨k2, b, H2, I2, r2, q2⟩
  exact Calls.spliced_nil (keepK k2 (rule pins s2 σ H2 z t b u Q I2 r2 q2))
/-- text.replace(x, ""), x's token known -/
theorem pek_replace {o : Expr} {to : TE} {apos p11 p12 pos : Pos} {j : Nat} (hk : X.env.scope.names.lookup x = some .local) (ho : PEK X x c o to)
    (st : starEach [.Name x p11, .Constant (.str Str.empty) j p12] X.env = [(false, eval (.Name x p11) X.env), (false, eval (.Constant (.str Str.empty) j p12) X.env)] := by rfl) (base : attributeBase o "replace" X.env (eval o X.env) = eval o X.env := by rfl) (line : (apos.endLine == pos.line) = true := by rfl)
    (d1 : (x == ("__debug__" : Str)) = false := by decide) :
    PEK X x c (.Call (.Attribute o "replace" apos) [.Name x p11, .Constant (.str Str.empty) j p12] [] pos) (fun σ H Q => to σ H fun v H1 => ∃ z, v = .str z ∧ z.length ≤ 16777216 ∧ Q (.str (Txt.replace z ⟨#[c]⟩ Str.empty)) H1) := by
  intro pins s σ H Q k I q
  refine PySem.Call_method2 base st line (thn (ho pins s σ H _ k I q) ?_)
  rintro v s1 ⟨k1, y, H1, I1, r1, z, rfl, lz, q1⟩
  obtain ⟨t, rfl⟩ := r1
  obtain ⟨u, m, u1, u2, hn, hm⟩ := id k1
  refine ⟨"str", _, F.plainAttrs_str, F.slot_str_replace, F.type_str_replace, typeIs_str _ _ _, (fun _ e => nomatch e), Calls.callWith_builtin rfl (Calls.evalArgs_plain (Calls.spliced_cons (wpAny_Name (wpAny_loadName_local I1.ok.kind hk hn hm ?_) d1)))⟩
  refine Calls.spliced_cons (Calls.Constant_str (Calls.spliced_nil ?_))
  have k2 : KS X x c { s1 with toks := s1.toks + 1 } := k1.keep (Nat.le_succ _) fun _ h => h
  refine keepK k2 (PySem.SC.replace (Nat.ne_of_gt u1) (Nat.ne_of_gt (Nat.lt_of_lt_of_le u1 (Nat.le_of_lt u2))) (Nat.ne_of_lt u2) rfl (by rw [show Str.empty.length = 0 from rfl]; omega) fun t' n => ?_)
  exact ⟨fun _ h => h, .str (Txt.replace z ⟨#[c]⟩ Str.empty), H1, (I1.tok _).tok _, ⟨t', rfl⟩, q1⟩
end
end Tb

set_option Elab.async false
set_option linter.all false
set_option maxRecDepth 100000
set_option maxHeartbeats 4000000
namespace Tb
open PySem PySem.Spec PySem.Builtin PySem.Builtin.Str PyProof.Rows L2
theorem ns_inj {h : Heap} {a : Addr} {m m' : Str → Option Value} (x : h.Ns a m) (y : h.Ns a m') : m = m' := by
  obtain ⟨o, es, ep, ho, hd, _, hm⟩ := x
  obtain ⟨o', es', ep', ho', hd', _, hm'⟩ := y
  rw [ho] at ho'
  cases ho'
  rw [hd] at hd'
  cases hd'
  exact funext fun z => (hm z).symm.trans (hm' z)
section
variable {X : Cx} {pins : List (Addr × Obj)} {σ : L2.St} {H : Hp} {s : Shared}
/-- a name's store: the value is the very same, the other names are as they were -/
theorem store_okX {M : Model} {A : Around} {E : Value → Shared → Prop} {i : Nat} {x : Str} {v : V} {u : Value} {Q : Unit → Shared → Prop} (I : Inv X pins σ H s) (hN : X.N.Nodup) (hi : X.N[i]? = some x) (hk : X.env.scope.names.lookup x = some .local) (r : RelV v u)
    (h : ∀ s' m, Inv X pins (σ.set i (some v)) H s' → s'.heap.Ns X.env.locals m → m x = some u → s'.toks = s.toks + 1 → (∀ m0, s.heap.Ns X.env.locals m0 → ∀ z, z ≠ x → m z = m0 z) → Q () s') : wpAny M A (storeName X.env x u) Q E s := by
  obtain ⟨m, hn, hl⟩ := id I.loc
  have hcls : (X.env.scope.kind == .class || (X.env.scope.kind == .module && X.env.locals != X.env.globals)) = false := by rw [I.ok.kind]; rfl
  have hiσ : i < σ.length := by rw [I.len]; exact (List.getElem?_eq_some_iff.mp hi).1
  have cne := I.cne
  refine wpAny_storeName_local hk hn (fun h' hn' hs => ?_) hcls
  obtain ⟨oL, _, _, hoL, _⟩ := id hn
  have tracked : HOk X.prog X.w H h' := fun b ob e => by
    refine (I.hok b ob e).stay (fun c w' hc q => (hs.2 c ?_).trans q) (fun _ q => q) fun _ _ q => q
    rintro rfl
    rcases hc with rfl | hc
    · rw [I.free] at e; cases e
    · rw [I.free] at hc; cases hc
  refine h _ _ ⟨I.ok, I.os, I.bare, ⟨fun b o e n hb hx => ?_, fun b o e n hb hx => ?_, I.base.free, fun b o e hx => ?_, I.base.tups, I.base.frzs, I.base.tbls⟩, ⟨_, hn', fun j y v' e1 e2 e3 => ?_⟩, fun y c e => ?_, I.free, I.freeC, fun p hp => ?_, tracked, by simpa using I.len⟩ hn' (by simp) rfl (fun m0 h0 z hz => by rw [if_neg hz, ns_inj hn h0])
  · exact (hs.2 b (Nat.ne_of_lt (Nat.lt_of_lt_of_le (Heap.lt_size e) I.ok.above))).trans (I.base.keep b o e n hb hx)
  · obtain ⟨sl, e1⟩ := I.base.slot b o e n hb hx
    exact ⟨sl, (hs.2 b (Nat.ne_of_lt (Nat.lt_of_lt_of_le (Heap.lt_size e) I.ok.above))).trans e1⟩
  · obtain ⟨o', e1⟩ := I.base.there b o e hx
    exact ⟨o', (hs.2 b (Nat.ne_of_lt (Nat.lt_of_lt_of_le (Heap.lt_size e) I.ok.above))).trans e1⟩
  · by_cases hj : j = i
    · subst hj
      rw [hi] at e1; cases e1
      rw [List.getElem?_set_self hiσ] at e2
      cases e2
      exact ⟨u, r, .inl ⟨hk, by simp⟩⟩
    · rw [List.getElem?_set_ne (Ne.symm hj)] at e2
      obtain ⟨u', r', q⟩ := hl j y v' e1 e2 e3
      refine ⟨u', r', ?_⟩
      rcases q with ⟨k, e⟩ | ⟨k, c, e, z⟩
      · refine .inl ⟨k, ?_⟩
        have : y ≠ x := fun e => hj (nodup_ix hN e1 (e ▸ hi))
        simp [this, e]
      · exact .inr ⟨k, c, e, z.sameBut hs (cne y c e)⟩
  · obtain ⟨w', z⟩ := I.cell y c e
    exact ⟨w', z.sameBut hs (cne y c e)⟩
  · obtain ⟨e, n, ne, nf, d⟩ := I.pin p hp
    exact ⟨(hs.2 p.1 ne).trans e, n, ne, nf, d⟩
end
section
variable {X : Cx} {x : Str} {c : Nat} {e a b : Expr} {es : List Expr} {te ta tb : TE} {t u : TS} {tt : TT} {pos : Pos} {st : Stmt} {rest : List Stmt}
theorem pssk_nil : PSsK X x c [] tNext := fun _ _ σ H _ k I q => wpAny_execs_nil ⟨k, σ, H, I, q⟩
theorem pssk_cons (h1 : PSK X x c st t) (h2 : PSsK X x c rest u) : PSsK X x c (st :: rest) (tSeq t u) := by
  intro pins s σ H D k I q
  refine wpAny_execs_cons (thn (h1 pins s σ H { D with nx := u D } k I q) ?_)
  rintro f s1 ⟨k1, q1⟩
  match f, q1 with
  | .next, ⟨σ', H', I', q'⟩ => exact h2 pins s1 σ' H' D k1 I' q'
  | .ret v, q1 => exact ⟨k1, q1⟩
  | .brk, q1 => exact ⟨k1, q1⟩
  | .cont, q1 => exact ⟨k1, q1⟩
theorem pssk_one (h1 : PSK X x c st t) : PSsK X x c [st] t := by
  intro pins s σ H D k I q
  refine wpAny_execs_cons (thn (h1 pins s σ H D k I q) ?_)
  rintro f s1 ⟨k1, q1⟩
  match f, q1 with
  | .next, q1 => exact wpAny_execs_nil ⟨k1, q1⟩
  | .ret v, q1 => exact ⟨k1, q1⟩
  | .brk, q1 => exact ⟨k1, q1⟩
  | .cont, q1 => exact ⟨k1, q1⟩
theorem psk_ret (he : PEK X x c e te) : PSK X x c (.Return (some e) pos) (tRet te) := by
  intro pins s σ H D k I q
  refine wpAny_Return_some (thn (he pins s σ H _ k I q) ?_)
  rintro v s1 ⟨k1, y, H1, I1, r1, q1⟩
  exact ⟨k1, y, σ, H1, I1, r1, q1⟩
theorem psk_if {d : Expr} {xs ys : List Stmt} (hd : PTK X x c d tt) (ha : PSsK X x c xs t) (hb : PSsK X x c ys u) : PSK X x c (.If d xs ys pos) (tIfS tt t u) := by
  intro pins s σ H D k I q
  refine wpAny_If (thn (hd pins s σ H _ k I q) ?_)
  rintro yes s1 ⟨k1, H1, I1, q1⟩
  cases yes
  · exact hb pins s1 σ H1 D k1 I1 q1
  · exact ha pins s1 σ H1 D k1 I1 q1
theorem psk_expr (he : PEK X x c e te) (hs : swapsWith e none pos.line X.env = pure false := by rfl) : PSK X x c (.Expr e pos) (tDrop te) := by
  intro pins s σ H D k I q
  refine wpAny_Expr_any (thn (he pins s σ H _ k I q) ?_) I.quiet hs
  rintro v s1 ⟨k1, y, H1, I1, r1, q1⟩
  exact ⟨k1, σ, H1, I1, q1⟩
/-- y = e, y another local name -/
theorem psk_set {i : Nat} {y : Str} {pos' : Pos} (hN : X.N.Nodup) (hi : X.N[i]? = some y) (hk : X.env.scope.names.lookup y = some .local) (ne : x ≠ y) (he : PEK X x c e te) (hs : swapsWith e (some (.Name y pos')) pos.line X.env = pure false := by rfl) : PSK X x c (.Assign [.Name y pos'] e pos) (tAsg te (gName i)) := by
  intro pins s σ H D k I q
  refine wpAny_Assign_Name (thn (he pins s σ H _ k I q) ?_) hs
  rintro v s1 ⟨⟨w, m, w1, w2, hn, hm⟩, z, H1, I1, r1, q1⟩
  refine store_okX I1 hN hi hk r1 fun s2 m2 I2 n2 _ t2 old => ?_
  exact ⟨⟨w, m2, w1, by rw [t2]; exact Nat.lt_succ_of_lt w2, n2, by rw [old m hn x ne]; exact hm⟩, _, H1, I2, q1⟩
/-- y = e, y a name that is captured -/
theorem psk_setC {i : Nat} {y : Str} {pos' : Pos} (hN : X.N.Nodup) (hi : X.N[i]? = some y) (hk : X.env.scope.names.lookup y = some .cell) (hf : X.fn y = true) (he : PEK X x c e te) (hs : swapsWith e (some (.Name y pos')) pos.line X.env = pure false := by rfl) : PSK X x c (.Assign [.Name y pos'] e pos) (tAsg te (gName i)) := by
  intro pins s σ H D k I q
  refine wpAny_Assign_Name (thn (he pins s σ H _ k I q) ?_) hs
  rintro v s1 ⟨k1, z, H1, I1, r1, q1⟩
  obtain ⟨cell, hc⟩ := I1.ok.has y (.inl hk)
  obtain ⟨w0, isC⟩ := I1.cell y cell hc
  have ne : cell ≠ X.env.locals := I1.cne y cell hc
  refine wpAny_storeName_cell I1.ok.kind hk hc isC fun h' isC' sb => ?_
  have kept : Kept X s1 { s1 with heap := h' } := Kept.but sb ne
  refine ⟨k1.keep (Nat.le_refl _) kept, _, H1, ?_, q1⟩
  obtain ⟨oc, hoc, dc⟩ := id isC
  have young : X.s_0.heap.objs.size ≤ cell := I1.ok.cab y cell hf hc
  have old : ∀ b o, X.s_0.heap.get? b = some o → b ≠ cell := fun b o e => Nat.ne_of_lt (Nat.lt_of_lt_of_le (Heap.lt_size e) young)
  have nH : H1 cell = none := I1.freeC y cell hc
  have other : ∀ z d, X.env.cells.lookup z = some d → z ≠ y → d ≠ cell := fun z d hd hz e => hz (I1.ok.inj z y cell (e ▸ hd) hc)
  obtain ⟨m, hn, hl⟩ := id I1.loc
  refine ⟨I1.ok, I1.os, I1.bare, ⟨fun b o e n hb hx => ?_, fun b o e n hb hx => ?_, I1.base.free, fun b o e hx => ?_, I1.base.tups, I1.base.frzs, I1.base.tbls⟩, ⟨m, kept m hn, fun j z v' e1 e2 e3 => ?_⟩, fun z d hd => ?_, I1.free, I1.freeC, fun p hp => ?_, ?_, by simpa using I1.len⟩
  · exact (sb.2 b (old b o e)).trans (I1.base.keep b o e n hb hx)
  · obtain ⟨sl, g⟩ := I1.base.slot b o e n hb hx
    exact ⟨sl, (sb.2 b (old b o e)).trans g⟩
  · obtain ⟨o', g⟩ := I1.base.there b o e hx
    exact ⟨o', (sb.2 b (old b o e)).trans g⟩
  · by_cases hj : j = i
    · subst hj
      rw [hi] at e1
      cases e1
      rw [List.getElem?_set_self (by rw [I1.len]; exact (List.getElem?_eq_some_iff.mp hi).1)] at e2
      cases e2
      exact ⟨v, r1, .inr ⟨.inl hk, cell, hc, isC'⟩⟩
    · rw [List.getElem?_set_ne (Ne.symm hj)] at e2
      obtain ⟨u', r', q⟩ := hl j z v' e1 e2 e3
      have hz : z ≠ y := fun e => hj (nodup_ix hN e1 (e ▸ hi))
      refine ⟨u', r', q.imp id fun ⟨kd, d, hd, g⟩ => ⟨kd, d, hd, ?_⟩⟩
      obtain ⟨o, ho, dd⟩ := g
      exact ⟨o, (sb.2 d (other z d hd hz)).trans ho, dd⟩
  · by_cases hz : z = y
    · subst hz
      rw [hc] at hd
      cases hd
      exact ⟨_, isC'⟩
    · obtain ⟨w', o, ho, dd⟩ := I1.cell z d hd
      exact ⟨w', o, (sb.2 d (other z d hd hz)).trans ho, dd⟩
  · obtain ⟨e, n, nl, nf, d⟩ := I1.pin p hp
    refine ⟨(sb.2 p.1 fun z => ?_).trans e, n, nl, nf, d⟩
    rw [z, hoc] at e
    exact d w0 (by rw [← Option.some.inj e]; exact dc)
  · intro b ob e
    refine (I1.hok b ob e).stay (fun d w' hd g => (sb.2 d ?_).trans g) (fun _ g => g) fun _ _ g => g
    rintro rfl
    rcases hd with rfl | hd
    · rw [nH] at e; cases e
    · rw [nH] at hd; cases hd
end
end Tb

set_option Elab.async false
set_option linter.all false
set_option maxRecDepth 100000
set_option maxHeartbeats 4000000
namespace Tb
open PySem PySem.Spec PyProof.Rows L2
section
variable {X : Cx} {x : Str} {c : Nat} {te to : TE}
/-- range(j) made and asked for its iterator -/
theorem rng_start {pins : List (Addr × Obj)} {σ : L2.St} {H : Hp} {s : Shared} {Q : Value → Shared → Prop} {E : Value → Shared → Prop} {j : Int} {t : Tok} (k : KS X x c s) (I : Inv X pins σ H s) (h3 : -(2 ^ 62) ≤ j) (h4 : j < 2 ^ 62)
    (q : ∀ it s2, KS X x c s2 → Inv X pins σ H s2 → IsRangeIter s2.heap it (0 + ((0 : Nat) : Int) * 1) ((j.toNat : Int) - ((0 : Nat) : Int)) 1 → FpOk X pins H it → Q (.ref it) s2) :
    wpAny (model X.prog X.w) X.A (call (.type "range") [.int j t]) (fun v s1 => wpAny (model X.prog X.w) X.A (pyIter v) Q E s1) E s := by
  refine call_range_1 (wpAny_pyIter_range (IsRange.new ..) (small_one (by omega) (by omega) h3 h4) ?_)
  have up1 : ∀ b o, s.heap.get? b = some o → (s.heap.push { cls := .type "range", data := .fields #[.int 0 s.toks, .int j t, .int 1 (s.toks + 1)] }).get? b = some o := fun b o e => Heap.get?_push_of_some _ e
  have I1 : Inv X pins σ H { s with heap := s.heap.push { cls := .type "range", data := .fields #[.int 0 s.toks, .int j t, .int 1 (s.toks + 1)] }, toks := s.toks + 1 + 1 } := I.kept up1
  have k1 : KS X x c { s with heap := s.heap.push { cls := .type "range", data := .fields #[.int 0 s.toks, .int j t, .int 1 (s.toks + 1)] }, toks := s.toks + 1 + 1 } := k.keep (Nat.le_succ_of_le (Nat.le_succ _)) (Kept.all up1)
  refine q _ _ (k1.keep (Nat.le_refl _) (Kept.all fun b o e => Heap.get?_push_of_some _ e)) (I1.kept (t' := s.toks + 1 + 1) fun b o e => Heap.get?_push_of_some _ e) ?_ (I1.fpOk (Nat.le_refl _) (I1.hok.fresh (Nat.le_refl _)))
  rw [show (0 + ((0 : Nat) : Int) * 1) = 0 by rfl, show ((j.toNat : Int) - ((0 : Nat) : Int)) = Builtin.Range.rangeSize 0 j 1 by rw [rangeSize_one]; split <;> omega]
  exact Heap.get?_push_size _ rfl
theorem psk_forR {y : Str} {i : Nat} {e1 : Expr} {ta : TA} {body : List Stmt} {tb : TS} {p px pos pos2 : Pos} (hp : PassesOwn (model X.prog X.w) X.A X.env X.xe) (hc : X.calm = true) (hN : X.N.Nodup) (hi : X.N[i]? = some y) (hk : X.env.scope.names.lookup y = some .local) (ne : x ≠ y)
    (hg : Gl X "range") (hm : X.mg "range" = none) (ha : PAK X x c [e1] ta) (hb : PSsK X x c body tb) (hs1 : starEach [e1] X.env = [(false, eval e1 X.env)] := by rfl) (hs : ∀ z, foldedSetIterable (.Call (.Name "range" p) [e1] [] pos) X.env z = pure z := by intro _; rfl) :
    PSK X x c (.For (.Name y px) (.Call (.Name "range" p) [e1] [] pos) body [] pos2) (tFor (iRng1 ta) (gName i) tb) := by
  intro pins s σ H D k0 I q
  refine wpAny_For (Call_ (ld_blt I hg hm boot_range (PyProof.Rows.callWith_type1 (thn (ha pos pins s σ H _ k0 I q) ?_) hs1 rfl))) hs
  rintro us s1 ⟨k1, vs, H1, I1, r1, j, e, q1, q2, W, ⟨m0, w0⟩, turn⟩
  subst e
  cases r1 with
  | cons r rr =>
  cases rr
  obtain ⟨t, rfl⟩ := r
  refine rng_start k1 I1 q1 q2 fun it s2 k2 I2 st2 ⟨f0, f1, f2, f3, f4, f5⟩ => ?_
  have hL : it ≠ X.env.locals := f1
  refine codeAny_forLoop_any (fun n s' => KS X x c s' ∧ ∃ (i' : Nat) (σ' : L2.St) (H' : Hp), Inv X pins σ' H' s' ∧ IsRangeIter s'.heap it (0 + (i' : Int) * 1) ((j.toNat : Int) - (i' : Int)) 1 ∧ H' it = none ∧ W i' n σ' H') ?_ m0 ⟨k2, 0, σ, H1, I2, st2, f0, w0⟩
  rintro n s3 ⟨k3, i', σ3, H3, I3, st3, n3, w3⟩
  rcases turn i' n σ3 H3 w3 with ⟨stop, qn⟩ | ⟨go, N, hNN, step⟩
  · refine wpAny_passesOwn hp (wpAny_pyNext_range_end (I3.ok.hd hc) st3 (by have : j.toNat ≤ i' := stop; omega) fun h' eb => wpAny_execs_nil ⟨k3.keep (Nat.le_refl _) (fun m ⟨o, es, ep, ho, r⟩ => ⟨o, es, ep, eb _ _ (Ne.symm hL) ho, r⟩), σ3, H3, I3.turned (t' := s3.toks) (fun b o hb e => eb b o hb e) n3 f1 f3 f4 f5, qn⟩)
  · have WR := Walks.range (prog := X.prog) (w := X.w) (I3.ok.hd hc) it 0 1 j.toNat
    refine wpAny_passesOwn hp (thn (keepK k3 (WR.item i' s3 (fun r s4 => Kept X s3 s4 ∧ ∃ h' tk tt, r = some (.int (0 + (i' : Int) * 1) tt) ∧ s4 = { s3 with heap := h', toks := tk } ∧ IsRangeIter h' it (0 + ((i' + 1 : Nat) : Int) * 1) ((j.toNat : Int) - ((i' + 1 : Nat) : Int)) 1 ∧ Heap.ExtBut it s3.heap h') X.xe go st3 fun v h' tk hv st' kk => by
      obtain ⟨tt, rfl⟩ := hv
      exact ⟨fun m ⟨o, es, ep, ho, r⟩ => ⟨o, es, ep, kk _ _ (by simpa using Ne.symm hL) ho, r⟩, h', tk, tt, rfl, rfl, st', fun b o hb e => kk b o (by simpa using hb) e⟩)) ?_)
    rintro r s4 ⟨k4, h', tk, tt, rfl, rfl, st4, eb⟩
    have I4 : Inv X pins σ3 H3 { s3 with heap := h', toks := tk } := I3.turned (fun b o hb e => eb b o hb e) n3 f1 f3 f4 f5
    refine wpAny_passesOwn hp (go_of (s := { s3 with heap := h', toks := tk }) (n := "range_iterator") st4 rfl rfl (by decide) ?_)
    have stat : ∀ b ∈ [it], FpOk X pins H3 b := fun b hb => by
      rw [List.mem_singleton.mp hb]
      exact ⟨n3, f1, f2, f3, f4, f5⟩
    have I5 := I4.pinned (fp := [it]) stat fun b hb => by
      rw [List.mem_singleton.mp hb]
      refine ⟨_, st4, fun v z => ?_⟩
      have z' : Data.fields _ = Data.cell v := z
      cases z'
    obtain ⟨u, m, u1, u2, hn, hm'⟩ := k4
    refine wpAny_passesOwn hp (wpAny_assign_Name (store_okX I5 hN hi hk (v := V.int (0 + (i' : Int))) ⟨tt, by rw [Int.mul_one]⟩ fun s6 m6 I6 n6 _ t6 old => ?_))
    have k6 : KS X x c s6 := ⟨u, m6, u1, by rw [t6]; exact Nat.lt_succ_of_lt u2, n6, by rw [old m hn x ne]; exact hm'⟩
    have q6 := step (.int (0 + (i' : Int))) H3 ⟨rfl, rfl⟩
    refine wpAny_passesOwn hp (thn (hb _ s6 _ _ _ k6 I6 q6) ?_)
    rintro f s7 ⟨k7, q7⟩
    have again : ∀ {σ7 : L2.St} {H7 : Hp}, Inv X (pins ++ pinsAt [it] h') σ7 H7 s7 → N σ7 H7 → ∃ m, m < n ∧ KS X x c s7 ∧ ∃ (i' : Nat) (σ' : L2.St) (H' : Hp), Inv X pins σ' H' s7 ∧ IsRangeIter s7.heap it (0 + (i' : Int) * 1) ((j.toNat : Int) - (i' : Int)) 1 ∧ H' it = none ∧ W i' m σ' H' := fun {σ7 H7} I7 n7 => by
      obtain ⟨m', hm, w7⟩ := hNN σ7 H7 n7
      have pp := I7.pin (it, _) (List.mem_append_right _ (List.mem_append_right _ (mem_pinsAt (List.mem_singleton.mpr rfl) st4)))
      exact ⟨m', hm, k7, i' + 1, σ7, H7, I7.unpinned, pp.1, pp.2.1, w7⟩
    cases f with
    | next => obtain ⟨σ7, H7, I7, n7⟩ := q7; exact again I7 n7
    | cont => obtain ⟨σ7, H7, I7, n7⟩ := q7; exact again I7 n7
    | brk => obtain ⟨σ7, H7, I7, q7⟩ := q7; exact ⟨k7, σ7, H7, I7.unpinned, q7⟩
    | ret v => obtain ⟨x7, σ7, H7, I7, r7, q7⟩ := q7; exact ⟨k7, x7, σ7, H7, I7.unpinned, r7, q7⟩
/-- o.append(e) -/
theorem pek_app {o e : Expr} {apos pos : Pos} (ho : PEK X x c o to) (he : PEK X x c e te) (st : starEach [e] X.env = [(false, eval e X.env)] := by rfl) (base : attributeBase o "append" X.env (eval o X.env) = eval o X.env := by rfl) (line : (apos.endLine == pos.line) = true := by rfl) :
    PEK X x c (.Call (.Attribute o "append" apos) [e] [] pos) (fun σ H Q => to σ H fun v H1 => ∃ l xs, v = .ref l ∧ H1 l = some (.lst xs) ∧ te σ H1 fun b H2 => ∃ ys, H2 l = some (.lst ys) ∧ ys.length < sizeLine ∧ Q .non (upd H2 l (.lst (ys ++ [b])))) := by
  intro pins s σ H Q k I q
  refine PySem.Call_method1 base st line (thn (ho pins s σ H _ k I q) ?_)
  rintro v s1 ⟨k1, y, H1, I1, r1, l, xs, rfl, hl, q1⟩
  cases r1
  obtain ⟨_, us, n, r, g⟩ := I1.hok l _ hl
  refine ⟨"list", _, F.plainAttrs_list, F.slot_list_append, F.type_list_append, ⟨_, g, rfl⟩, (fun _ e => by cases e; exact ⟨_, g, rfl⟩), Calls.callWith_builtin rfl (Calls.evalArgs_plain (Calls.spliced_cons (thn (he pins s1 σ H1 _ k1 I1 q1) ?_)))⟩
  rintro u s2 ⟨k2, b, H2, I2, r2, ys, hl2, room, q2⟩
  refine Calls.spliced_nil (keepK k2 ?_)
  obtain ⟨_, ws, n2, rw2, g2⟩ := I2.hok l _ hl2
  have len := rw2.length
  refine append_at (hsz := by rw [List.size_toArray]; omega) g2 fun h' sb ho' => ?_
  refine ⟨Kept.but sb fun z => ?_, .non, upd H2 l (.lst (ys ++ [b])), I2.write (o := .lst (ys ++ [b])) (t' := s2.toks) (by rw [hl2]; trivial) (.inl rfl) (fun b u hb q => (sb.2 b hb).trans q) ⟨_, ho'⟩ ⟨by rw [List.length_append]; exact room, ws ++ [u], n2 + 1, rw2.append (.cons r2 .nil), ?_⟩, rfl, q2⟩
  · rw [z] at hl2
    rw [I2.free] at hl2
    cases hl2
  · rw [ho']
    simp
end
end Tb

set_option Elab.async false
set_option linter.all false
set_option maxRecDepth 100000
set_option maxHeartbeats 2000000
namespace Tb
open PySem PySem.Spec PyProof.Rows L2 TL
/-- a list or a tuple -/
def SeqH (H : Hp) (p : Addr) (xs : List V) : Prop := H p = some (.lst xs) ∨ H p = some (.tup xs)
theorem SeqH.same {H H' : Hp} {p : Addr} {xs : List V} (h : SeqH H p xs) (s : Same H H') : SeqH H' p xs := h.imp (s _ _) (s _ _)
theorem SeqH.sq {K : PySem.W.Frag} {H : Hp} {p : Addr} {xs : List V} (h : SeqH H p xs) : SqL K H p xs ∨ SqT K H p xs := h.imp SqL.of SqT.of
def isLT (K : PySem.W.Frag) (H : Hp) (x : V) (b : Bool) : Prop := ∃ t, TyX K H x t ∧ PySem.W.kitAny K t [.type "list", .type "tuple"] = some b
theorem SeqH.isLT {K : PySem.W.Frag} {H : Hp} {p : Addr} {xs : List V} (h : SeqH H p xs) : isLT K H (.ref p) true := by
  rcases h with h | h
  · exact ⟨_, .base (.lst h), kitAny_cons (b := true) (kit_ty (by decide +kernel)) (fun z => nomatch z) (fun _ => rfl)⟩
  · exact ⟨_, .base (.tup h), kitAny_cons (b := false) (kit_ty (by decide +kernel)) (fun _ => kitAny_cons (b := true) (kit_ty (by decide +kernel)) (fun z => nomatch z) (fun _ => rfl)) (fun z => nomatch z)⟩
def tIsLT (K : PySem.W.Frag) (ta : TE) : TE := fun σ H Q => ta σ H fun x H1 => ∃ b, (∀ H', Same H1 H' → isLT K H' x b) ∧ ∀ H', Same H1 H' → Q (.bl b) H'
theorem pe_isLT {X : Cx} {a : Expr} {ta : TE} {k : Nat} {p p1 p2 p3 pos : Pos} (ha : PE X a ta) (mi : X.mg "isinstance" = none) (hg : Gl X "isinstance") (ml : X.mg "list" = none) (hgl : Gl X "list") (mt : X.mg "tuple" = none) (hgt : Gl X "tuple")
    (na : starEach [a, .Tuple [.Name "list" p1, .Name "tuple" p2] k p3] X.env = (false, eval a X.env) :: starEach [.Tuple [.Name "list" p1, .Name "tuple" p2] k p3] X.env := by rfl)
    (na2 : starEach [.Tuple [.Name "list" p1, .Name "tuple" p2] k p3] X.env = (false, eval (.Tuple [.Name "list" p1, .Name "tuple" p2] k p3) X.env) :: starEach [] X.env := by rfl)
    (na3 : starEach [.Name "list" p1, .Name "tuple" p2] X.env = (false, eval (.Name "list" p1) X.env) :: starEach [.Name "tuple" p2] X.env := by rfl)
    (na4 : starEach [.Name "tuple" p2] X.env = (false, eval (.Name "tuple" p2) X.env) :: starEach [] X.env := by rfl)
    (hpl : (backTo pos (starEach [.Tuple [.Name "list" p1, .Name "tuple" p2] k p3] X.env)).any (·.1) = false := by rfl) :
    PE X (.Call (.Name "isinstance" p) [a, .Tuple [.Name "list" p1, .Name "tuple" p2] k p3] [] pos) (tIsLT X.K ta) :=
  PE.weak (pe_callB call_isiT hg mi (by decide +kernel) (pa_cons (PE.mono ha) (pa_cons (pe_tupS (pa_cons (pe_bltn hgl ml (by decide +kernel) (v := .ty "list") rfl) (pa_cons (pe_bltn hgt mt (by decide +kernel) (v := .ty "tuple") rfl) pa_nil na4) na3)) pa_nil na2) na) (he := na) (hpl := hpl)) fun σ H Q z => ⟨_, z, fun x H1 ⟨b, h, q⟩ =>
    ⟨by show 2 ≤ sizeLine; decide, fun T H2 s2 n2 e2 => by
      obtain ⟨t, ty, k⟩ := h H2 s2
      exact ⟨x, T, _, t, _, b, rfl, e2, .cons (.ty _) (.cons (.ty _) .nil), ty, k, q H2 s2⟩⟩⟩
section
variable {P : Program} {w : World} {K : PySem.W.Frag} {mg : Str → Option Value} {base : Heap}
/-! ### _are_letters -/
abbrev nAreLetters : List Str := ["thing", "most"]
theorem scAreLetters : FnScope nAreLetters ["thing", "most"] (defScope sAreLetters) := ⟨rfl, rfl, rfl, by decide +kernel, rfl, by decide +kernel, by decide +kernel⟩
def okLetters (cs : List Nat) : Bool := cs.all isLow && (decide (1 ≤ cs.length) && (decide (cs.length ≤ 5) && decide cs.Nodup))
def spAreLetters (K : PySem.W.Frag) : Sp := fun vs H Q _ => (∃ cs : List Nat, vs = [.str (S cs), .int 5] ∧ cs.length ≤ 1000 ∧ ∀ H', Same H H' → Q (.bl (okLetters cs)) H') ∨ (∃ x, vs = [x, .int 5] ∧ Isi K H x "str" false ∧ Q (.bl false) H)
theorem ok_areLetters {f : Addr} {fd : FuncData} {k : Nat} (F : Fun K "are_letters" "are_letters" sAreLetters f fd) (DT : Df P w K mg base (k + 1) "is_text" ["thing"] (spIsText K)) (DD : Df P w K mg base (k + 1) "are_different" ["strings"] (spAreDiff K)) (ml : mg "len" = none) : FnOk P w K mg base CX0 (k + 2) f fd ["thing", "most"] (spAreLetters K) := by
  refine F.ok scAreLetters (fun vs H Q E h => ?_) (fun cdv A outer s H vs Q E hr h => ?_)
  · rcases h with ⟨cs, rfl, _⟩ | ⟨x, rfl, _⟩ <;> rfl
  · refine ⟨_, pss_one (ps_ret (pe_and (pe_df DT hr (pa_cons (pv 0) pa_nil)) (pe_and (pe_chain op_le op_le pe_int (pe_callB call_len_str (by rfl) ml PySem.boot_len (pa_cons (pv 0) pa_nil)) (pv 1)) (pe_one (pe_df DD hr (pa_cons (pv 0) pa_nil)))))), ?_⟩
    rcases h with ⟨cs, rfl, hl, q⟩ | ⟨x, rfl, hx, q⟩
    · refine ⟨_, rfl, .inl ⟨cs, rfl, hl, fun H' s' => ?_⟩⟩
      have hq := q H' s'
      refine ⟨_, rfl, ?_⟩
      unfold okLetters at hq
      by_cases h1 : cs.all isLow = true
      · rw [h1] at hq ⊢
        refine iteT ⟨_, rfl, S cs, rfl, by rw [len_S]; exact Nat.le_trans hl (by decide), _, _, rfl, rfl, _, rfl, ?_⟩
        rw [len_S]
        by_cases h2 : 1 ≤ cs.length
        · rw [decide_eq_true h2] at hq
          rw [decide_eq_true (show (1 : Int) ≤ (cs.length : Int) by omega)]
          refine iteT ⟨_, rfl, _, _, rfl, rfl, _, rfl, ?_⟩
          have e : decide ((cs.length : Int) ≤ 5) = decide (cs.length ≤ 5) := by
            rw [decide_eq_decide]
            omega
          rw [e]
          by_cases h3 : cs.length ≤ 5
          · rw [decide_eq_true h3] at hq ⊢
            exact iteT ⟨_, rfl, .inl ⟨cs, rfl, hl, hq⟩⟩
          · rw [decide_eq_false h3] at hq ⊢
            exact iteF hq
        · rw [decide_eq_false h2] at hq
          rw [decide_eq_false (show ¬ (1 : Int) ≤ (cs.length : Int) by omega)]
          refine iteF ⟨_, rfl, iteF hq⟩
      · rw [Bool.eq_false_iff.mpr h1] at hq ⊢
        exact iteF hq
    · exact ⟨_, rfl, .inr ⟨x, rfl, hx, false, rfl, iteF q⟩⟩
/-! ### _are_boxes -/
def isCap (c : Nat) : Bool := decide (65 ≤ c ∧ c ≤ 90)
def AZ : List Nat := (List.range 26).map (65 + ·)
theorem AZ_str : Str.ofString "ABCDEFGHIJKLMNOPQRSTUVWXYZ" = S AZ := by decide +kernel
theorem cap_AZ (c : Nat) : decide (c ∈ AZ) = isCap c := by
  unfold isCap AZ
  rw [decide_eq_decide, List.mem_map]
  constructor
  · rintro ⟨i, hi, rfl⟩
    have := List.mem_range.mp hi
    omega
  · intro h
    exact ⟨c - 65, List.mem_range.mpr (by omega), by omega⟩
def okBoxes (cs : List Nat) : Bool := decide (cs.length ≤ 6) && (cs.all isCap && decide cs.Nodup)
abbrev nAreBoxes : List Str := ["thing", "sign"]
theorem scAreBoxes : FnScope nAreBoxes ["thing"] (defScope sAreBoxes) := ⟨rfl, rfl, rfl, by decide +kernel, rfl, by decide +kernel, by decide +kernel⟩
def spAreBoxes (K : PySem.W.Frag) : Sp := fun vs H Q _ => (∃ cs : List Nat, vs = [.str (S cs)] ∧ cs.length ≤ 1000 ∧ ∀ H', Same H H' → Q (.bl (okBoxes cs)) H') ∨ (∃ x, vs = [x] ∧ Isi K H x "str" false ∧ Q (.bl false) H)
theorem ok_areBoxes {f : Addr} {fd : FuncData} {k : Nat} (F : Fun K "_are_boxes" "_are_boxes" sAreBoxes f fd) (DD : Df P w K mg base (k + 1) "are_different" ["strings"] (spAreDiff K)) (mi : mg "isinstance" = none) (ms : mg "str" = none) (ma : mg "all" = none) (ml : mg "len" = none) (mN : ∃ t, mg "MOST_BOXES" = some (.int 6 t)) (mB : ∃ t, mg "BOXES" = some (.str (Str.ofString "ABCDEFGHIJKLMNOPQRSTUVWXYZ") t)) : FnOk P w K mg base CX0 (k + 2) f fd ["thing"] (spAreBoxes K) := by
  obtain ⟨tN, mN⟩ := mN
  obtain ⟨tB, mB⟩ := mB
  refine F.ok scAreBoxes (fun vs H Q E h => ?_) (fun cdv A outer s H vs Q E hr h => ?_)
  · rcases h with ⟨cs, rfl, _⟩ | ⟨x, rfl, _⟩ <;> rfl
  · refine ⟨_, pss_cons (ps_if (PW.pt (pw_or (pt_not (pt_val (pe_isStr (pv 0) mi (by rfl) ms (by rfl)))) (pw_or1 (pt_cmpR op_gt (pe_callB call_len_str (by rfl) ml PySem.boot_len (pa_cons (pv 0) pa_nil)) (pe_glob (v := .int 6) (by rfl) mN ⟨_, rfl⟩) (nomark _))))) (pss_one (ps_ret pe_bl)) pss_nil)
      (pss_one (ps_ret (pe_and (pe_callB (cr_all rfl) (by rfl) ma (by decide +kernel) (pa_cons (pe_lc (own := [("sign", 1)]) (g := gName 1) (tt := tYes) (te := tOp (fun x y H Q => ∃ (c : Nat) (z : Str), x = .str ⟨#[c]⟩ ∧ y = .str z ∧ Q (.bl (decide (c ∈ z.cps.toList))) H) (tVar 1) (tC (.str (Str.ofString "ABCDEFGHIJKLMNOPQRSTUVWXYZ")))) rfl scAreBoxes.nd
          (pi_str (pv 0)) (blkOk_by (own := [("sign", 1)]) (N := nAreBoxes) (sc := defScope sAreBoxes) (by decide +kernel)) (fun _ _ _ _ _ => pg_name (i := 1) scAreBoxes.nd rfl (.inl rfl)) (fun _ _ _ _ _ => pts_nil) (fun _ _ _ _ _ => pe_cmpR op_in_sign (pv 1) (pe_glob (by rfl) mB ⟨_, rfl⟩) (by rfl))) pa_nil)) (pe_one (pe_df DD hr (pa_cons (pv 0) pa_nil)))))), ?_⟩
    rcases h with ⟨cs, rfl, hl, q⟩ | ⟨x, rfl, hx, q⟩
    · refine ⟨_, rfl, true, isi_str _, true, rfl, iteF ⟨_, rfl, S cs, rfl, by rw [len_S]; exact Nat.le_trans hl (by decide), _, _, rfl, rfl, _, rfl, ?_⟩⟩
      rw [len_S]
      unfold okBoxes at q
      by_cases h1 : cs.length ≤ 6
      · rw [decide_eq_true h1] at q
        rw [decide_eq_false (show ¬ (6 : Int) < (cs.length : Int) by omega)]
        refine iteF ⟨_, rfl, S cs, rfl, fun D nD => lc_mapS (cs := cs) (fun c => .bl (isCap c)) nD (Nat.lt_of_le_of_lt hl (by decide)) ?_ ?_⟩
        · intro c hc H' R s' r
          refine ⟨_, rfl, c, _, rfl, rfl, ?_⟩
          rw [AZ_str]
          show R (.bl (decide (c ∈ AZ))) H'
          rw [cap_AZ]
          exact r
        · intro H' s' e'
          have hq := q H' s'
          refine ⟨D, cs.map isCap, rfl, SqL.of (by rw [e', List.map_map]; rfl), _, rfl, ?_⟩
          rw [List.all_map, show (id ∘ isCap) = isCap from rfl]
          by_cases h2 : cs.all isCap = true
          · rw [h2] at hq ⊢
            exact iteT ⟨_, rfl, .inl ⟨cs, rfl, hl, hq⟩⟩
          · rw [Bool.eq_false_iff.mpr h2] at hq ⊢
            exact iteF hq
      · rw [decide_eq_false h1] at q
        rw [decide_eq_true (show (6 : Int) < (cs.length : Int) by omega)]
        exact iteT (q H (fun _ _ e => e))
    · exact ⟨_, rfl, false, hx, false, rfl, iteT (iteT q)⟩
/-! ### _is_pair, _is_one_of -/
abbrev nIsPair : List Str := ["thing"]
theorem scIsPair : FnScope nIsPair ["thing"] (defScope sIsPair) := ⟨rfl, rfl, rfl, by decide +kernel, rfl, by decide +kernel, by decide +kernel⟩
def spIsPair (K : PySem.W.Frag) : Sp := fun vs H Q _ => (∃ p xs, vs = [.ref p] ∧ SeqH H p xs ∧ ∀ H', Same H H' → Q (.bl (decide (xs.length = 2))) H') ∨ (∃ x, vs = [x] ∧ (∀ H', Same H H' → isLT K H' x false) ∧ ∀ H', Same H H' → Q (.bl false) H')
theorem ok_isPair {f : Addr} {fd : FuncData} {k : Nat} (F : Fun K "is_pair" "is_pair" sIsPair f fd) (mi : mg "isinstance" = none) (mL : mg "list" = none) (mT : mg "tuple" = none) (ml : mg "len" = none) : FnOk P w K mg base CX0 (k + 1) f fd ["thing"] (spIsPair K) := by
  refine F.ok scIsPair (fun vs H Q E h => ?_) (fun cdv A outer s H vs Q E hr h => ?_)
  · rcases h with ⟨p, xs, rfl, _⟩ | ⟨x, rfl, _⟩ <;> rfl
  · refine ⟨_, pss_one (ps_ret (pe_and (pe_isLT (pv 0) mi (by rfl) mL (by rfl) mT (by rfl)) (pe_one (pe_cmpR op_eq (pe_callB call_lenS (by rfl) ml PySem.boot_len (pa_cons (pv 0) pa_nil)) pe_int (nomark _))))), ?_⟩
    rcases h with ⟨p, xs, rfl, hp, q⟩ | ⟨x, rfl, hx, q⟩
    · refine ⟨_, rfl, true, fun H' s' => (hp.same s').isLT, fun H' s' => ⟨true, rfl, iteT ⟨_, rfl, p, xs, rfl, (hp.same s').sq, rfl, ?_⟩⟩⟩
      have e : decide (V.int (xs.length : Int) = V.int 2) = decide (xs.length = 2) := num_eq xs.length 2
      rw [e]
      exact q H' s'
    · exact ⟨_, rfl, false, hx, fun H' s' => ⟨false, rfl, iteF (q H' s')⟩⟩
abbrev nIsOneOf : List Str := ["thing", "strings"]
theorem scIsOneOf : FnScope nIsOneOf ["thing", "strings"] (defScope sIsOneOf) := ⟨rfl, rfl, rfl, by decide +kernel, rfl, by decide +kernel, by decide +kernel⟩
def spIsOneOf (K : PySem.W.Frag) : Sp := fun vs H Q _ => (∃ (c : List Nat) (p : Addr) (l : List (List Nat)), vs = [.str (S c), .ref p] ∧ SeqH H p (txs l) ∧ Q (.bl (decide (c ∈ l))) H) ∨ (∃ x y, vs = [x, y] ∧ Isi K H x "str" false ∧ Q (.bl false) H)
theorem ok_isOneOf {f : Addr} {fd : FuncData} {k : Nat} (F : Fun K "is_one_of" "is_one_of" sIsOneOf f fd) (mi : mg "isinstance" = none) (ms : mg "str" = none) : FnOk P w K mg base CX0 (k + 1) f fd ["thing", "strings"] (spIsOneOf K) := by
  refine F.ok scIsOneOf (fun vs H Q E h => ?_) (fun cdv A outer s H vs Q E hr h => ?_)
  · rcases h with ⟨c, p, l, rfl, _⟩ | ⟨x, y, rfl, _⟩ <;> rfl
  · refine ⟨_, pss_one (ps_ret (pe_and (pe_isStr (pv 0) mi (by rfl) ms (by rfl)) (pe_one (pe_cmpR op_in_seq (pv 0) (pv 1) (by rfl))))), ?_⟩
    rcases h with ⟨c, p, l, rfl, hp, q⟩ | ⟨x, y, rfl, hx, q⟩
    · refine ⟨_, rfl, true, isi_str _, true, rfl, iteT ⟨_, rfl, _, rfl, p, txs l, rfl, hp.sq, rfl, ?_, ?_⟩⟩
      · unfold txs
        rw [List.all_map, List.all_eq_true]
        exact fun _ _ => rfl
      · show Q (.bl (inV (.str (S c)) (txs l))) H
        unfold txs
        rw [inV_S]
        exact q
    · exact ⟨_, rfl, false, hx, false, rfl, iteF q⟩
/-! ### _are_places -/
def okPlaces (l : List (List Nat)) : Bool := (decide (1 ≤ l.length) && decide (l.length ≤ 50)) && (l.all isName && decide l.Nodup)
def okNames (l : List (List Nat)) : Bool := decide (1 ≤ l.length) && (l.all isName && decide l.Nodup)
abbrev nAreNames : List Str := ["thing", "name"]
theorem scAreNames : FnScope nAreNames ["thing"] (defScope sAreNames) := ⟨rfl, rfl, rfl, by decide +kernel, rfl, by decide +kernel, by decide +kernel⟩
theorem scArePlaces : FnScope ["thing"] ["thing"] (defScope sArePlaces) := ⟨rfl, rfl, rfl, by decide +kernel, rfl, by decide +kernel, by decide +kernel⟩
/-- good ones only -/
def spAreNames : Sp := fun vs H Q _ => ∃ (p : Addr) (l : List (List Nat)), vs = [.ref p] ∧ SeqH H p (txs l) ∧ (∀ x ∈ l, x.length ≤ 1000) ∧ l.length ≤ 1000 ∧ okNames l = true ∧ ∀ H', Same H H' → Q (.bl true) H'
def spArePlaces : Sp := fun vs H Q _ => ∃ (p : Addr) (l : List (List Nat)), vs = [.ref p] ∧ SeqH H p (txs l) ∧ (∀ x ∈ l, x.length ≤ 1000) ∧ l.length ≤ 1000 ∧ okPlaces l = true ∧ ∀ H', Same H H' → Q (.bl true) H'
end
end Tb

set_option Elab.async false
set_option linter.all false
set_option maxRecDepth 100000
set_option maxHeartbeats 2000000
namespace Tb
open PySem PySem.Spec PyProof.Rows L2 TL
/-! ### a comprehension over anything that gives the items of xs; its element may lay new objects -/
section
variable {te : TE} {tt : TT} {vs : List Nat} {σ : L2.St} {H1 : Hp} {D : Addr} {Qd : Hp → Prop} {sl : Nat} {J : It} {n : Nat} {G : Hp → Prop} {Y : Nat → Hp → V → Hp → Prop}
theorem lc_mapW {xs : List V} (g : V → V) (w : Walk J n G Y) (hn : n = xs.length) (hY : ∀ i H x H', Y i H x H' → H' = H ∧ xs[i]? = some x) (hG : ∀ H', Same H1 H' → G H') (nD : H1 D = none) (hl : xs.length < sizeLine)
    (he : ∀ x ∈ xs, ∀ H' (R : VK), Same H1 H' → (∀ H'', Same H' H'' → R (g x) H'') → te ((wipe σ vs).set sl (some x)) H' R)
    (hd : ∀ H', Same H1 H' → H' D = some (.lst (xs.map g)) → Qd H') (hw : ∀ x, wipe ((wipe σ vs).set sl (some x)) vs = wipe σ vs := by intro _; rfl) :
    ∃ W : Nat → Nat → Hp → Prop, (∃ m, W 0 m (upd H1 D (.lst []))) ∧ ∀ i m H, W i m H →
      (J.stop i H ∧ Qd H) ∨ (J.go i H ∧ ∃ Nx : Hp → Prop, (∀ H', Nx H' → ∃ m', m' < m ∧ W (i + 1) m' H') ∧ ∀ x H', J.yld i H x H' → gName sl x (wipe σ vs) H' fun σ2 H2 => wipe σ2 vs = wipe σ vs ∧ tYes σ2 H2 fun b H3 =>
        if b = true then te σ2 H3 fun y H4 => ∃ acc, H4 D = some (.lst acc) ∧ acc.length < sizeLine ∧ Nx (upd H4 D (.lst (acc ++ [y]))) else Nx H3) := by
  refine lc_it w (fun i H => Same H1 H ∧ H D = some (.lst ((xs.take i).map g))) ⟨same_upd nD, upd_same⟩ (fun i H _ h => hG H h.1) ?_ ?_
  · rintro i x H H' hi ⟨s, e⟩ y
    obtain ⟨rfl, hx⟩ := hY _ _ _ _ y
    refine ⟨hw _, tYes_if (he x (List.mem_of_getElem? hx) _ _ s fun H2 s2 => ⟨_, s2 _ _ e, ?_, fun b o eb => ?_, ?_⟩)⟩
    · rw [List.length_map, List.length_take]
      exact Nat.lt_of_le_of_lt (Nat.min_le_right _ _) hl
    · rw [upd_ne (ne_of_none eb nD)]
      exact s2 _ _ (s _ _ eb)
    · rw [upd_same, List.take_add_one, hx, List.map_append]
      rfl
  · rintro H ⟨s, e⟩
    subst hn
    rw [List.take_length] at e
    exact hd H s e
end
theorem same_unlock {H H' : Hp} {d : Addr} {od : Obj} {u : HO} (hd : H d = some u) (s : Same (upd H d (.frz od u)) H') : Same H (upd H' d u) := fun b o e => by
  by_cases hb : b = d
  · rw [hb, hd] at e
    cases e
    rw [hb, upd_same]
  · rw [upd_ne hb]
    refine s b o ?_
    rw [upd_ne hb]
    exact e
section
variable {P : Program} {w : World} {K : PySem.W.Frag} {mg : Str → Option Value} {base : Heap}
def nameV : V → V := fun v => match v with | .str x => .bl (isName (tl x)) | _ => .non
theorem nameV_S (c : List Nat) : nameV (.str (S c)) = .bl (isName c) := rfl
theorem okNames_iff {l : List (List Nat)} (h : okNames l = true) : 1 ≤ l.length ∧ l.all isName = true ∧ l.Nodup := by
  unfold okNames at h
  rw [Bool.and_eq_true, Bool.and_eq_true] at h
  exact ⟨of_decide_eq_true h.1, h.2.1, of_decide_eq_true h.2.2⟩
theorem ok_areNames {f : Addr} {fd : FuncData} {k : Nat} (F : Fun K "are_names" "are_names" sAreNames f fd) (DN : Df P w K mg base (k + 2) "is_name" ["thing"] (spIsName K)) (DD : Df P w K mg base (k + 1) "are_different" ["strings"] (spAreDiff K)) (mi : mg "isinstance" = none) (mL : mg "list" = none) (mT : mg "tuple" = none) (ma : mg "all" = none) (ml : mg "len" = none) : FnOk P w K mg base CX0 (k + 3) f fd ["thing"] spAreNames := by
  refine F.ok scAreNames (fun vs H Q E h => ?_) (fun cdv A outer s H vs Q E hr h => ?_)
  · obtain ⟨p, l, rfl, _⟩ := h
    rfl
  · obtain ⟨p, l, rfl, hp, hle, hl, ok, q⟩ := h
    obtain ⟨h1, h2, h3⟩ := okNames_iff ok
    have lt' : (txs l).length = l.length := List.length_map _
    rcases hp with hp | hp
    · refine ⟨_, pss_cons (ps_if (PW.pt (pw_or (pt_not (pt_val (pe_isLT (pv 0) mi (by rfl) mL (by rfl) mT (by rfl)))) (pw_or1 (pt_cmpR op_eq (pe_callB call_lenS (by rfl) ml PySem.boot_len (pa_cons (pv 0) pa_nil)) pe_int (nomark _))))) (pss_one (ps_ret pe_bl)) pss_nil)
        (pss_one (ps_ret (pe_and (pe_callB (cr_all rfl) (by rfl) ma (by decide +kernel) (pa_cons (pe_lc (own := [("name", 1)]) (g := gName 1) (tt := tYes) (te := tCall (spIsName K) [] E0 (tCons (tVar 1) tNil)) rfl scAreNames.nd
          (pi_list (pv 0)) (blkOk_by (own := [("name", 1)]) (N := nAreNames) (sc := defScope sAreNames) (by decide +kernel)) (fun _ _ _ _ _ => pg_name (i := 1) scAreNames.nd rfl (.inl rfl)) (fun _ _ _ _ _ => pts_nil) (fun _ _ _ _ _ => pe_df DN hr (pa_cons (pv 1) pa_nil))) pa_nil)) (pe_one (pe_df DD hr (pa_cons (pv 0) pa_nil)))))), ?_⟩
      refine ⟨_, rfl, true, fun H' s' => SeqH.isLT (.inl (s' _ _ hp)), fun H' s' => ⟨true, rfl, iteF ⟨_, rfl, p, txs l, rfl, .inl (SqL.of (s' _ _ hp)), rfl, false, ?_, iteF ?_⟩⟩⟩
      · rw [lt', decide_eq_false]
        intro z
        injection z with z
        omega
      refine ⟨_, rfl, p, rfl, ⟨_, SqL.of (s' _ _ hp)⟩, fun D nD => lc_mapW (xs := txs l) nameV walk_list rfl (fun i H x H' y => ⟨y.1, y.2⟩) (fun H2 s2 => SqL.of (s2 _ _ (s' _ _ hp))) nD (by rw [lt']; exact Nat.lt_of_le_of_lt hl (by decide)) ?_ ?_⟩
      · intro x hx H2 R s2 r
        obtain ⟨c, hc, rfl⟩ := List.mem_map.mp hx
        exact ⟨_, rfl, .inl ⟨c, rfl, hle c hc, fun H3 s3 => r H3 s3⟩⟩
      · intro H2 s2 e2
        have eb : H2 D = some (.lst ((l.map isName).map V.bl)) := by
          rw [e2]
          unfold txs
          rw [List.map_map, List.map_map]
          rfl
        refine ⟨D, l.map isName, rfl, SqL.of eb, true, ?_, iteT ⟨_, rfl, .inr ⟨p, l, rfl, .inl (SqL.of (s2 _ _ (s' _ _ hp))), hl, ?_⟩⟩⟩
        · rw [List.all_map, show l.all (id ∘ isName) = l.all isName from rfl, h2]
        · rw [decide_eq_true h3]
          exact q _ (s'.trans s2)
    · refine ⟨_, pss_cons (ps_if (PW.pt (pw_or (pt_not (pt_val (pe_isLT (pv 0) mi (by rfl) mL (by rfl) mT (by rfl)))) (pw_or1 (pt_cmpR op_eq (pe_callB call_lenS (by rfl) ml PySem.boot_len (pa_cons (pv 0) pa_nil)) pe_int (nomark _))))) (pss_one (ps_ret pe_bl)) pss_nil)
        (pss_one (ps_ret (pe_and (pe_callB (cr_all rfl) (by rfl) ma (by decide +kernel) (pa_cons (pe_lc (own := [("name", 1)]) (g := gName 1) (tt := tYes) (te := tCall (spIsName K) [] E0 (tCons (tVar 1) tNil)) rfl scAreNames.nd
          (pi_tup (pv 0)) (blkOk_by (own := [("name", 1)]) (N := nAreNames) (sc := defScope sAreNames) (by decide +kernel)) (fun _ _ _ _ _ => pg_name (i := 1) scAreNames.nd rfl (.inl rfl)) (fun _ _ _ _ _ => pts_nil) (fun _ _ _ _ _ => pe_df DN hr (pa_cons (pv 1) pa_nil))) pa_nil)) (pe_one (pe_df DD hr (pa_cons (pv 0) pa_nil)))))), ?_⟩
      refine ⟨_, rfl, true, fun H' s' => SeqH.isLT (.inr (s' _ _ hp)), fun H' s' => ⟨true, rfl, iteF ⟨_, rfl, p, txs l, rfl, .inr (SqT.of (s' _ _ hp)), rfl, false, ?_, iteF ?_⟩⟩⟩
      · rw [lt', decide_eq_false]
        intro z
        injection z with z
        omega
      refine ⟨_, rfl, p, rfl, ⟨_, SqT.of (s' _ _ hp)⟩, fun D nD => lc_mapW (xs := txs l) nameV walk_tup rfl (fun i H x H' y => ⟨y.1, y.2⟩) (fun H2 s2 => SqT.of (s2 _ _ (s' _ _ hp))) nD (by rw [lt']; exact Nat.lt_of_le_of_lt hl (by decide)) ?_ ?_⟩
      · intro x hx H2 R s2 r
        obtain ⟨c, hc, rfl⟩ := List.mem_map.mp hx
        exact ⟨_, rfl, .inl ⟨c, rfl, hle c hc, fun H3 s3 => r H3 s3⟩⟩
      · intro H2 s2 e2
        have eb : H2 D = some (.lst ((l.map isName).map V.bl)) := by
          rw [e2]
          unfold txs
          rw [List.map_map, List.map_map]
          rfl
        refine ⟨D, l.map isName, rfl, SqL.of eb, true, ?_, iteT ⟨_, rfl, .inr ⟨p, l, rfl, .inr (SqT.of (s2 _ _ (s' _ _ hp))), hl, ?_⟩⟩⟩
        · rw [List.all_map, show l.all (id ∘ isName) = l.all isName from rfl, h2]
        · rw [decide_eq_true h3]
          exact q _ (s'.trans s2)
theorem ok_arePlaces {f : Addr} {fd : FuncData} {k : Nat} (F : Fun K "_are_places" "_are_places" sArePlaces f fd) (DN : Df P w K mg base (k + 1) "are_names" ["thing"] spAreNames) (ml : mg "len" = none) (mN : ∃ t, mg "MOST_PLACES" = some (.int 50 t)) : FnOk P w K mg base CX0 (k + 2) f fd ["thing"] spArePlaces := by
  obtain ⟨tN, mN⟩ := mN
  refine F.ok scArePlaces (fun vs H Q E h => ?_) (fun cdv A outer s H vs Q E hr h => ?_)
  · obtain ⟨p, l, rfl, _⟩ := h
    rfl
  · obtain ⟨p, l, rfl, hp, hle, hl, ok, q⟩ := h
    have lt' : (txs l).length = l.length := List.length_map _
    unfold okPlaces at ok
    rw [Bool.and_eq_true, Bool.and_eq_true] at ok
    obtain ⟨⟨h1, h50⟩, h2⟩ := ok
    have h50 := of_decide_eq_true h50
    refine ⟨_, pss_one (ps_ret (pe_and (pe_df DN hr (pa_cons (pv 0) pa_nil)) (pe_one (pe_cmpR op_le (pe_callB call_lenS (by rfl) ml PySem.boot_len (pa_cons (pv 0) pa_nil)) (pe_glob (v := .int 50) (by rfl) mN ⟨_, rfl⟩) (nomark _))))), ?_⟩
    refine ⟨_, rfl, p, l, rfl, hp, hle, hl, by unfold okNames; rw [h1, h2]; rfl, fun H' s' => ⟨true, rfl, iteT ⟨_, rfl, p, txs l, rfl, (hp.same s').sq, _, _, rfl, rfl, ?_⟩⟩⟩
    have e : V.bl (decide (((txs l).length : Int) ≤ 50)) = V.bl true := by rw [lt', decide_eq_true (show (l.length : Int) ≤ 50 by omega)]
    show Q (V.bl (decide (((txs l).length : Int) ≤ 50))) H'
    rw [e]
    exact q _ s'
end
end Tb

set_option Elab.async false
set_option linter.all false
set_option maxRecDepth 100000
set_option maxHeartbeats 2000000
namespace Tb
open PySem PySem.Spec PyProof.Rows L2 TL
/-! ### _are_fillings -/
theorem isi_dK {K : PySem.W.Frag} {H : Hp} {d : Addr} {kvs : List (Key × V)} (h : H d = some (.dK kvs)) : Isi K H (.ref d) "dict" true := ⟨_, .base (.dK h), kit_ty (by decide +kernel)⟩
theorem isi_dT {K : PySem.W.Frag} {H : Hp} {d : Addr} {kvs : List (List Key × V)} (h : H d = some (.dT kvs)) : Isi K H (.ref d) "dict" true := ⟨_, .base (.dT h), kit_ty (by decide +kernel)⟩
theorem sgs_txs (bs : List Nat) : sgs bs = txs (bs.map fun b => [b]) := by
  unfold sgs txs
  rw [List.map_map]
  rfl
theorem kV_S (c : List Nat) : kV (Sum.inr (S c) : Key) = .str (S c) := rfl
theorem keys_fkv (hf : Fil) : (fkv hf).map (fun kv => kV kv.1) = txs (hf.map (·.1)) := by
  unfold fkv txs
  rw [List.map_map, List.map_map]
  rfl
theorem vals_fkv (hf : Fil) : (fkv hf).map Prod.snd = txs (hf.map (·.2)) := by
  unfold fkv txs
  rw [List.map_map, List.map_map]
  rfl
def okKeys (hf : Fil) (bs : List Nat) : Bool := (hf.map (·.1)).all fun c => decide (c ∈ bs.map fun b => [b])
def okFils (hf : Fil) (bs : List Nat) : Bool := okKeys hf bs && isFill (hf.map (·.2)).flatten bs
def oneV (bs : List Nat) : V → V := fun v => match v with | .str x => .bl (decide (tl x ∈ bs.map fun b => [b])) | _ => .non
theorem join_fil (l : List (List Nat)) : Txt.join (S []) (l.map S) = S l.flatten := by
  rw [join_S, joinL_nil]
theorem len_fil (l : List (List Nat)) : ((l.map S).map (·.length)).sum = l.flatten.length := by
  induction l with
  | nil => rfl
  | cons a r ih =>
    rw [List.map_cons, List.map_cons, List.sum_cons, List.flatten_cons, List.length_append, ih]
    rfl
section
variable {P : Program} {w : World} {K : PySem.W.Frag} {mg : Str → Option Value} {base : Heap}
abbrev nAreFillings : List Str := ["thing", "boxes", "boxes_apart", "box", "filling"]
theorem scAreFillings : FnScope nAreFillings ["thing", "boxes"] (defScope sAreFillings) := ⟨rfl, rfl, rfl, by decide +kernel, rfl, by decide +kernel, by decide +kernel⟩
def spAreFillings : Sp := fun vs H Q _ => ∃ (d : Addr) (hf : Fil) (bs : List Nat), vs = [.ref d, .str (S bs)] ∧ H d = some (.dK (fkv hf)) ∧ hf.length ≤ 1000 ∧ (hf.map (·.2)).flatten.length ≤ 1000 ∧ bs.length ≤ 1000 ∧ (∀ b ∈ bs, isLow b = false) ∧ ∀ H', Same H H' → Q (.bl (okFils hf bs)) H'
theorem ok_areFillings {f : Addr} {fd : FuncData} {k : Nat} (F : Fun K "_are_fillings" "_are_fillings" sAreFillings f fd) (DO : Df P w K mg base (k + 1) "is_one_of" ["thing", "strings"] (spIsOneOf K)) (DF : Df P w K mg base (k + 2) "is_filling" ["thing", "boxes"] (spIsFilling K)) (mi : mg "isinstance" = none) (md : mg "dict" = none) (mL : mg "list" = none) (ms : mg "str" = none) (ma : mg "all" = none) :
    FnOk P w K mg base CX0 (k + 3) f fd ["thing", "boxes"] spAreFillings := by
  refine F.ok scAreFillings (fun vs H Q E h => ?_) (fun cdv A outer s H vs Q E hr h => ?_)
  · obtain ⟨d, hf, bs, rfl, _⟩ := h
    rfl
  · obtain ⟨d, hf, bs, rfl, hd, hl, hl2, hb, hlow, q⟩ := h
    refine ⟨_, pss_cons (ps_if (pt_not (pt_val (pe_isDict (pv 0) mi (by rfl) md (by rfl)))) (pss_one (ps_ret pe_bl)) pss_nil)
      (pss_cons (ps_set (i := 2) scAreFillings.nd rfl (.inr rfl) (pe_callTy (call_listStr rfl) (by rfl) mL (by decide +kernel) (pa_cons (pv 1) pa_nil)))
      (pss_cons (ps_if (pt_not (pt_val (pe_callB (cr_all rfl) (by rfl) ma (by decide +kernel) (pa_cons (pe_lock (pe_lc (own := [("box", 3)]) (g := gName 3) (tt := tYes) (te := tCall (spIsOneOf K) [] E0 (tCons (tVar 3) (tCons (tVar 2) tNil))) rfl scAreFillings.nd
            (pi_keys (pv 0)) (blkOk_by (own := [("box", 3)]) (N := nAreFillings) (sc := defScope sAreFillings) (by decide +kernel)) (fun _ _ _ _ _ => pg_name (i := 3) scAreFillings.nd rfl (.inl rfl)) (fun _ _ _ _ _ => pts_nil) (fun _ _ _ _ _ => pe_df DO hr (pa_cons (pv 3) (pa_cons (pv 2) pa_nil))))) pa_nil)))) (pss_one (ps_ret pe_bl)) pss_nil)
      (pss_cons (ps_if (pt_not (pt_val (pe_callB (cr_all rfl) (by rfl) ma (by decide +kernel) (pa_cons (pe_lock (pe_lc (own := [("filling", 4)]) (g := gName 4) (tt := tYes) (te := tIsi K "str" (tVar 4)) rfl scAreFillings.nd
            (pi_values (pv 0)) (blkOk_by (own := [("filling", 4)]) (N := nAreFillings) (sc := defScope sAreFillings) (by decide +kernel)) (fun _ _ _ _ _ => pg_name (i := 4) scAreFillings.nd rfl (.inl rfl)) (fun _ _ _ _ _ => pts_nil) (fun _ _ _ _ _ => pe_isStr (pv 4) mi (by rfl) ms (by rfl)))) pa_nil)))) (pss_one (ps_ret pe_bl)) pss_nil)
      (pss_one (ps_ret (pe_df DF hr (pa_cons (pe_joinV rfl pe_str (pv 0)) (pa_cons (pv 1) pa_nil)))))))), ?_⟩
    have lk : (txs (hf.map (·.1))).length = hf.length := by unfold txs; rw [List.length_map, List.length_map]
    have lv : (txs (hf.map (·.2))).length = hf.length := by unfold txs; rw [List.length_map, List.length_map]
    have lf : (fkv hf).length = hf.length := List.length_map _
    refine ⟨_, rfl, true, isi_dK hd, true, rfl, iteF ⟨_, rfl, bs, rfl, hb, fun L H1 s1 n1 e1 => ?_⟩⟩
    have hd1 := s1 _ _ hd
    have nLd : L ≠ d := fun z => by rw [z, hd1] at e1; cases e1
    -- the keys
    refine ⟨d, _, hd1, trivial, fun od => ⟨_, rfl, d, od, rfl, .inl ⟨fkv hf, upd_same, fun D nD => ?_⟩⟩⟩
    have nDd : D ≠ d := fun z => by rw [z, upd_same] at nD; cases nD
    refine lc_mapW (xs := txs (hf.map (·.1))) (oneV bs) walk_keys (by rw [lf, lk]) (fun i H x H' y => ?_) (fun H2 s2 => s2 _ _ upd_same) nD (by rw [lk]; exact Nat.lt_of_le_of_lt hl (by decide)) ?_ ?_
    · obtain ⟨e, k', v', hk, ex⟩ := y
      refine ⟨e, ?_⟩
      rw [← keys_fkv, List.getElem?_map, hk, ex]
      rfl
    · intro x hx H2 R s2 r
      obtain ⟨c, hc, rfl⟩ := List.mem_map.mp hx
      refine ⟨_, rfl, _, rfl, .inl ⟨c, L, bs.map fun b => [b], rfl, .inl ?_, r H2 fun _ _ e => e⟩⟩
      rw [← sgs_txs]
      exact s2 _ _ (by rw [upd_ne nLd]; exact e1)
    intro H2 s2 e2
    refine ⟨s2 _ _ upd_same, D, (hf.map (·.1)).map fun c => decide (c ∈ bs.map fun b => [b]), rfl, SqL.of ?_, _, rfl, ?_⟩
    · rw [upd_ne nDd, e2]
      unfold txs
      simp only [List.map_map]
      rfl
    rw [List.all_map]
    have s12 : Same H (upd H2 d (.dK (fkv hf))) := s1.trans (same_unlock hd1 s2)
    show (if (!okKeys hf bs) = true then _ else _)
    by_cases h1 : okKeys hf bs = true
    · rw [h1]
      refine iteF ?_
      -- the values
      refine ⟨d, _, upd_same, trivial, fun od2 => ⟨_, rfl, d, od2, fkv hf, rfl, upd_same, fun D2 nD2 => ?_⟩⟩
      have nD2d : D2 ≠ d := fun z => by rw [z, upd_same] at nD2; cases nD2
      refine lc_mapW (xs := txs (hf.map (·.2))) (fun _ => .bl true) walk_values (by rw [lf, lv]) (fun i H x H' y => ?_) (fun H3 s3 => s3 _ _ upd_same) nD2 (by rw [lv]; exact Nat.lt_of_le_of_lt hl (by decide)) ?_ ?_
      · obtain ⟨e, k', hk⟩ := y
        refine ⟨e, ?_⟩
        rw [← vals_fkv, List.getElem?_map, hk]
        rfl
      · intro x hx H3 R s3 r
        obtain ⟨c, hc, rfl⟩ := List.mem_map.mp hx
        exact ⟨_, rfl, true, isi_str _, r H3 fun _ _ e => e⟩
      intro H3 s3 e3
      refine ⟨s3 _ _ upd_same, D2, (hf.map (·.2)).map fun _ => true, rfl, SqL.of ?_, _, rfl, ?_⟩
      · rw [upd_ne nD2d, e3]
        unfold txs
        simp only [List.map_map]
        rfl
      have ht : (((hf.map (·.2)).map fun _ => true).all id) = true := by
        rw [List.all_eq_true]
        intro b hb
        obtain ⟨_, _, rfl⟩ := List.mem_map.mp hb
        rfl
      rw [ht]
      refine iteF ?_
      have s13 : Same H (upd H3 d (.dK (fkv hf))) := s12.trans (same_unlock upd_same s3)
      -- the fillings in one row
      have ev : (fkv hf).map Prod.snd = ((hf.map (·.2)).map S).map V.str := by
        rw [vals_fkv]
        unfold txs
        rw [List.map_map, List.map_map, List.map_map]
        rfl
      refine ⟨_, rfl, _, rfl, d, fkv hf, (hf.map (·.2)).map S, rfl, upd_same, ev, ?_, fun H4 s4 => ⟨_, rfl, ?_⟩⟩
      · rw [len_fil, str_empty, len_S]
        show _ + _ * 0 ≤ _
        omega
      rw [str_empty, join_fil]
      refine .inl ⟨(hf.map (·.2)).flatten, bs, rfl, hl2, hlow, fun H5 s5 => ?_⟩
      have h := q H5 (s13.trans (s4.trans s5))
      unfold okFils at h
      rw [h1] at h
      exact h
    · rw [Bool.eq_false_iff.mpr h1]
      refine iteT ?_
      have h := q _ s12
      unfold okFils at h
      rw [Bool.eq_false_iff.mpr h1] at h
      exact h
end
end Tb

set_option Elab.async false
set_option linter.all false
set_option maxRecDepth 100000
set_option maxHeartbeats 4000000
namespace Tb
open PySem PySem.Spec PyProof.Rows L2 TL
/-- what stands under a key of the moves that are handed in: a list or a tuple -/
def MvIn (H : Hp) (kv : List Key × V) (m : Mv) : Prop := kv.1 = m.key ∧ ∃ t d, kv.2 = .ref t ∧ SeqH H t [.str (S m.to), .ref d] ∧ H d = some (.dK (fkv m.fl))
theorem MvIn.same {H H' : Hp} (s : Same H H') {kv : List Key × V} {m : Mv} (h : MvIn H kv m) : MvIn H' kv m := by
  obtain ⟨e, t, d, a, b, c⟩ := h
  exact ⟨e, t, d, a, b.same s, s _ _ c⟩
theorem MvAt.to_in {H : Hp} {kv : List Key × V} {m : Mv} (h : MvAt H kv m) : MvIn H kv m := by
  obtain ⟨e, t, d, a, b, c⟩ := h
  exact ⟨e, t, d, a, .inr b, c⟩
theorem MvIn.lock {H : Hp} {p : Addr} {od : Obj} {kvs : List (List Key × V)} (hp : H p = some (.dT kvs)) {kv : List Key × V} {m : Mv} (h : MvIn H kv m) : MvIn (upd H p (.frz od (.dT kvs))) kv m := by
  obtain ⟨e, t, d, a, b, c⟩ := h
  refine ⟨e, t, d, a, ?_, by rw [upd_ne (ne_of c hp (by intro z; cases z))]; exact c⟩
  rcases b with b | b
  · exact .inl (by rw [upd_ne (ne_of b hp (by intro z; cases z))]; exact b)
  · exact .inr (by rw [upd_ne (ne_of b hp (by intro z; cases z))]; exact b)
/-- parts that make a program -/
structure FilQ (bs : List Nat) (fl : Fil) : Prop where
  nd : (fl.map (·.1)).Nodup
  ok : okFils fl bs = true
  len : (fl.map (·.2)).flatten.length ≤ 1000
structure PartsQ (pt : Pt) : Prop where
  le : okLetters pt.letters = true
  bo : okBoxes pt.boxes = true
  pl : okPlaces pt.places = true
  ky : (pt.moves.map fun m => (m.pl, m.lt)).Nodup
  mv : ∀ m ∈ pt.moves, m.pl ∈ pt.places ∧ m.lt ∈ pt.letters ∧ m.to ∈ pt.places ∧ FilQ pt.boxes m.fl
  ek : (pt.ends.map (·.1)).Nodup
  en : ∀ q ∈ pt.ends, q.1 ∈ pt.places ∧ isFill q.2 pt.boxes = true ∧ q.2.length ≤ 1000
theorem paired_get2 {α β : Type} {F : α → β → Prop} : ∀ {l : List α} {m : List β} {i : Nat} {x : α}, Paired F l m → l[i]? = some x → ∃ y, m[i]? = some y ∧ F x y
  | _, _, _, _, .nil, h => by simp at h
  | _, _, 0, x, .cons h t, e => by
    simp at e
    subst e
    exact ⟨_, rfl, h⟩
  | _, _, i + 1, x, .cons h t, e => by
    simp at e
    obtain ⟨y, h1, h2⟩ := paired_get2 t e
    exact ⟨y, by simpa using h1, h2⟩
theorem FilQ.few {bs : List Nat} {fl : Fil} (h : FilQ bs fl) (hb : bs.length ≤ 1000) : fl.length ≤ 1000 := by
  have hk : okKeys fl bs = true := by
    have := h.ok
    unfold okFils at this
    exact (Bool.and_eq_true _ _ ▸ this).1
  have sub : (fl.map (·.1)) ⊆ bs.map fun b => [b] := fun x hx => of_decide_eq_true (List.all_eq_true.mp hk x hx)
  have h1 := List.Nodup.length_le_of_subset h.nd sub
  rw [List.length_map, List.length_map] at h1
  omega
section
variable {P : Program} {w : World} {K : PySem.W.Frag} {mg : Str → Option Value} {base : Heap}
abbrev nAreMoves : List Str := ["thing", "letters", "boxes", "places", "letters_apart", "key", "found"]
theorem scAreMoves : FnScope nAreMoves ["thing", "letters", "boxes", "places"] (defScope sAreMoves) := ⟨rfl, rfl, rfl, by decide +kernel, rfl, by decide +kernel, by decide +kernel⟩
def spAreMoves : Sp := fun vs H Q _ => ∃ (d pl : Addr) (kvs : List (List Key × V)) (ms : List Mv) (letters bs : List Nat) (places : List (List Nat)), vs = [.ref d, .str (S letters), .str (S bs), .ref pl] ∧ H d = some (.dT kvs) ∧ Paired (MvIn H) kvs ms ∧ SeqH H pl (txs places) ∧
  letters.length ≤ 1000 ∧ bs.length ≤ 1000 ∧ (∀ b ∈ bs, isLow b = false) ∧ (∀ m ∈ ms, m.pl ∈ places ∧ m.lt ∈ letters ∧ m.to ∈ places ∧ FilQ bs m.fl) ∧ ∀ H', Same H H' → Q (.bl true) H'
theorem ok_areMoves {f : Addr} {fd : FuncData} {k : Nat} (F : Fun K "_are_moves" "_are_moves" sAreMoves f fd) (DP : Df P w K mg base (k + 1) "is_pair" ["thing"] (spIsPair K)) (DO : Df P w K mg base (k + 1) "is_one_of" ["thing", "strings"] (spIsOneOf K)) (DF : Df P w K mg base (k + 3) "_are_fillings" ["thing", "boxes"] spAreFillings) (mi : mg "isinstance" = none) (md : mg "dict" = none) (mL : mg "list" = none) :
    FnOk P w K mg base CX0 (k + 4) f fd ["thing", "letters", "boxes", "places"] spAreMoves := by
  refine F.ok scAreMoves (fun vs H Q E h => ?_) (fun cdv A outer s H vs Q E hr h => ?_)
  · obtain ⟨d, pl, kvs, ms, letters, bs, places, rfl, _⟩ := h
    rfl
  · obtain ⟨d, pl, kvs, ms, letters, bs, places, rfl, hd, hms, hpl, hl, hb, hlow, hok, q⟩ := h
    refine ⟨_, pss_cons (ps_if (pt_not (pt_val (pe_isDict (pv 0) mi (by rfl) md (by rfl)))) (pss_one (ps_ret pe_bl)) pss_nil)
      (pss_cons (ps_set (i := 4) scAreMoves.nd rfl (.inl rfl) (pe_callTy (call_listStr rfl) (by rfl) mL (by decide +kernel) (pa_cons (pv 1) pa_nil)))
      (pss_cons (ps_lock (ps_for PassesOwn.never rfl (pi_itemsT (pv 0)) (pg_tup rfl (pgs_cons (pg_name (i := 5) scAreMoves.nd rfl (.inl rfl)) (pgs_cons (pg_name (i := 6) scAreMoves.nd rfl (.inl rfl)) pgs_nil)))
        (pss_cons (ps_if (PW.pt (pw_or (pt_not (pt_val (pe_df DP hr (pa_cons (pv 5) pa_nil)))) (pw_or1 (pt_not (pt_val (pe_df DP hr (pa_cons (pv 6) pa_nil))))))) (pss_one (ps_ret pe_bl)) pss_nil)
        (pss_cons (ps_if (PW.pt (pw_or (pt_not (pt_val (pe_df DO hr (pa_cons (pe_ix ix_tup (pv 5) pe_int (fun _ _ => rfl)) (pa_cons (pv 3) pa_nil))))) (pw_or1 (pt_not (pt_val (pe_df DO hr (pa_cons (pe_ix ix_tup (pv 5) pe_int (fun _ _ => rfl)) (pa_cons (pv 4) pa_nil)))))))) (pss_one (ps_ret pe_bl)) pss_nil)
        (pss_one (ps_if (PW.pt (pw_or (pt_not (pt_val (pe_df DO hr (pa_cons (pe_ix ix_seq (pv 6) pe_int (fun _ _ => rfl)) (pa_cons (pv 3) pa_nil))))) (pw_or1 (pt_not (pt_val (pe_df DF hr (pa_cons (pe_ix ix_seq (pv 6) pe_int (fun _ _ => rfl)) (pa_cons (pv 2) pa_nil)))))))) (pss_one (ps_ret pe_bl)) pss_nil))))))
      (pss_one (ps_ret pe_bl)))), ?_⟩
    refine ⟨_, rfl, true, isi_dT hd, true, rfl, iteF ⟨_, rfl, letters, rfl, hl, fun L H1 s1 n1 e1 => ?_⟩⟩
    have hd1 := s1 _ _ hd
    have nLd : L ≠ d := fun z => by rw [z, hd1] at e1; cases e1
    refine ⟨d, _, hd1, trivial, fun od => ⟨_, rfl, d, od, kvs, rfl, upd_same, ?_⟩⟩
    have hms1 : Paired (MvIn (upd H1 d (.frz od (.dT kvs)))) kvs ms := Paired.mono (fun kv m h => (h.same s1).lock hd1) hms
    have hpl1 : SeqH (upd H1 d (.frz od (.dT kvs))) pl (txs places) := by
      rcases hpl with h | h
      · exact .inl (by rw [upd_ne (ne_of (s1 _ _ h) hd1 (by intro z; cases z))]; exact s1 _ _ h)
      · exact .inr (by rw [upd_ne (ne_of (s1 _ _ h) hd1 (by intro z; cases z))]; exact s1 _ _ h)
    have hL1 : (upd H1 d (.frz od (.dT kvs))) L = some (.lst (sgs letters)) := by rw [upd_ne nLd]; exact e1
    refine for_it walk_itemsT (fun i σ H' => ∃ v5 v6, σ = [some (.ref d), some (.str (S letters)), some (.str (S bs)), some (.ref pl), some (.ref L), v5, v6] ∧ Same (upd H1 d (.frz od (.dT kvs))) H') ⟨none, none, rfl, fun _ _ e => e⟩ (fun i σ H' _ ⟨_, _, _, s⟩ => s _ _ upd_same) ?_ ?_
    · rintro i x σ H2 H3 hi ⟨v5, v6, rfl, s2⟩ ⟨T, kk, v, kq, hkv, hq, rfl, nT, rfl⟩
      obtain ⟨m, hm, hin⟩ := paired_get2 hms1 hkv
      obtain ⟨ek, t, fd', ev, ht, hfd⟩ := hin
      have ek' : kk = m.key := ek
      have ev' : v = .ref t := ev
      subst ek' ev'
      have hmo := hok m (List.mem_of_getElem? hm)
      have s3 : Same (upd H1 d (.frz od (.dT kvs))) (upd H2 T (.tup [.ref kq, .ref t])) := s2.trans (same_upd nT)
      have hq3 : (upd H2 T (.tup [.ref kq, .ref t])) kq = some (.tup [.str (S m.pl), .str (S [m.lt])]) := same_upd nT _ _ hq
      refine ⟨T, [.ref kq, .ref t], rfl, SqT.of upd_same, rfl, _, _, rfl, _, _, rfl, rfl, ?_⟩
      generalize upd H2 T (.tup [.ref kq, .ref t]) = H3 at s3 hq3
      refine ⟨_, rfl, .inl ⟨kq, _, rfl, .inr hq3, fun H4 s4 => ⟨true, rfl, iteF ⟨_, rfl, .inl ⟨t, _, rfl, (ht.same s3).same s4, fun H5 s5 => ⟨true, rfl, iteF ?_⟩⟩⟩⟩⟩⟩
      have s35 := s4.trans s5
      have hpl5 := (hpl1.same s3).same s35
      have hq5 := s35 _ _ hq3
      have hL5 := s35 _ _ (s3 _ _ hL1)
      have ht5 := (ht.same s3).same s35
      have hfd5 := s35 _ _ (s3 _ _ hfd)
      refine ⟨_, rfl, kq, _, 0, _, rfl, rfl, SqT.of hq5, atI_nat rfl, _, rfl, .inl ⟨m.pl, pl, places, rfl, hpl5, _, rfl, ?_⟩⟩
      rw [decide_eq_true hmo.1]
      refine iteF ⟨_, rfl, kq, _, 1, _, rfl, rfl, SqT.of hq5, atI_nat (j := 1) rfl, _, rfl, .inl ⟨[m.lt], L, letters.map fun b => [b], rfl, .inl (by rw [← sgs_txs]; exact hL5), _, rfl, ?_⟩⟩
      rw [decide_eq_true (show [m.lt] ∈ letters.map fun b => [b] from List.mem_map.mpr ⟨m.lt, hmo.2.1, rfl⟩)]
      refine iteF ?_
      have ix : ∀ (j : Nat) (z : V) (R : VK), ([V.str (S m.to), .ref fd'])[j]? = some z → R z H5 → rIx K (.ref t) (.int (j : Int)) H5 R := by
        intro j z R hz hR
        rcases ht5 with h | h
        · exact .inl ⟨t, _, _, z, rfl, rfl, SqL.of h, atI_nat hz, hR⟩
        · exact .inr (.inl ⟨t, _, _, z, rfl, rfl, SqT.of h, atI_nat hz, hR⟩)
      refine ⟨_, rfl, ix 0 _ _ rfl ⟨_, rfl, .inl ⟨m.to, pl, places, rfl, hpl5, _, rfl, ?_⟩⟩⟩
      rw [decide_eq_true hmo.2.2.1]
      refine iteF ⟨_, rfl, ix 1 _ _ rfl ⟨_, rfl, fd', m.fl, bs, rfl, hfd5, hmo.2.2.2.few hb, hmo.2.2.2.len, hb, hlow, fun H6 s6 => ⟨_, rfl, ?_⟩⟩⟩
      rw [hmo.2.2.2.ok]
      exact iteF ⟨_, _, rfl, s3.trans (s35.trans s6)⟩
    · rintro σ H2 ⟨v5, v6, rfl, s2⟩
      exact ⟨s2 _ _ upd_same, q _ (s1.trans (same_unlock hd1 s2))⟩
/-! ### _are_ends -/
abbrev nAreEnds : List Str := ["thing", "boxes", "places", "place", "filling"]
theorem scAreEnds : FnScope nAreEnds ["thing", "boxes", "places"] (defScope sAreEnds) := ⟨rfl, rfl, rfl, by decide +kernel, rfl, by decide +kernel, by decide +kernel⟩
def spAreEnds : Sp := fun vs H Q _ => ∃ (d pl : Addr) (es : Fil) (bs : List Nat) (places : List (List Nat)), vs = [.ref d, .str (S bs), .ref pl] ∧ H d = some (.dK (fkv es)) ∧ SeqH H pl (txs places) ∧ (∀ b ∈ bs, isLow b = false) ∧ (∀ q ∈ es, q.1 ∈ places ∧ isFill q.2 bs = true ∧ q.2.length ≤ 1000) ∧ ∀ H', Same H H' → Q (.bl true) H'
theorem ok_areEnds {f : Addr} {fd : FuncData} {k : Nat} (F : Fun K "_are_ends" "_are_ends" sAreEnds f fd) (DO : Df P w K mg base (k + 1) "is_one_of" ["thing", "strings"] (spIsOneOf K)) (DF : Df P w K mg base (k + 2) "is_filling" ["thing", "boxes"] (spIsFilling K)) (mi : mg "isinstance" = none) (md : mg "dict" = none) :
    FnOk P w K mg base CX0 (k + 3) f fd ["thing", "boxes", "places"] spAreEnds := by
  refine F.ok scAreEnds (fun vs H Q E h => ?_) (fun cdv A outer s H vs Q E hr h => ?_)
  · obtain ⟨d, pl, es, bs, places, rfl, _⟩ := h
    rfl
  · obtain ⟨d, pl, es, bs, places, rfl, hd, hpl, hlow, hok, q⟩ := h
    refine ⟨_, pss_cons (ps_if (pt_not (pt_val (pe_isDict (pv 0) mi (by rfl) md (by rfl)))) (pss_one (ps_ret pe_bl)) pss_nil)
      (pss_cons (ps_lock (ps_for PassesOwn.never rfl (pi_items (pv 0)) (pg_tup rfl (pgs_cons (pg_name (i := 3) scAreEnds.nd rfl (.inl rfl)) (pgs_cons (pg_name (i := 4) scAreEnds.nd rfl (.inl rfl)) pgs_nil)))
        (pss_one (ps_if (PW.pt (pw_or (pt_not (pt_val (pe_df DO hr (pa_cons (pv 3) (pa_cons (pv 2) pa_nil))))) (pw_or1 (pt_not (pt_val (pe_df DF hr (pa_cons (pv 4) (pa_cons (pv 1) pa_nil)))))))) (pss_one (ps_ret pe_bl)) pss_nil))))
      (pss_one (ps_ret pe_bl))), ?_⟩
    refine ⟨_, rfl, true, isi_dK hd, true, rfl, iteF ?_⟩
    refine ⟨d, _, hd, trivial, fun od => ⟨_, rfl, d, od, fkv es, rfl, upd_same, ?_⟩⟩
    have hpl1 : SeqH (upd H d (.frz od (.dK (fkv es)))) pl (txs places) := by
      rcases hpl with h | h
      · exact .inl (by rw [upd_ne (ne_of h hd (by intro z; cases z))]; exact h)
      · exact .inr (by rw [upd_ne (ne_of h hd (by intro z; cases z))]; exact h)
    refine for_it walk_items (fun i σ H' => ∃ v3 v4, σ = [some (.ref d), some (.str (S bs)), some (.ref pl), v3, v4] ∧ Same (upd H d (.frz od (.dK (fkv es)))) H') ⟨none, none, rfl, fun _ _ e => e⟩ (fun i σ H' _ ⟨_, _, _, s⟩ => s _ _ upd_same) ?_ ?_
    · rintro i x σ H2 H3 hi ⟨v3, v4, rfl, s2⟩ ⟨T, x1, x2, rfl, nT, rfl, hx1, hx2⟩
      have hx1 : ((fkv es)[i]?.map fun kv => kV kv.1) = some x1 := hx1
      have hx2 : (fkv es)[i]?.map Prod.snd = some x2 := hx2
      obtain ⟨c, hc⟩ : ∃ c, es[i]? = some c := by
        cases z : es[i]? with
        | some c => exact ⟨c, rfl⟩
        | none =>
          unfold fkv at hx1
          rw [List.getElem?_map, z] at hx1
          cases hx1
      have e1 : x1 = .str (S c.1) := by
        unfold fkv at hx1
        rw [List.getElem?_map, hc] at hx1
        exact (Option.some.inj hx1).symm
      have e2 : x2 = .str (S c.2) := by
        unfold fkv at hx2
        rw [List.getElem?_map, hc] at hx2
        exact (Option.some.inj hx2).symm
      subst e1 e2
      have hco := hok c (List.mem_of_getElem? hc)
      have s3 : Same (upd H d (.frz od (.dK (fkv es)))) (upd H2 T (.tup [.str (S c.1), .str (S c.2)])) := s2.trans (same_upd nT)
      refine ⟨T, [.str (S c.1), .str (S c.2)], rfl, SqT.of upd_same, rfl, _, _, rfl, _, _, rfl, rfl, ?_⟩
      refine ⟨_, rfl, _, rfl, .inl ⟨c.1, pl, places, rfl, hpl1.same s3, _, rfl, ?_⟩⟩
      rw [decide_eq_true hco.1]
      refine iteF ⟨_, rfl, _, rfl, .inl ⟨c.2, bs, rfl, hco.2.2, hlow, fun H4 s4 => ⟨_, rfl, ?_⟩⟩⟩
      rw [hco.2.1]
      exact iteF ⟨_, _, rfl, s3.trans s4⟩
    · rintro σ H2 ⟨v3, v4, rfl, s2⟩
      exact ⟨s2 _ _ upd_same, q _ (same_unlock hd s2)⟩
end
end Tb

set_option Elab.async false
set_option linter.all false
set_option maxRecDepth 100000
set_option maxHeartbeats 4000000
/-! y = {k: v for ..}, y a local of a def -/
namespace Tb
open PySem PySem.Spec PyProof.Rows L2 TL
theorem sw_trueD {kx vx : Expr} {gs : List Comprehension} {scope : Scope} {pos py : Pos} {y : Str} {l : Nat} {env : Env} (hk : env.scope.kind = .function) (hy : env.scope.names.lookup y = some .local) (hl : (py.line == pos.line) = true)
    (ha : (scope.names.any fun (n, k) => n == y && (k == .local || k == .cell)) = false) : swapsWith (.DictComp kx vx gs scope pos) (some (.Name y py)) l env = pure true := by
  have kdy : env.kindOf y = some .local := hy
  have kdb : env.blockKind = .function := by
    unfold Env.blockKind
    rw [hk]
    rfl
  unfold swapsWith
  simp only [kdb, kdy, ha, Expr.pos, hl]
  rfl
section
variable {X : Cx}
theorem ps_setDc {i : Nat} {y : Str} {py : Pos} {kx vx tg iter : Expr} {ifs : List Expr} {scope : Scope} {own : List (Str × Nat)} {pos spos : Pos} {wi : TI} {g : TG} {tt : TT} {tk tv : TE} (hc : X.calm = true) (hN : X.N.Nodup) (hy : X.N[i]? = some y) (hyl : X.env.scope.names.lookup y = some .local)
    (hsw : swapsWith (.DictComp kx vx [⟨tg, iter, ifs, 0⟩] scope pos) (some (.Name y py)) spos.line X.env = pure true) (hi : PI X tg iter wi) (ok : BlkOk X.N X.env.scope scope own)
    (hg : ∀ (s : Shared) (H : Hp) (C : Addr) (cl : List (Str × Addr)) (fp : List Addr), PG (X.blk s H scope (compEnvC scope cl C X.env) fp) tg g) (ht : ∀ (s : Shared) (H : Hp) (C : Addr) (cl : List (Str × Addr)) (fp : List Addr), PTs (X.blk s H scope (compEnvC scope cl C X.env) fp) ifs tt)
    (hk : ∀ (s : Shared) (H : Hp) (C : Addr) (cl : List (Str × Addr)) (fp : List Addr), PE (X.blk s H scope (compEnvC scope cl C X.env) fp) kx tk)
    (he : ∀ (s : Shared) (H : Hp) (C : Addr) (cl : List (Str × Addr)) (fp : List Addr), PE (X.blk s H scope (compEnvC scope cl C X.env) fp) vx tv) (hs : ∀ x, foldedSetIterable iter X.env x = pure x := by intro _; rfl) :
    PS X (.Assign [.Name y py] (.DictComp kx vx [⟨tg, iter, ifs, 0⟩] scope pos) spos) (tAsg (tDc wi g tt tk tv (own.map (·.2))) (gName i)) := by
  refine ⟨fun pins s σ H D I h => ?_⟩
  rw [exec_Assign_Name_used _ _ _ _ hsw]
  refine wpAny_bind (wpAny_standAt (wpAny_bind ?_))
  have h : tDc wi g tt tk tv (own.map (·.2)) σ H (fun x H1 => gName i x σ H1 D.nx) := h
  show wpAny _ X.A (do let _ ← comprehension (.DictComp kx vx [⟨tg, iter, ifs, 0⟩] scope pos) scope X.env (firstIterPos [⟨tg, iter, ifs, 0⟩] pos) newDict false (eval iter X.env) (some (assign (.Name y py) X.env))) _ _ s
  refine wpAny_bind (thn (dc_core (Qf := fun _ s' => SP X pins D .next s') hc hN I hi ok hg ht hk he hs h fun L C s' m H' J q hn fo => ?_) fun _ s' hq => wpAny_pure (wpAny_pure hq))
  show wpAny _ _ (assign (.Name y py) X.env (.ref L)) _ _ _
  refine wpAny_assign_Name (store_ok2 (v := V.ref L) J hN hy (.inl hyl) rfl (fun s2 J2 ⟨a, sb, ha⟩ => ?_) (.inr hyl))
  obtain ⟨g0, g1, g2, g3, g4, g5⟩ := fo
  have neCa : C ≠ a := by
    rcases ha with z | z
    · rw [z]
      exact g1
    · exact fun e => g4 y a z e.symm
  refine ⟨m, hn.sameBut sb neCa, fun h3 sb3 => ⟨_, H', J2.turned (t' := s2.toks) (fun b o hb e => (sb3.2 b hb).trans e) g0 g1 g3 g4 g5, q⟩⟩
end
end Tb

set_option Elab.async false
set_option linter.all false
set_option maxRecDepth 100000
set_option maxHeartbeats 4000000
namespace Tb
open PySem PySem.Spec PyProof.Rows L2 TL
/-! ### dict comprehensions over anything that is walked -/
section
variable {tk tv : TE} {tt : TT} {g : TG} {vs : List Nat} {σ : L2.St} {H1 : Hp} {D : Addr} {Qd : Hp → Prop} {sl : Nat} {J : It} {n : Nat} {G : Hp → Prop} {Y : Nat → Hp → V → Hp → Prop}
theorem dc_it (w : Walk J n G Y) (Pv : Nat → Hp → Prop) (h0 : Pv 0 (upd H1 D (.dK []))) (hG : ∀ i H, i ≤ n → Pv i H → G H)
    (hs : ∀ i x H H', i < n → Pv i H → Y i H x H' → g x (wipe σ vs) H' fun σ2 H2 => wipe σ2 vs = wipe σ vs ∧ tt σ2 H2 fun b H3 =>
      if b = true then tk σ2 H3 fun y H4 => tv σ2 H4 fun z H5 => ∃ kvs k, y = kV k ∧ H5 D = some (.dK kvs) ∧ kvs.length < sizeLine ∧ Pv (i + 1) (upd H5 D (.dK (putK kvs k z))) else Pv (i + 1) H3) (hd : ∀ H, Pv n H → Qd H) :
    ∃ W : Nat → Nat → Hp → Prop, (∃ m, W 0 m (upd H1 D (.dK []))) ∧ ∀ i m H, W i m H →
      (J.stop i H ∧ Qd H) ∨ (J.go i H ∧ ∃ Nx : Hp → Prop, (∀ H', Nx H' → ∃ m', m' < m ∧ W (i + 1) m' H') ∧ ∀ x H', J.yld i H x H' → g x (wipe σ vs) H' fun σ2 H2 => wipe σ2 vs = wipe σ vs ∧ tt σ2 H2 fun b H3 =>
        if b = true then tk σ2 H3 fun y H4 => tv σ2 H4 fun z H5 => ∃ kvs k, y = kV k ∧ H5 D = some (.dK kvs) ∧ kvs.length < sizeLine ∧ Nx (upd H5 D (.dK (putK kvs k z))) else Nx H3) := by
  refine ⟨fun i m H => m = n - i ∧ i ≤ n ∧ Pv i H, ⟨n, rfl, Nat.zero_le _, h0⟩, fun i m H ⟨em, hi, p⟩ => ?_⟩
  subst em
  rcases Nat.lt_or_ge i n with hlt | hge
  · refine .inr ⟨w.goes i H hlt (hG i H hi p), Pv (i + 1), fun H' p' => ⟨n - (i + 1), by omega, rfl, hlt, p'⟩, fun x H' y => ?_⟩
    exact hs i x H H' hlt p (w.yields i H x H' hlt (hG i H hi p) y)
  · obtain rfl : i = n := Nat.le_antisymm hi hge
    exact .inl ⟨w.stops H (hG i H hi p), hd H p⟩
theorem dc_mapW {xs : List V} (keep : V → Bool) (kf : V → Key) (vf : V → V) (w : Walk J n G Y) (hn : n = xs.length) (hY : ∀ i H x H', Y i H x H' → H' = H ∧ xs[i]? = some x) (hG : ∀ H', Same H1 H' → G H') (nD : H1 D = none) (hl : xs.length < sizeLine) (nd : ((xs.filter keep).map kf).Nodup)
    (ht : ∀ x ∈ xs, ∀ H' (R : Bool → Hp → Prop), Same H1 H' → R (keep x) H' → tt ((wipe σ vs).set sl (some x)) H' R)
    (hk : ∀ x ∈ xs, keep x = true → ∀ H' (R : VK), Same H1 H' → R (kV (kf x)) H' → tk ((wipe σ vs).set sl (some x)) H' R)
    (he : ∀ x ∈ xs, keep x = true → ∀ H' (R : VK), Same H1 H' → (∀ H'', Same H' H'' → R (vf x) H'') → tv ((wipe σ vs).set sl (some x)) H' R)
    (hd : ∀ H', Same H1 H' → H' D = some (.dK ((xs.filter keep).map fun x => (kf x, vf x))) → Qd H') (hw : ∀ x, wipe ((wipe σ vs).set sl (some x)) vs = wipe σ vs := by intro _; rfl) :
    ∃ W : Nat → Nat → Hp → Prop, (∃ m, W 0 m (upd H1 D (.dK []))) ∧ ∀ i m H, W i m H →
      (J.stop i H ∧ Qd H) ∨ (J.go i H ∧ ∃ Nx : Hp → Prop, (∀ H', Nx H' → ∃ m', m' < m ∧ W (i + 1) m' H') ∧ ∀ x H', J.yld i H x H' → gName sl x (wipe σ vs) H' fun σ2 H2 => wipe σ2 vs = wipe σ vs ∧ tt σ2 H2 fun b H3 =>
        if b = true then tk σ2 H3 fun y H4 => tv σ2 H4 fun z H5 => ∃ kvs k, y = kV k ∧ H5 D = some (.dK kvs) ∧ kvs.length < sizeLine ∧ Nx (upd H5 D (.dK (putK kvs k z))) else Nx H3) := by
  refine dc_it w (fun i H => Same H1 H ∧ H D = some (.dK (((xs.take i).filter keep).map fun x => (kf x, vf x)))) ⟨same_upd nD, upd_same⟩ (fun i H _ h => hG H h.1) ?_ ?_
  · rintro i x H H' hi ⟨s, e⟩ y
    obtain ⟨rfl, hx⟩ := hY _ _ _ _ y
    have hm := List.mem_of_getElem? hx
    have et : xs.take (i + 1) = xs.take i ++ [x] := by
      rw [List.take_add_one, hx]
      rfl
    refine ⟨hw _, tif (k := keep x) (fun R r => ht x hm _ R s r) (fun hkx => hk x hm hkx _ _ s (he x hm hkx _ _ s fun H2 s2 => ?_)) (fun hkx => ⟨s, ?_⟩)⟩
    · have e1 : [x].filter keep = [x] := by simp [List.filter_cons, hkx]
      refine ⟨_, kf x, rfl, s2 _ _ e, ?_, fun b o eb => ?_, ?_⟩
      · rw [List.length_map]
        refine Nat.lt_of_le_of_lt (List.length_filter_le _ _) ?_
        rw [List.length_take]
        exact Nat.lt_of_le_of_lt (Nat.min_le_right _ _) hl
      · rw [upd_ne (ne_of_none eb nD)]
        exact s2 _ _ (s _ _ eb)
      · rw [upd_same, putK_end, et, List.filter_append, e1, List.map_append]
        · rfl
        · intro z
          rw [List.map_map] at z
          have h1 : ((xs.take (i + 1)).filter keep).map kf |>.Nodup := by
            refine List.Sublist.nodup ?_ nd
            exact ((List.take_sublist _ _).filter _).map _
          rw [et, List.filter_append, e1, List.map_append, List.nodup_append] at h1
          exact h1.2.2 _ z _ (List.mem_singleton.mpr rfl) rfl
    · have e1 : [x].filter keep = [] := by simp [List.filter_cons, hkx]
      rw [et, List.filter_append, e1, List.append_nil]
      exact e
  · rintro H ⟨s, e⟩
    subst hn
    rw [List.take_length] at e
    exact hd H s e
end
/-- one target, two kinds of values -/
def gOr (g1 g2 : TG) : TG := fun v σ H Q => g1 v σ H Q ∨ g2 v σ H Q
theorem pg_or {X : Cx} {e : Expr} {g1 g2 : TG} (h1 : PG X e g1) (h2 : PG X e g2) : PG X e (gOr g1 g2) := ⟨fun pins s σ H v u Q I r h => h.elim (fun h => h1.run pins s σ H v u Q I r h) fun h => h2.run pins s σ H v u Q I r h⟩
/-! ### what is kept of the fillings -/
def keptF (fl : Fil) : Fil := ((sortN (fl.map fun q => q.1.headD 0)).map fun b => ([b], (getF fl [b]).getD [])).filter fun q => decide (q.2 ≠ [])
def keptM (m : Mv) : Mv := { m with fl := keptF m.fl }
theorem keptM_key (m : Mv) : (keptM m).key = m.key := rfl
/-- all keys are one sign each -/
def Ones (fl : Fil) : Prop := ∀ q ∈ fl, ∃ b, q.1 = [b]
theorem heads_keys {fl : Fil} (h : Ones fl) : fl.map (·.1) = (fl.map fun q => q.1.headD 0).map fun b => [b] := by
  rw [List.map_map]
  refine List.map_congr_left fun q hq => ?_
  obtain ⟨b, e⟩ := h q hq
  have h1 : q.1 = [q.1.headD 0] := by
    rw [e]
    rfl
  exact h1
theorem FilQ.ones {bs : List Nat} {fl : Fil} (h : FilQ bs fl) : Ones fl := by
  intro q hq
  have hk : okKeys fl bs = true := by
    have := h.ok
    unfold okFils at this
    exact (Bool.and_eq_true _ _ ▸ this).1
  have := of_decide_eq_true (List.all_eq_true.mp hk q.1 (List.mem_map.mpr ⟨q, hq, rfl⟩))
  obtain ⟨b, _, e⟩ := List.mem_map.mp this
  exact ⟨b, e.symm⟩
/-- a move that is kept: a tuple, its dict new -/
def MvNew (H0 H : Hp) (kv : List Key × V) (m : Mv) : Prop := kv.1 = m.key ∧ ∃ t d, kv.2 = .ref t ∧ H t = some (.tup [.str (S m.to), .ref d]) ∧ H d = some (.dK (fkv m.fl)) ∧ H0 d = none
theorem MvNew.at {H0 H : Hp} {kv : List Key × V} {m : Mv} (h : MvNew H0 H kv m) : MvAt H kv m := by
  obtain ⟨e, t, d, a, b, c, _⟩ := h
  exact ⟨e, t, d, a, b, c⟩
theorem MvNew.but {H0 H H' : Hp} {p : Addr} {kvs : List (List Key × V)} (hp : H p = some (.dT kvs)) (s : But p H H') {kv : List Key × V} {m : Mv} (h : MvNew H0 H kv m) : MvNew H0 H' kv m := by
  obtain ⟨e, t, d, a, b, c, n⟩ := h
  exact ⟨e, t, d, a, s _ _ b (ne_of b hp (by intro z; cases z)), s _ _ c (ne_of c hp (by intro z; cases z)), n⟩
theorem get_kept {fl : Fil} (h : Ones fl) {b : Nat} (hb : b ∈ fl.map fun q => q.1.headD 0) : ∃ f, getF fl [b] = some f := by
  have hm : [b] ∈ fl.map (·.1) := by
    rw [heads_keys h]
    exact List.mem_map.mpr ⟨b, hb, rfl⟩
  obtain ⟨f, e, _⟩ := getF_some hm
  exact ⟨f, e⟩
def keepV (fl : Fil) : V → Bool := fun v => match v with | .str x => decide ((getF fl (tl x)).getD [] ≠ []) | _ => false
def keyV : V → Key := fun v => match v with | .str x => Sum.inr x | _ => Sum.inl 0
def fillV (fl : Fil) : V → V := fun v => match v with | .str x => .str (S ((getF fl (tl x)).getD [])) | _ => .non
theorem kept_eq (fl : Fil) : ((sgs (sortN (fl.map fun q => q.1.headD 0))).filter (keepV fl)).map (fun x => (keyV x, fillV fl x)) = fkv (keptF fl) := by
  unfold sgs fkv keptF
  generalize sortN (fl.map fun q => q.1.headD 0) = l
  induction l with
  | nil => rfl
  | cons b l ih =>
    have e1 : keepV fl (.str (S [b])) = decide ((getF fl [b]).getD [] ≠ []) := rfl
    rw [List.map_cons, List.map_cons, List.filter_cons, List.filter_cons, e1]
    by_cases z : (getF fl [b]).getD [] ≠ []
    · rw [decide_eq_true z, if_pos rfl, if_pos rfl, List.map_cons, List.map_cons, ih]
      rfl
    · rw [decide_eq_false z, if_neg Bool.false_ne_true, if_neg Bool.false_ne_true, ih]
theorem kept_nd {fl : Fil} (nd : (fl.map (·.1)).Nodup) (h : Ones fl) : (((sgs (sortN (fl.map fun q => q.1.headD 0))).filter (keepV fl)).map keyV).Nodup := by
  have h1 : (fl.map fun q => q.1.headD 0).Nodup := by
    rw [heads_keys h, List.nodup_iff_pairwise_ne] at nd
    rw [List.nodup_iff_pairwise_ne]
    exact (List.pairwise_map.mp nd).imp fun h e => h (by rw [e])
  have h2 : (sortN (fl.map fun q => q.1.headD 0)).Nodup := (sortN_perm _).nodup_iff.mpr h1
  have h3 : ((sgs (sortN (fl.map fun q => q.1.headD 0))).map keyV).Nodup := by
    unfold sgs
    rw [List.map_map]
    refine List.Pairwise.map _ (fun a b hab z => hab ?_) h2
    have := key_S.mp z
    injection this
  exact List.Sublist.nodup (List.filter_sublist.map _) h3
theorem dec_strne (a b : List Nat) : (!decide (V.str (S a) = V.str (S b))) = decide (a ≠ b) := by
  by_cases h : a = b
  · simp [h]
  · have h2 : V.str (S a) ≠ V.str (S b) := fun z => h (by injection z with z; exact S_inj z)
    simp [h, h2]
section
variable {P : Program} {w : World} {K : PySem.W.Frag} {mg : Str → Option Value} {base : Heap}
abbrev nKept : List Str := ["moves", "kept", "place", "letter", "target", "fillings", "ascending", "box"]
theorem scKept : FnScope nKept ["moves"] (defScope sKept) := ⟨rfl, rfl, rfl, by decide +kernel, rfl, by decide +kernel, by decide +kernel⟩
def spKept : Sp := fun vs H Q _ => ∃ (d : Addr) (kvs : List (List Key × V)) (ms : List Mv), vs = [.ref d] ∧ H d = some (.dT kvs) ∧ Paired (MvIn H) kvs ms ∧ ms.length ≤ 1000 ∧ (ms.map fun m => (m.pl, m.lt)).Nodup ∧ (∀ m ∈ ms, (m.fl.map (·.1)).Nodup ∧ Ones m.fl ∧ m.fl.length < 64) ∧
  ∀ p H' kk, Same H H' → H p = none → H' p = some (.dT kk) → Paired (MvNew H H') kk (ms.map keptM) → Q (.ref p) H'
theorem ok_kept {f : Addr} {fd : FuncData} {k : Nat} (F : Fun K "_kept_moves" "_kept_moves" sKept f fd) (ms' : mg "sorted" = none) : FnOk P w K mg base CX0 (k + 1) f fd ["moves"] spKept := by
  refine F.ok scKept (fun vs H Q E h => ?_) (fun cdv A outer s H vs Q E hr h => ?_)
  · obtain ⟨d, kvs, ms, rfl, _⟩ := h
    rfl
  · obtain ⟨d, kvs, ms, rfl, hd, hms, hl, hnd, hok, q⟩ := h
    have hu := hu_of hr
    refine ⟨_, pss_cons (ps_set (i := 1) scKept.nd rfl (.inl rfl) pe_newT)
      (pss_cons (ps_lock (ps_for PassesOwn.never rfl (pi_itemsT (pv 0)) (pg_tup rfl (pgs_cons (pg_tup rfl (pgs_cons (pg_name (i := 2) scKept.nd rfl (.inl rfl)) (pgs_cons (pg_name (i := 3) scKept.nd rfl (.inl rfl)) pgs_nil))) (pgs_cons (pg_or (pg_unl rfl (pgs_cons (pg_name (i := 4) scKept.nd rfl (.inl rfl)) (pgs_cons (pg_name (i := 5) scKept.nd rfl (.inr rfl)) pgs_nil))) (pg_tup rfl (pgs_cons (pg_name (i := 4) scKept.nd rfl (.inl rfl)) (pgs_cons (pg_name (i := 5) scKept.nd rfl (.inr rfl)) pgs_nil)))) pgs_nil)))
        (pss_cons (ps_setDc (i := 6) (own := [("box", 7)]) (g := gName 7) (tt := tTest (tOp rNe (tDGet (tVar 5) (tVar 7)) (tC (.str "")))) (tk := tVar 7) (tv := tDGet (tVar 5) (tVar 7)) rfl scKept.nd rfl rfl (sw_trueD rfl rfl rfl (by decide +kernel))
            (pi_list (pe_callB (call_sortedD rfl) (by rfl) ms' (by decide +kernel) (pa_cons (pv 5) pa_nil))) (blkOk_by (own := [("box", 7)]) (N := nKept) (sc := defScope sKept) (by decide +kernel)) (fun _ _ _ _ _ => pg_name (i := 7) scKept.nd rfl (.inl rfl)) (fun _ _ _ _ _ => pts_one (pt_cmpR op_ne (pe_dget hu (pv 5) (pv 7) (fun _ _ => rfl)) pe_str (nomark _))) (fun _ _ _ _ _ => pv 7) (fun _ _ _ _ _ => pe_dget hu (pv 5) (pv 7) (fun _ _ => rfl)))
        (pss_one (ps_dput hu (pv 1) (pe_tupS (pa_cons (pv 2) (pa_cons (pv 3) pa_nil))) (pe_tupS (pa_cons (pv 4) (pa_cons (pv 6) pa_nil))) rfl)))))
      (pss_one (ps_ret (pv 1)))), ?_⟩
    intro p H1 s1 n1 e1
    have hd1 := s1 _ _ hd
    have npd : p ≠ d := fun z => by rw [z] at n1; rw [n1] at hd; cases hd
    refine ⟨d, _, hd1, trivial, fun od => ⟨_, rfl, d, od, kvs, rfl, upd_same, ?_⟩⟩
    have hms1 : Paired (MvIn (upd H1 d (.frz od (.dT kvs)))) kvs ms := Paired.mono (fun kv m h => (h.same s1).lock hd1) hms
    have hlen : kvs.length = ms.length := Paired.length hms
    have sl : ∀ {x : Addr}, (upd H1 d (.frz od (.dT kvs))) x = none → H x = none := fun {x} h => by
      by_cases e : x = d
      · rw [e, upd_same] at h
        cases h
      · rw [upd_ne e] at h
        exact s1.free h
    refine for_it walk_itemsT (fun i σ H' => ∃ v2 v3 v4 v5 v6 kk, σ = [some (.ref d), some (.ref p), v2, v3, v4, v5, v6, none] ∧ But p (upd H1 d (.frz od (.dT kvs))) H' ∧ H' p = some (.dT kk) ∧ Paired (MvNew H H') kk ((ms.take i).map keptM))
      ⟨none, none, none, none, none, [], rfl, But.refl _ _, by rw [upd_ne npd]; exact e1, .nil⟩ (fun i σ H' _ ⟨_, _, _, _, _, _, _, b, _⟩ => b _ _ upd_same npd.symm) ?_ ?_
    · rintro i x σ H2 H3 hi ⟨v2, v3, v4, v5, v6, kk, rfl, b2, e2, hk2⟩ ⟨T, kx, v, kq, hkv, hq, rfl, nT, rfl⟩
      obtain ⟨m, hm, hin⟩ := paired_get2 hms1 hkv
      obtain ⟨ek, t, fd', ev, ht, hfd⟩ := hin
      have ek' : kx = m.key := ek
      have ev' : v = .ref t := ev
      subst ek' ev'
      obtain ⟨mnd, mon, m64⟩ := hok m (List.mem_of_getElem? hm)
      have nTp : T ≠ p := fun z => by rw [z, e2] at nT; cases nT
      have b3 : But p (upd H1 d (.frz od (.dT kvs))) (upd H2 T (.tup [.ref kq, .ref t])) := b2.trans (Same.but (same_upd nT) p)
      have hq3 : (upd H2 T (.tup [.ref kq, .ref t])) kq = some (.tup [.str (S m.pl), .str (S [m.lt])]) := same_upd nT _ _ hq
      have e3 : (upd H2 T (.tup [.ref kq, .ref t])) p = some (.dT kk) := by rw [upd_ne nTp.symm]; exact e2
      have hk3 : Paired (MvNew H (upd H2 T (.tup [.ref kq, .ref t]))) kk ((ms.take i).map keptM) := Paired.mono (fun _ _ h => h.but e2 (Same.but (same_upd nT) p)) hk2
      have ntp : t ≠ p := fun z => by
        have h1 := (ht : SeqH _ t _)
        rw [z] at h1
        have h2 : (upd H1 d (.frz od (.dT kvs))) p = some (.dT []) := by rw [upd_ne npd]; exact e1
        rcases h1 with h1 | h1 <;> (rw [h2] at h1; cases h1)
      have nfp : fd' ≠ p := fun z => by
        have h2 : (upd H1 d (.frz od (.dT kvs))) p = some (.dT []) := by rw [upd_ne npd]; exact e1
        rw [z, h2] at hfd
        cases hfd
      have ht3 : SeqH (upd H2 T (.tup [.ref kq, .ref t])) t [.str (S m.to), .ref fd'] := ht.imp (fun h => b3 _ _ h ntp) fun h => b3 _ _ h ntp
      refine ⟨T, [.ref kq, .ref t], rfl, SqT.of upd_same, rfl, _, _, rfl, ⟨kq, _, rfl, SqT.of hq3, rfl, _, _, rfl, _, _, rfl, rfl, _, _, rfl, ?_⟩⟩
      generalize upd H2 T (.tup [.ref kq, .ref t]) = H3 at b3 hq3 e3 hk3 ht3
      have hfd3 : H3 fd' = some (.dK (fkv m.fl)) := b3 _ _ hfd nfp
      have hget : ∀ b ∈ m.fl.map fun q => q.1.headD 0, ∃ f, getF m.fl [b] = some f ∧ valV (fkv m.fl) (Sum.inr (S [b])) = some (.str (S f)) := fun b hb => by
        obtain ⟨f, e⟩ := get_kept mon hb
        exact ⟨f, e, by rw [val_fkv, e]; rfl⟩
      have hks : (fkv m.fl).map (·.1) = ((m.fl.map fun q => q.1.headD 0).map fun b => S [b]).map Sum.inr := by
        have h1 : (fkv m.fl).map (·.1) = (m.fl.map (·.1)).map fun c => (Sum.inr (S c) : Key) := by
          unfold fkv
          rw [List.map_map, List.map_map]
          rfl
        rw [h1, heads_keys mon]
        simp only [List.map_map]
        rfl
      rcases ht3 with h | h
      all_goals
        first
          | refine .inl ⟨t, _, rfl, SqL.of h, rfl, _, _, rfl, _, _, rfl, rfl, rfl, ?_⟩
          | refine .inr ⟨t, _, rfl, SqT.of h, rfl, _, _, rfl, _, _, rfl, rfl, rfl, ?_⟩
        refine ⟨_, rfl, fd', fkv m.fl, (m.fl.map fun q => q.1.headD 0).map fun b => S [b], rfl, .inl hfd3, hks, by rw [List.length_map, List.length_map]; exact m64, fun ys a hp hs na => ?_⟩
        have ey := sorted_signs hp hs
        subst ey
        have ea : ((sortN (m.fl.map fun q => q.1.headD 0)).map fun c => S [c]).map V.str = sgs (sortN (m.fl.map fun q => q.1.headD 0)) := by
          unfold sgs
          rw [List.map_map]
          rfl
        rw [ea]
        have s34 := same_upd (o := .lst (sgs (sortN (m.fl.map fun q => q.1.headD 0)))) na
        have lsg : (sgs (sortN (m.fl.map fun q => q.1.headD 0))).length < 64 := by
          unfold sgs
          rw [List.length_map, (sortN_perm _).length_eq, List.length_map]
          exact m64
        have hea : (upd H3 a (.lst (sgs (sortN (m.fl.map fun q => q.1.headD 0))))) a = some (.lst (sgs (sortN (m.fl.map fun q => q.1.headD 0)))) := upd_same
        generalize upd H3 a (.lst (sgs (sortN (m.fl.map fun q => q.1.headD 0)))) = H4 at s34 hea
        refine ⟨a, rfl, ⟨_, SqL.of hea⟩, fun D nD => ?_⟩
        refine dc_mapW (xs := sgs (sortN (m.fl.map fun q => q.1.headD 0))) (keepV m.fl) keyV (fillV m.fl) walk_list rfl (fun i H x H' y => ⟨y.1, y.2⟩) (fun H' s' => SqL.of (s' _ _ hea)) nD (Nat.lt_of_lt_of_le lsg (by decide)) (kept_nd mnd mon) ?_ ?_ ?_ ?_
        · intro x hx H5 R s5 r
          obtain ⟨b, hb, rfl⟩ := List.mem_map.mp hx
          obtain ⟨f, g1, g2⟩ := hget b ((sortN_perm _).mem_iff.mp hb)
          refine ⟨_, rfl, _, rfl, fd', _, rfl, g2 ▸ DGet.k (k := Sum.inr (S [b])) (s5 _ _ (s34 _ _ hfd3)), rfl, _, rfl, ?_⟩
          rw [str_empty, dec_strne]
          have e5 : keepV m.fl (.str (S [b])) = decide (f ≠ []) := by
            show decide ((getF m.fl [b]).getD [] ≠ []) = _
            rw [g1]
            rfl
          rw [e5] at r
          exact r
        · intro x hx _ H5 R s5 r
          obtain ⟨b, hb, rfl⟩ := List.mem_map.mp hx
          exact ⟨_, rfl, r⟩
        · intro x hx _ H5 R s5 r
          obtain ⟨b, hb, rfl⟩ := List.mem_map.mp hx
          obtain ⟨f, g1, g2⟩ := hget b ((sortN_perm _).mem_iff.mp hb)
          refine ⟨_, rfl, _, rfl, fd', _, rfl, g2 ▸ DGet.k (k := Sum.inr (S [b])) (s5 _ _ (s34 _ _ hfd3)), ?_⟩
          have r' := r H5 (fun _ _ e => e)
          have e5 : fillV m.fl (.str (S [b])) = .str (S f) := by
            show V.str (S ((getF m.fl [b]).getD [])) = _
            rw [g1]
            rfl
          rw [e5] at r'
          exact r'
        intro H5 s5 e5
        rw [kept_eq] at e5
        -- kept[(place, letter)] = (target, ascending)
        refine ⟨_, rfl, _, rfl, by show 2 ≤ sizeLine; decide, fun W H6 s6 n6 e6 => ⟨_, rfl, _, rfl, _, rfl, by show 2 ≤ sizeLine; decide, fun kT H7 s7 n7 e7 => ?_⟩⟩
        have s37 : Same H3 H7 := ((s34.trans s5).trans s6).trans s7
        have eD7 : H7 D = some (.dK (fkv (keptF m.fl))) := s7 _ _ (s6 _ _ e5)
        have nHD : H D = none := sl (b3.free e3 (s34.free nD))
        have hkeys : kk.map (·.1) = ((ms.take i).map keptM).map Mv.key := by
          have hK : ∀ {kvs : List (List Key × V)} {l : List Mv}, Paired (MvNew H H3) kvs l → kvs.map (·.1) = l.map Mv.key := by
            intro kvs l hp
            induction hp with
            | nil => rfl
            | cons h _ ih => rw [List.map_cons, List.map_cons, h.1, ih]
          exact hK hk3
        have et : ms.take (i + 1) = ms.take i ++ [m] := by
          rw [List.take_add_one, hm]
          rfl
        have hkn : m.key ∉ kk.map (·.1) := fun z => by
          rw [hkeys, List.map_map] at z
          obtain ⟨m', hm', e'⟩ := List.mem_map.mp z
          obtain ⟨k1, k2⟩ := key_inj (m := m') (show m'.key = _ from e')
          have h1 : ((ms.take (i + 1)).map fun m => (m.pl, m.lt)).Nodup := ((List.take_sublist _ _).map _).nodup hnd
          rw [et, List.map_append, List.nodup_append] at h1
          exact h1.2.2 _ (List.mem_map.mpr ⟨m', hm', rfl⟩) _ (List.mem_singleton.mpr rfl) (by rw [k1, k2])
        have lkk : kk.length < sizeLine := by
          have h3 := Paired.length hk3
          rw [h3, List.length_map, List.length_take]
          exact small1000 (Nat.le_trans (Nat.min_le_right _ _) hl)
        have e37 : H7 p = some (.dT kk) := s37 _ _ e3
        refine ⟨p, _, rfl, DPut.t (k := m.key) e37 e7 lkk, ?_⟩
        refine ⟨_, _, _, _, _, _, rfl, (b3.trans (Same.but s37 p)).trans (But.upd p H7 _), upd_same, ?_⟩
        rw [putK_end _ hkn, et, List.map_append]
        have nWp : W ≠ p := fun z => by rw [z, s5 _ _ (s34 _ _ e3)] at n6; cases n6
        have nDp : D ≠ p := fun z => by rw [z, e37] at eD7; cases eD7
        refine (Paired.mono (fun _ _ h => h.but e3 ((Same.but s37 p).trans (But.upd p H7 _))) hk3).snoc ⟨rfl, W, D, rfl, ?_, ?_, nHD⟩
        · rw [upd_ne nWp]
          exact s7 _ _ e6
        · rw [upd_ne nDp]
          exact eD7
    · rintro σ H2 ⟨v2, v3, v4, v5, v6, kk, rfl, b2, e2, hk2⟩
      rw [hlen, List.take_length] at hk2
      refine ⟨b2 _ _ upd_same npd.symm, _, rfl, ?_⟩
      have s2 : Same H (upd H2 d (.dT kvs)) := by
        intro b o eb
        by_cases hb : b = d
        · rw [hb, hd] at eb
          cases eb
          rw [hb, upd_same]
        · rw [upd_ne hb]
          refine b2 b o ?_ (fun z => by rw [z, n1] at eb; cases eb)
          rw [upd_ne hb]
          exact s1 _ _ eb
      refine q p _ kk s2 n1 (by rw [upd_ne npd]; exact e2) (Paired.mono (fun _ _ h => ?_) hk2)
      obtain ⟨e, t, d2, a, b, c, n⟩ := h
      have f2 : H2 d = some (.frz od (.dT kvs)) := b2 _ _ upd_same npd.symm
      exact ⟨e, t, d2, a, by rw [upd_ne (ne_of b f2 (by intro z; cases z))]; exact b, by rw [upd_ne (ne_of c f2 (by intro z; cases z))]; exact c, n⟩
end
end Tb

set_option Elab.async false
set_option linter.all false
set_option maxRecDepth 100000
set_option maxHeartbeats 4000000
namespace Tb
open PySem PySem.Spec PyProof.Rows L2 TL
/-- a statement that is never reached -/
def tDead : TS := fun _ _ _ => False
theorem isCap_low' {c : Nat} (h : 65 ≤ c ∧ c ≤ 90) : isLow c = false := decide_eq_false (by omega)
theorem ps_dead {X : Cx} {st : Stmt} : PS X st tDead := ⟨fun _ _ _ _ _ _ h => h.elim⟩
theorem putF_end {f : Str} {v : V} : ∀ {fs : List (Str × V)}, f ∉ fs.map (·.1) → putF f v fs = fs ++ [(f, v)]
  | [], _ => rfl
  | (g, x) :: r, h => by
    have hg : g ≠ f := fun z => h (by rw [← z]; exact List.mem_cons_self)
    show (if g = f then (g, v) :: r else (g, x) :: putF f v r) = _
    rw [if_neg hg, putF_end (fun z => h (List.mem_cons_of_mem _ z))]
    rfl
/-- tuple(xs), a list or a tuple -/
def rTupS : List V → Hp → VK → Prop := fun xs H Q => ∃ p ys, xs = [V.ref p] ∧ SeqH H p ys ∧ ∀ l H', Same H H' → H' l = some (.tup ys) → Q (.ref l) H'
theorem call_tupS {X : Cx} : CallR X (.type "tuple") rTupS := CallR.weak call_tuple_of fun xs H Q ⟨p, ys, e, h, q⟩ => ⟨p, ys, e, h.elim (fun h => .inl ⟨SqL.of h, fun l hl => q l _ (same_upd hl) upd_same⟩) fun h => .inr ⟨SqT.of h, q p H (fun _ _ e => e) h⟩⟩
theorem dget_kz {H : Hp} {a : Addr} {o : Obj} {kvs : List (Key × V)} {k : Key} (e : H a = some (.frz o (.dK kvs))) : DGet H a (kV k) (valV kvs k) := .inl ⟨kvs, k, .inr ⟨o, e⟩, rfl, rfl⟩
/-! ### a program's fields -/
def flds (L B : List Nat) (pl mv en : Addr) : List (Str × V) := [("_letters", .str (S L)), ("_boxes", .str (S B)), ("_places", .ref pl), ("_moves", .ref mv), ("_ends", .ref en)]
structure PrAt (C : Addr) (H : Hp) (p : Addr) (L B : List Nat) (places : List (List Nat)) (ms : List Mv) (es : Fil) : Prop where
  ob : ∃ dx pl mv en kk, H p = some (.ins C dx (flds L B pl mv en)) ∧ H pl = some (.tup (txs places)) ∧ H mv = some (.dT kk) ∧ Paired (MvAt H) kk ms ∧ H en = some (.dK (fkv es))
theorem PrAt.same {C : Addr} {H H' : Hp} (s : Same H H') {p : Addr} {L B : List Nat} {places : List (List Nat)} {ms : List Mv} {es : Fil} (h : PrAt C H p L B places ms es) : PrAt C H' p L B places ms es := by
  obtain ⟨dx, pl, mv, en, kk, h1, h2, h3, h4, h5⟩ := h.ob
  exact ⟨dx, pl, mv, en, kk, s _ _ h1, s _ _ h2, s _ _ h3, Paired.mono (fun _ _ z => z.same s) h4, s _ _ h5⟩
/-- .. whose dicts were not there before -/
structure PrNew (C : Addr) (H0 H : Hp) (p : Addr) (L B : List Nat) (places : List (List Nat)) (ms : List Mv) (es : Fil) : Prop where
  ob : ∃ dx pl mv en kk, H p = some (.ins C dx (flds L B pl mv en)) ∧ H pl = some (.tup (txs places)) ∧ H mv = some (.dT kk) ∧ H0 mv = none ∧ Paired (MvNew H0 H) kk ms ∧ H en = some (.dK (fkv es)) ∧ H0 en = none
theorem PrNew.at {C : Addr} {H0 H : Hp} {p : Addr} {L B : List Nat} {places : List (List Nat)} {ms : List Mv} {es : Fil} (h : PrNew C H0 H p L B places ms es) : PrAt C H p L B places ms es := by
  obtain ⟨dx, pl, mv, en, kk, h1, h2, h3, _, h4, h5, _⟩ := h.ob
  exact ⟨dx, pl, mv, en, kk, h1, h2, h3, Paired.mono (fun _ _ z => z.at) h4, h5⟩
/-- the class as the top has made it -/
structure PrTxt (K : PySem.W.Frag) (mg : Str → Option Value) (C : Addr) : Prop where
  cl : Cls K C
  nL : NoAttr K C "_letters"
  nB : NoAttr K C "_boxes"
  nP : NoAttr K C "_places"
  nM : NoAttr K C "_moves"
  nE : NoAttr K C "_ends"
  mgC : mg "Program" = some (.ref C)
/-- what is handed in for a program -/
structure InAt (H : Hp) (tp tm te : Addr) (pt : Pt) : Prop where
  pl : SeqH H tp (txs pt.places)
  mv : ∃ kvs, H tm = some (.dT kvs) ∧ Paired (MvIn H) kvs pt.moves
  en : H te = some (.dK (fkv pt.ends))
theorem InAt.same {H H' : Hp} (s : Same H H') {tp tm te : Addr} {pt : Pt} (h : InAt H tp tm te pt) : InAt H' tp tm te pt := by
  obtain ⟨kvs, a, b⟩ := h.mv
  exact ⟨h.pl.same s, ⟨kvs, s _ _ a, Paired.mono (fun _ _ z => z.same s) b⟩, s _ _ h.en⟩
theorem InAt.but {H H' : Hp} {p C dx : Addr} {fs : List (Str × V)} (hp : H p = some (.ins C dx fs)) (s : But p H H') {tp tm te : Addr} {pt : Pt} (h : InAt H tp tm te pt) : InAt H' tp tm te pt := by
  obtain ⟨kvs, a, b⟩ := h.mv
  refine ⟨h.pl.imp (fun z => s _ _ z (ne_of z hp (by intro z; cases z))) fun z => s _ _ z (ne_of z hp (by intro z; cases z)), ⟨kvs, s _ _ a (ne_of a hp (by intro z; cases z)), Paired.mono (fun kv m z => ?_) b⟩, s _ _ h.en (ne_of h.en hp (by intro z; cases z))⟩
  obtain ⟨e, t, d, h1, h2, h3⟩ := z
  exact ⟨e, t, d, h1, h2.imp (fun z => s _ _ z (ne_of z hp (by intro z; cases z))) fun z => s _ _ z (ne_of z hp (by intro z; cases z)), s _ _ h3 (ne_of h3 hp (by intro z; cases z))⟩
theorem PartsQ.few {pt : Pt} (h : PartsQ pt) : pt.letters.length ≤ 5 ∧ 1 ≤ pt.letters.length ∧ pt.boxes.length ≤ 6 ∧ pt.places.length ≤ 50 ∧ 1 ≤ pt.places.length ∧ (∀ x ∈ pt.places, x.length ≤ 8) ∧ pt.moves.length ≤ 250 ∧ pt.ends.length ≤ 50 := by
  have h1 := h.le
  have h2 := h.bo
  have h3 := h.pl
  unfold okLetters at h1
  unfold okBoxes at h2
  unfold okPlaces at h3
  simp only [Bool.and_eq_true, decide_eq_true_eq, List.all_eq_true] at h1 h2 h3
  obtain ⟨_, l1, l2, _⟩ := h1
  obtain ⟨b1, _⟩ := h2
  obtain ⟨⟨p1, p2⟩, p3, _⟩ := h3
  refine ⟨l2, l1, b1, p2, p1, fun x hx => (isName_iff.mp (p3 x hx)).2.1, ?_, ?_⟩
  · have sub : (pt.moves.map fun m => (m.pl, m.lt)) ⊆ pt.places.flatMap fun a => pt.letters.map fun b => (a, b) := by
      intro x hx
      obtain ⟨m', hm', rfl⟩ := List.mem_map.mp hx
      obtain ⟨a1, a2, _⟩ := h.mv m' hm'
      exact List.mem_flatMap.mpr ⟨m'.pl, a1, List.mem_map.mpr ⟨m'.lt, a2, rfl⟩⟩
    have hle := List.Nodup.length_le_of_subset h.ky sub
    rw [List.length_map] at hle
    have hfl : ∀ l : List (List Nat), (l.flatMap fun a => pt.letters.map fun b => (a, b)).length = l.length * pt.letters.length := by
      intro l
      induction l with
      | nil => simp
      | cons a r ih =>
        rw [List.flatMap_cons, List.length_append, List.length_map, ih, List.length_cons, Nat.succ_mul]
        omega
    rw [hfl] at hle
    have : pt.places.length * pt.letters.length ≤ 50 * 5 := Nat.mul_le_mul p2 l2
    omega
  · have sub : (pt.ends.map (·.1)) ⊆ pt.places := fun x hx => by
      obtain ⟨q', hq', rfl⟩ := List.mem_map.mp hx
      exact (h.en q' hq').1
    have hle := List.Nodup.length_le_of_subset h.ek sub
    rw [List.length_map] at hle
    omega
def endV (es : Fil) : V → V := fun v => match v with | .str x => .str (S ((getF es (tl x)).getD [])) | _ => .non
theorem getF_mem {q : List Nat × List Nat} : ∀ {es : Fil}, (es.map (·.1)).Nodup → q ∈ es → getF es q.1 = some q.2
  | [], _, hq => nomatch hq
  | r :: t, nd, hq => by
    rw [getF_cons]
    rw [List.map_cons] at nd
    have nd' := List.nodup_cons.mp nd
    rcases List.mem_cons.mp hq with e | e
    · rw [e, if_pos rfl]
    · rw [if_neg (fun z => nd'.1 (by rw [z]; exact List.mem_map.mpr ⟨q, e, rfl⟩))]
      exact getF_mem nd'.2 e
theorem ends_eq {es : Fil} (nd : (es.map (·.1)).Nodup) : ((txs (es.map (·.1))).filter fun _ => true).map (fun x => (keyV x, endV es x)) = fkv es := by
  rw [List.filter_eq_self.mpr (fun _ _ => rfl)]
  unfold txs fkv
  simp only [List.map_map]
  refine List.map_congr_left fun q hq => ?_
  show (Sum.inr (S q.1), V.str (S ((getF es q.1).getD []))) = _
  rw [getF_mem nd hq]
  rfl
section
variable {P : Program} {w : World} {K : PySem.W.Frag} {mg : Str → Option Value} {base : Heap}
abbrev nInit : List Str := ["self", "letters", "boxes", "places", "moves", "ends", "place"]
theorem scInit : FnScope nInit ["self", "letters", "boxes", "places", "moves", "ends"] (defScope sInit) := ⟨rfl, rfl, rfl, by decide +kernel, rfl, by decide +kernel, by decide +kernel⟩
def spInit (C : Addr) : Sp := fun vs H Q _ => ∃ (p dx tp tm te : Addr) (pt : Pt), vs = [.ref p, .str (S pt.letters), .str (S pt.boxes), .ref tp, .ref tm, .ref te] ∧ H p = some (.ins C dx []) ∧ InAt H tp tm te pt ∧ PartsQ pt ∧
  ∀ H', But p H H' → PrNew C H H' p (sortN pt.letters) (sortN pt.boxes) pt.places (pt.moves.map keptM) pt.ends → Q .non H'
theorem ok_init {f C : Addr} {fd : FuncData} {k : Nat} (F : Fun K "__init__" "Program.__init__" sInit f fd) (T : PrTxt K mg C) (DL : Df P w K mg base (k + 2) "are_letters" ["thing", "most"] (spAreLetters K)) (mN : ∃ t, mg "MOST_LETTERS" = some (.int 5 t)) (DB : Df P w K mg base (k + 2) "_are_boxes" ["thing"] (spAreBoxes K)) (DPl : Df P w K mg base (k + 4) "_are_places" ["thing"] spArePlaces)
    (DM : Df P w K mg base (k + 4) "_are_moves" ["thing", "letters", "boxes", "places"] spAreMoves) (DE : Df P w K mg base (k + 3) "_are_ends" ["thing", "boxes", "places"] spAreEnds) (DI : Df P w K mg base (k + 1) "in_order" ["signs"] spInOrder) (DK : Df P w K mg base (k + 1) "_kept_moves" ["moves"] spKept) (mt : mg "tuple" = none) :
    FnOk P w K mg base CX0 (k + 5) f fd ["self", "letters", "boxes", "places", "moves", "ends"] (spInit C) := by
  refine F.ok scInit (fun vs H Q E h => ?_) (fun cdv A outer s H vs Q E hr h => ?_)
  · obtain ⟨p, dx, tp, tm, te, pt, rfl, _⟩ := h
    rfl
  · obtain ⟨p, dx, tp, tm, te, pt, rfl, hp, hin, hq, q⟩ := h
    have hu := hu_of hr
    obtain ⟨tN, mN⟩ := mN
    have hlow : ∀ b ∈ pt.boxes, isLow b = false := fun b hb => by
      have h1 := hq.bo
      unfold okBoxes at h1
      rw [Bool.and_eq_true, Bool.and_eq_true] at h1
      exact isCap_low' (of_decide_eq_true (List.all_eq_true.mp h1.2.1 b hb))
    obtain ⟨l5, l1, b6, p50, p1, p8, m250, e50⟩ := hq.few
    refine ⟨_, pss_cons (ps_if (pt_not (pt_val (pe_df DL hr (pa_cons (pv 1) (pa_cons (pe_glob (v := .int 5) (by rfl) mN ⟨_, rfl⟩) pa_nil))))) (pss_one ps_dead) pss_nil)
      (pss_cons (ps_if (pt_not (pt_val (pe_df DB hr (pa_cons (pv 2) pa_nil)))) (pss_one ps_dead) pss_nil)
      (pss_cons (ps_if (pt_not (pt_val (pe_df DPl hr (pa_cons (pv 3) pa_nil)))) (pss_one ps_dead) pss_nil)
      (pss_cons (ps_if (pt_not (pt_val (pe_df DM hr (pa_cons (pv 4) (pa_cons (pv 1) (pa_cons (pv 2) (pa_cons (pv 3) pa_nil))))))) (pss_one ps_dead) pss_nil)
      (pss_cons (ps_if (pt_not (pt_val (pe_df DE hr (pa_cons (pv 5) (pa_cons (pv 2) (pa_cons (pv 3) pa_nil)))))) (pss_one ps_dead) pss_nil)
      (pss_cons (ps_fld (pv 0) (pe_df DI hr (pa_cons (pv 1) pa_nil)) rfl)
      (pss_cons (ps_fld (pv 0) (pe_df DI hr (pa_cons (pv 2) pa_nil)) rfl)
      (pss_cons (ps_fld (pv 0) (pe_callTy call_tupS (by rfl) mt (by decide +kernel) (pa_cons (pv 3) pa_nil)) rfl)
      (pss_cons (ps_fld (pv 0) (pe_df DK hr (pa_cons (pv 4) pa_nil)) rfl)
      (pss_one (ps_fld (pv 0) (pe_lock (pe_dc (own := [("place", 6)]) (g := gName 6) (tt := tYes) (tk := tVar 6) (tv := tDGet (tVar 5) (tVar 6)) rfl scInit.nd (pi_keys (pv 5)) (blkOk_by (own := [("place", 6)]) (N := nInit) (sc := defScope sInit) (by decide +kernel)) (fun _ _ _ _ _ => pg_name (i := 6) scInit.nd rfl (.inl rfl)) (fun _ _ _ _ _ => pts_nil) (fun _ _ _ _ _ => pv 6) (fun _ _ _ _ _ => pe_dget hu (pv 5) (pv 6) (fun _ _ => rfl)))) rfl)))))))))), ?_⟩
    have sm : ∀ {n : Nat}, n ≤ 250 → n ≤ 1000 := fun h => by omega
    refine ⟨_, rfl, .inl ⟨pt.letters, rfl, by omega, fun H1 s1 => ⟨_, rfl, ?_⟩⟩⟩
    rw [hq.le]
    refine iteF ⟨_, rfl, .inl ⟨pt.boxes, rfl, by omega, fun H2 s2 => ⟨_, rfl, ?_⟩⟩⟩
    rw [hq.bo]
    have in2 := (hin.same s1).same s2
    refine iteF ⟨_, rfl, tp, pt.places, rfl, in2.pl, fun x hx => Nat.le_trans (p8 x hx) (by decide), by omega, hq.pl, fun H3 s3 => ⟨_, rfl, ?_⟩⟩
    have in3 := in2.same s3
    obtain ⟨kvs, hm3, hk3⟩ := in3.mv
    refine iteF ⟨_, rfl, _, rfl, _, rfl, _, rfl, tm, tp, kvs, pt.moves, pt.letters, pt.boxes, pt.places, rfl, hm3, hk3, in3.pl, by omega, by omega, hlow, hq.mv, fun H4 s4 => ⟨_, rfl, iteF ?_⟩⟩
    have in4 := in3.same s4
    refine ⟨_, rfl, _, rfl, _, rfl, te, tp, pt.ends, pt.boxes, pt.places, rfl, in4.en, in4.pl, hlow, hq.en, fun H5 s5 => ⟨_, rfl, iteF ?_⟩⟩
    have s05 := (((s1.trans s2).trans s3).trans s4).trans s5
    -- the fields
    refine ⟨_, rfl, pt.letters, rfl, by omega, fun H6 s6 => ⟨_, rfl, p, C, dx, [], rfl, s6 _ _ (s05 _ _ hp), T.cl, T.nL, by show 0 < 1000; decide, ?_⟩⟩
    have hp6 : H6 p = some (.ins C dx []) := s6 _ _ (s05 _ _ hp)
    have b7 : But p H (upd H6 p (.ins C dx (putF "_letters" (.str (S (sortN pt.letters))) []))) := (Same.but (s05.trans s6) p).trans (But.upd p H6 _)
    have hp7 : (upd H6 p (.ins C dx (putF "_letters" (.str (S (sortN pt.letters))) []))) p = some (.ins C dx [("_letters", .str (S (sortN pt.letters)))]) := upd_same
    generalize upd H6 p (.ins C dx (putF "_letters" (.str (S (sortN pt.letters))) [])) = H7 at b7 hp7
    refine ⟨_, rfl, pt.boxes, rfl, by omega, fun H8 s8 => ⟨_, rfl, p, C, dx, _, rfl, s8 _ _ hp7, T.cl, T.nB, by show 1 < 1000; decide, ?_⟩⟩
    have b9 : But p H (upd H8 p (.ins C dx (putF "_boxes" (.str (S (sortN pt.boxes))) [("_letters", .str (S (sortN pt.letters)))]))) := (b7.trans (Same.but s8 p)).trans (But.upd p H8 _)
    have hp9 : (upd H8 p (.ins C dx (putF "_boxes" (.str (S (sortN pt.boxes))) [("_letters", .str (S (sortN pt.letters)))]))) p = some (.ins C dx [("_letters", .str (S (sortN pt.letters))), ("_boxes", .str (S (sortN pt.boxes)))]) := by
      rw [upd_same, putF_end (show ("_boxes" : Str) ∉ (["_letters"] : List Str) by decide +kernel)]
      rfl
    generalize upd H8 p (.ins C dx (putF "_boxes" (.str (S (sortN pt.boxes))) [("_letters", .str (S (sortN pt.letters)))])) = H9 at b9 hp9
    have in9 : InAt H9 tp tm te pt := hin.but hp b9
    -- the places
    refine ⟨_, rfl, tp, txs pt.places, rfl, in9.pl, fun pl H10 s10 e10 => ?_⟩
    refine ⟨_, rfl, p, C, dx, _, rfl, s10 _ _ hp9, T.cl, T.nP, by show 2 < 1000; decide, ?_⟩
    have hp10 := s10 _ _ hp9
    have npp : pl ≠ p := ne_of e10 hp10 (by intro z; cases z)
    have b11 : But p H (upd H10 p (.ins C dx (putF "_places" (.ref pl) [("_letters", .str (S (sortN pt.letters))), ("_boxes", .str (S (sortN pt.boxes)))]))) := (b9.trans (Same.but s10 p)).trans (But.upd p H10 _)
    have hp11 : (upd H10 p (.ins C dx (putF "_places" (.ref pl) [("_letters", .str (S (sortN pt.letters))), ("_boxes", .str (S (sortN pt.boxes)))]))) p = some (.ins C dx [("_letters", .str (S (sortN pt.letters))), ("_boxes", .str (S (sortN pt.boxes))), ("_places", .ref pl)]) := by
      rw [upd_same, putF_end (show ("_places" : Str) ∉ (["_letters", "_boxes"] : List Str) by decide +kernel)]
      rfl
    have e11 : (upd H10 p (.ins C dx (putF "_places" (.ref pl) [("_letters", .str (S (sortN pt.letters))), ("_boxes", .str (S (sortN pt.boxes)))]))) pl = some (.tup (txs pt.places)) := by rw [upd_ne npp]; exact e10
    generalize upd H10 p (.ins C dx (putF "_places" (.ref pl) [("_letters", .str (S (sortN pt.letters))), ("_boxes", .str (S (sortN pt.boxes)))])) = H11 at b11 hp11 e11
    have in11 : InAt H11 tp tm te pt := hin.but hp b11
    obtain ⟨kvs2, hm11, hk11⟩ := in11.mv
    have mok : ∀ m ∈ pt.moves, (m.fl.map (·.1)).Nodup ∧ Ones m.fl ∧ m.fl.length < 64 := fun m hm => by
      obtain ⟨_, _, _, hF⟩ := hq.mv m hm
      refine ⟨hF.nd, hF.ones, ?_⟩
      have hk : okKeys m.fl pt.boxes = true := by
        have := hF.ok
        unfold okFils at this
        exact (Bool.and_eq_true _ _ ▸ this).1
      have sub : (m.fl.map (·.1)) ⊆ pt.boxes.map fun b => [b] := fun x hx => of_decide_eq_true (List.all_eq_true.mp hk x hx)
      have h1 := List.Nodup.length_le_of_subset hF.nd sub
      rw [List.length_map, List.length_map] at h1
      omega
    refine ⟨_, rfl, tm, kvs2, pt.moves, rfl, hm11, hk11, by omega, hq.ky, mok, fun mv H12 kk s12 n12 e12 k12 => ?_⟩
    have hp12 := s12 _ _ hp11
    have nmp : mv ≠ p := ne_of e12 hp12 (by intro z; cases z)
    have nHm : H mv = none := by
      cases z : H mv with
      | none => rfl
      | some o =>
        have := b11 _ _ z nmp
        rw [n12] at this
        cases this
    refine ⟨_, rfl, p, C, dx, _, rfl, hp12, T.cl, T.nM, by show 3 < 1000; decide, ?_⟩
    have b13 : But p H (upd H12 p (.ins C dx (putF "_moves" (.ref mv) [("_letters", .str (S (sortN pt.letters))), ("_boxes", .str (S (sortN pt.boxes))), ("_places", .ref pl)]))) := (b11.trans (Same.but s12 p)).trans (But.upd p H12 _)
    have hp13 : (upd H12 p (.ins C dx (putF "_moves" (.ref mv) [("_letters", .str (S (sortN pt.letters))), ("_boxes", .str (S (sortN pt.boxes))), ("_places", .ref pl)]))) p = some (.ins C dx [("_letters", .str (S (sortN pt.letters))), ("_boxes", .str (S (sortN pt.boxes))), ("_places", .ref pl), ("_moves", .ref mv)]) := by
      rw [upd_same, putF_end (show ("_moves" : Str) ∉ (["_letters", "_boxes", "_places"] : List Str) by decide +kernel)]
      rfl
    have e13 : (upd H12 p (.ins C dx (putF "_moves" (.ref mv) [("_letters", .str (S (sortN pt.letters))), ("_boxes", .str (S (sortN pt.boxes))), ("_places", .ref pl)]))) pl = some (.tup (txs pt.places)) := by rw [upd_ne npp]; exact s12 _ _ e11
    have m13 : (upd H12 p (.ins C dx (putF "_moves" (.ref mv) [("_letters", .str (S (sortN pt.letters))), ("_boxes", .str (S (sortN pt.boxes))), ("_places", .ref pl)]))) mv = some (.dT kk) := by rw [upd_ne nmp]; exact e12
    have fresh11 : ∀ {a : Addr}, H11 a = none → a ≠ p → H a = none := fun {a} h n => by
      cases z : H a with
      | none => rfl
      | some o =>
        have := b11 _ _ z n
        rw [h] at this
        cases this
    have k13 : Paired (MvNew H (upd H12 p (.ins C dx (putF "_moves" (.ref mv) [("_letters", .str (S (sortN pt.letters))), ("_boxes", .str (S (sortN pt.boxes))), ("_places", .ref pl)])))) kk (pt.moves.map keptM) := by
      refine Paired.mono (fun kv m h => ?_) k12
      obtain ⟨e, t, d2, a, b, c, n⟩ := h
      have ntp : t ≠ p := ne_of b hp12 (by intro z; cases z)
      have ndp : d2 ≠ p := ne_of c hp12 (by intro z; cases z)
      exact ⟨e, t, d2, a, by rw [upd_ne ntp]; exact b, by rw [upd_ne ndp]; exact c, fresh11 n ndp⟩
    generalize upd H12 p (.ins C dx (putF "_moves" (.ref mv) [("_letters", .str (S (sortN pt.letters))), ("_boxes", .str (S (sortN pt.boxes))), ("_places", .ref pl)])) = H13 at b13 hp13 e13 m13 k13
    have in13 : InAt H13 tp tm te pt := hin.but hp b13
    -- the ends
    refine ⟨te, _, in13.en, trivial, fun od => ⟨_, rfl, te, od, rfl, .inl ⟨fkv pt.ends, upd_same, fun D nD => ?_⟩⟩⟩
    have nDte : D ≠ te := fun z => by rw [z, upd_same] at nD; cases nD
    have lE : (txs (pt.ends.map (·.1))).length = pt.ends.length := by unfold txs; rw [List.length_map, List.length_map]
    have lF : (fkv pt.ends).length = pt.ends.length := List.length_map _
    refine dc_mapW (xs := txs (pt.ends.map (·.1))) (fun _ => true) keyV (endV pt.ends) walk_keys (by rw [lE, lF]) (fun i H x H' y => ?_) (fun H' s' => s' _ _ upd_same) nD (by rw [lE]; exact small1000 (by omega)) ?_ ?_ ?_ ?_ ?_
    · obtain ⟨e, k', v', hk, ex⟩ := y
      refine ⟨e, ?_⟩
      rw [← keys_fkv, List.getElem?_map, hk, ex]
      rfl
    · rw [List.filter_eq_self.mpr (fun _ _ => rfl)]
      unfold txs
      rw [List.map_map]
      exact List.Pairwise.map _ (fun a b hab z => hab (key_S.mp z)) hq.ek
    · intro x hx H' R s' r
      exact r
    · intro x hx _ H' R s' r
      obtain ⟨c, hc, rfl⟩ := List.mem_map.mp hx
      exact ⟨_, rfl, r⟩
    · intro x hx _ H' R s' r
      obtain ⟨c, hc, rfl⟩ := List.mem_map.mp hx
      obtain ⟨qq, hqq, rfl⟩ := List.mem_map.mp hc
      have hg := getF_mem hq.ek hqq
      have hv : valV (fkv pt.ends) (Sum.inr (S qq.1)) = some (.str (S qq.2)) := by rw [val_fkv, hg]; rfl
      refine ⟨_, rfl, _, rfl, te, _, rfl, hv ▸ dget_kz (k := Sum.inr (S qq.1)) (s' _ _ upd_same), ?_⟩
      have r' := r H' (fun _ _ e => e)
      have e5 : endV pt.ends (.str (S qq.1)) = .str (S qq.2) := by
        show V.str (S ((getF pt.ends qq.1).getD [])) = _
        rw [hg]
        rfl
      rw [e5] at r'
      exact r'
    intro H14 s14 e14
    rw [ends_eq hq.ek] at e14
    have ste : H14 te = some (.frz od (.dK (fkv pt.ends))) := s14 _ _ upd_same
    have s15 : Same H13 (upd H14 te (.dK (fkv pt.ends))) := same_unlock in13.en s14
    have hp15 := s15 _ _ hp13
    have e15 : (upd H14 te (.dK (fkv pt.ends))) D = some (.dK (fkv pt.ends)) := by rw [upd_ne nDte]; exact e14
    refine ⟨ste, _, rfl, p, C, dx, _, rfl, hp15, T.cl, T.nE, by show 4 < 1000; decide, ?_⟩
    have nDp : D ≠ p := ne_of e15 hp15 (by intro z; cases z)
    have nHD : H D = none := by
      have h1 : H13 D = none := by rw [upd_ne nDte] at nD; exact nD
      cases z : H D with
      | none => rfl
      | some o =>
        have := b13 _ _ z nDp
        rw [h1] at this
        cases this
    refine q _ ((b13.trans (Same.but s15 p)).trans (But.upd p _ _)) ⟨dx, pl, mv, D, kk, ?_, by rw [upd_ne npp]; exact s15 _ _ e13, by rw [upd_ne nmp]; exact s15 _ _ m13, nHm, Paired.mono (fun kv m h => ?_) k13, by rw [upd_ne nDp]; exact e15, nHD⟩
    · rw [upd_same, putF_end (show ("_ends" : Str) ∉ (["_letters", "_boxes", "_places", "_moves"] : List Str) by decide +kernel)]
      rfl
    · obtain ⟨e, t, d2, a, b, c, n⟩ := h
      have b' := s15 _ _ b
      have c' := s15 _ _ c
      exact ⟨e, t, d2, a, by rw [upd_ne (ne_of b' hp15 (by intro z; cases z))]; exact b', by rw [upd_ne (ne_of c' hp15 (by intro z; cases z))]; exact c', n⟩
end
end Tb

set_option Elab.async false
set_option linter.all false
set_option maxRecDepth 100000
set_option maxHeartbeats 4000000
namespace Tb
open PySem PySem.Spec PyProof.Rows L2 TL
/-- a property, a method of the class at C, proved -/
structure Prp (P : Program) (w : World) (K : PySem.W.Frag) (mg : Str → Option Value) (base : Heap) (C : Addr) (k : Nat) (nm : Str) (sp : Sp) : Prop where
  ex : ∃ p g fd, PropOf K C nm p g ∧ FnOk P w K mg base CX0 k g fd ["self"] sp ∧ Binds K fd ["self"] []
structure Mth (P : Program) (w : World) (K : PySem.W.Frag) (mg : Str → Option Value) (base : Heap) (C : Addr) (k : Nat) (nm : Str) (ps : List Str) (sp : Sp) : Prop where
  ex : ∃ f fd, Meth K C nm f ∧ FnOk P w K mg base CX0 k f fd ("self" :: ps) sp ∧ Binds K fd ("self" :: ps) []
section
variable {X : Cx} {C : Addr} {k j : Nat} {nm : Str} {ps : List Str} {sp : Sp} {o : Expr} {to : TE}
theorem pe_prp {pos : Pos} (D : Prp X.prog X.w X.K X.mg X.base C k nm sp) (c : Cls X.K C) (hr : Room j X.A) (he : PE X o to) (hk : k + 1 ≤ j := by omega) (hab : attributeBase o nm X.env (eval o X.env) = eval o X.env := by rfl) : PE X (.Attribute o nm pos) (tProp C sp [] E0 to) := by
  obtain ⟨p, g, fd, hp, F, b⟩ := D.ex
  exact pe_prop he c hp F (hr.mono hk) b .nil pass0 hab
theorem pe_mth {e : Expr} {es : List Expr} {t : TA} {apos pos : Pos} {pl : Sem Bool} (D : Mth X.prog X.w X.K X.mg X.base C k nm ps sp) (c : Cls X.K C) (hr : Room j X.A) (he : PE X o to) (ha : PA X (e :: es) t) (hk : k ≤ j := by omega)
    (hst : starEach (e :: es) X.env = (false, eval e X.env) :: starEach es X.env := by rfl) (hpl : (backTo pos (starEach es X.env)).any (·.1) = false := by rfl)
    (ht : eval (.Call (.Attribute o nm apos) (e :: es) [] pos) X.env = (do
      let ov ← eval o X.env
      standAt apos.atName
      let (f, first) ← holding [ov] (getMethod ov nm pl)
      callWith pos f first (backTo pos (starEach (e :: es) X.env)) (backToKw pos (keywordEach [] X.env))) := by rfl) :
    PE X (.Call (.Attribute o nm apos) (e :: es) [] pos) (tMeth C nm sp [] E0 to t) := by
  obtain ⟨f, fd, hm, F, b⟩ := D.ex
  exact pe_meth he c hm F (hr.mono hk) b .nil pass0 ha hst hpl ht
end
/-! ### a program's fields, looked up -/
theorem fl_l (L B : List Nat) (pl mv en : Addr) : (flds L B pl mv en).lookup ("_letters" : Str) = some (.str (S L)) := rfl
theorem fl_b (L B : List Nat) (pl mv en : Addr) : (flds L B pl mv en).lookup ("_boxes" : Str) = some (.str (S B)) := by
  show List.lookup _ (_ :: _) = _
  rw [List.lookup_cons, show (("_boxes" : Str) == "_letters") = false by decide +kernel]
  rfl
theorem fl_p (L B : List Nat) (pl mv en : Addr) : (flds L B pl mv en).lookup ("_places" : Str) = some (.ref pl) := by
  show List.lookup _ (_ :: _ :: _) = _
  rw [List.lookup_cons, show (("_places" : Str) == "_letters") = false by decide +kernel, List.lookup_cons, show (("_places" : Str) == "_boxes") = false by decide +kernel]
  rfl
theorem fl_m (L B : List Nat) (pl mv en : Addr) : (flds L B pl mv en).lookup ("_moves" : Str) = some (.ref mv) := by
  show List.lookup _ (_ :: _ :: _ :: _) = _
  rw [List.lookup_cons, show (("_moves" : Str) == "_letters") = false by decide +kernel, List.lookup_cons, show (("_moves" : Str) == "_boxes") = false by decide +kernel, List.lookup_cons, show (("_moves" : Str) == "_places") = false by decide +kernel]
  rfl
theorem fl_e (L B : List Nat) (pl mv en : Addr) : (flds L B pl mv en).lookup ("_ends" : Str) = some (.ref en) := by
  show List.lookup _ (_ :: _ :: _ :: _ :: _) = _
  rw [List.lookup_cons, show (("_ends" : Str) == "_letters") = false by decide +kernel, List.lookup_cons, show (("_ends" : Str) == "_boxes") = false by decide +kernel, List.lookup_cons, show (("_ends" : Str) == "_places") = false by decide +kernel, List.lookup_cons, show (("_ends" : Str) == "_moves") = false by decide +kernel]
  rfl
theorem fl_no (L B : List Nat) (pl mv en : Addr) {m : Str} (h : (["_letters", "_boxes", "_places", "_moves", "_ends"] : List Str).contains m = false) : (flds L B pl mv en).lookup m = none := by
  have h' : m ∉ (["_letters", "_boxes", "_places", "_moves", "_ends"] : List Str) := fun z => by
    rw [List.contains_iff_mem.mpr z] at h
    cases h
  cases e : (flds L B pl mv en).lookup m with
  | none => rfl
  | some v =>
    exfalso
    have : ∀ l : List (Str × V), l.lookup m = some v → m ∈ l.map (·.1) := by
      intro l
      induction l with
      | nil => intro h; cases h
      | cons q r ih =>
        intro h
        rw [List.lookup_cons] at h
        by_cases z : (m == q.1) = true
        · rw [beq_iff_eq.mp z]
          exact List.mem_cons_self
        · rw [Bool.eq_false_iff.mpr z] at h
          exact List.mem_cons_of_mem _ (ih h)
    exact h' (this _ e)
/-! ### the move under a key -/
def findM (ms : List Mv) (pl : List Nat) (c : Nat) : Option Mv := ms.find? fun m => decide (m.pl = pl ∧ m.lt = c)
def mkey (pl : List Nat) (c : Nat) : List Key := [Sum.inr (S pl), Sum.inr (S [c])]
theorem val_moves {H : Hp} {pl : List Nat} {c : Nat} : ∀ {kk : List (List Key × V)} {ms : List Mv}, Paired (MvAt H) kk ms →
    match findM ms pl c with
    | none => valV kk (mkey pl c) = none
    | some m => ∃ t d, valV kk (mkey pl c) = some (.ref t) ∧ H t = some (.tup [.str (S m.to), .ref d]) ∧ H d = some (.dK (fkv m.fl))
  | _, _, .nil => rfl
  | kv :: kk, m :: ms, .cons h t => by
    have ih := val_moves (pl := pl) (c := c) t
    unfold findM
    rw [List.find?_cons]
    by_cases e : m.pl = pl ∧ m.lt = c
    · rw [decide_eq_true e]
      obtain ⟨e1, t, d, a, b, g⟩ := h
      refine ⟨t, d, ?_, b, g⟩
      obtain ⟨k, v⟩ := kv
      have ek : k = mkey pl c := by
        have : k = m.key := e1
        rw [this]
        unfold Mv.key mkey
        rw [e.1, e.2]
      rw [valV_pos ek]
      exact congrArg some a
    · rw [decide_eq_false e]
      obtain ⟨e1, _⟩ := h
      obtain ⟨k, v⟩ := kv
      have ek : k ≠ mkey pl c := fun z => e (key_inj (m := m) (by rw [← e1]; exact z))
      rw [valV_neg ek]
      exact ih
theorem mapV_ends (es : Fil) (c : List Nat) : (valV (fkv es) (Sum.inr (S c))).getD .non = match getF es c with | none => .non | some f => .str (S f) := by
  rw [val_fkv]
  cases getF es c <;> rfl
section
variable {P : Program} {w : World} {K : PySem.W.Frag} {mg : Str → Option Value} {base : Heap}
theorem scL : FnScope ["self"] ["self"] (defScope sLettersP) := ⟨rfl, rfl, rfl, by decide +kernel, rfl, by decide +kernel, by decide +kernel⟩
theorem scB : FnScope ["self"] ["self"] (defScope sBoxesP) := ⟨rfl, rfl, rfl, by decide +kernel, rfl, by decide +kernel, by decide +kernel⟩
theorem scP : FnScope ["self"] ["self"] (defScope sPlacesP) := ⟨rfl, rfl, rfl, by decide +kernel, rfl, by decide +kernel, by decide +kernel⟩
theorem ok_letters {f C : Addr} {fd : FuncData} {k : Nat} (F : Fun K "letters" "Program.letters" sLettersP f fd) (T : PrTxt K mg C) : FnOk P w K mg base CX0 (k + 1) f fd ["self"] (getSp C "_letters") := by
  refine F.ok scL (fun vs H Q E h => ?_) (fun cdv A outer s H vs Q E hr h => ?_)
  · obtain ⟨a, dx, fs, v, rfl, _⟩ := h
    rfl
  · obtain ⟨a, dx, fs, v, rfl, h1, h2, q⟩ := h
    exact ⟨_, pss_one (ps_ret (pe_fld (pv 0) rfl)), _, rfl, a, C, dx, fs, v, rfl, h1, T.cl, T.nL, h2, q⟩
theorem ok_boxes {f C : Addr} {fd : FuncData} {k : Nat} (F : Fun K "boxes" "Program.boxes" sBoxesP f fd) (T : PrTxt K mg C) : FnOk P w K mg base CX0 (k + 1) f fd ["self"] (getSp C "_boxes") := by
  refine F.ok scB (fun vs H Q E h => ?_) (fun cdv A outer s H vs Q E hr h => ?_)
  · obtain ⟨a, dx, fs, v, rfl, _⟩ := h
    rfl
  · obtain ⟨a, dx, fs, v, rfl, h1, h2, q⟩ := h
    exact ⟨_, pss_one (ps_ret (pe_fld (pv 0) rfl)), _, rfl, a, C, dx, fs, v, rfl, h1, T.cl, T.nB, h2, q⟩
theorem ok_places {f C : Addr} {fd : FuncData} {k : Nat} (F : Fun K "places" "Program.places" sPlacesP f fd) (T : PrTxt K mg C) : FnOk P w K mg base CX0 (k + 1) f fd ["self"] (getSp C "_places") := by
  refine F.ok scP (fun vs H Q E h => ?_) (fun cdv A outer s H vs Q E hr h => ?_)
  · obtain ⟨a, dx, fs, v, rfl, _⟩ := h
    rfl
  · obtain ⟨a, dx, fs, v, rfl, h1, h2, q⟩ := h
    exact ⟨_, pss_one (ps_ret (pe_fld (pv 0) rfl)), _, rfl, a, C, dx, fs, v, rfl, h1, T.cl, T.nP, h2, q⟩
/-! ### end, move -/
theorem scEnd : FnScope ["self", "place"] ["self", "place"] (defScope sEnd) := ⟨rfl, rfl, rfl, by decide +kernel, rfl, by decide +kernel, by decide +kernel⟩
def spEnd (C : Addr) : Sp := fun vs H Q _ => ∃ (p : Addr) (c L B : List Nat) (places : List (List Nat)) (ms : List Mv) (es : Fil), vs = [.ref p, .str (S c)] ∧ PrAt C H p L B places ms es ∧ Q (match getF es c with | none => .non | some f => .str (S f)) H
theorem ok_end {f C : Addr} {fd : FuncData} {k : Nat} (F : Fun K "end" "Program.end" sEnd f fd) (T : PrTxt K mg C) : FnOk P w K mg base CX0 (k + 1) f fd ["self", "place"] (spEnd C) := by
  refine F.ok scEnd (fun vs H Q E h => ?_) (fun cdv A outer s H vs Q E hr h => ?_)
  · obtain ⟨p, c, L, B, places, ms, es, rfl, _⟩ := h
    rfl
  · obtain ⟨p, c, L, B, places, ms, es, rfl, hp, q⟩ := h
    have hu := hu_of hr
    obtain ⟨dx, pl, mv, en, kk, h1, h2, h3, h4, h5⟩ := hp.ob
    refine ⟨_, pss_one (ps_ret (pe_dget1 hu (pe_fld (pv 0) rfl) (pv 1) ⟨rfl, rfl, rfl, rfl⟩)), ?_⟩
    refine ⟨_, rfl, p, C, dx, _, _, rfl, h1, T.cl, T.nE, fl_e _ _ _ _ _, en, rfl, .inl ⟨_, .inl h5⟩, _, rfl, _, DGet.k (k := Sum.inr (S c)) h5, ?_⟩
    rw [mapV_ends]
    exact q
theorem scMove : FnScope ["self", "place", "letter", "found", "target", "fillings"] ["self", "place", "letter"] (defScope sMove) := ⟨rfl, rfl, rfl, by decide +kernel, rfl, by decide +kernel, by decide +kernel⟩
def spMove (C : Addr) : Sp := fun vs H Q _ => ∃ (p : Addr) (c : List Nat) (a : Nat) (L B : List Nat) (places : List (List Nat)) (ms : List Mv) (es : Fil), vs = [.ref p, .str (S c), .str (S [a])] ∧ PrAt C H p L B places ms es ∧
  match findM ms c a with
  | none => ∀ H', Same H H' → Q .non H'
  | some m => ∀ t d H', Same H H' → H t = none → H d = none → H' t = some (.tup [.str (S m.to), .ref d]) → H' d = some (.dK (fkv m.fl)) → Q (.ref t) H'
theorem ok_move {f C : Addr} {fd : FuncData} {k : Nat} (F : Fun K "move" "Program.move" sMove f fd) (T : PrTxt K mg C) (md : mg "dict" = none) : FnOk P w K mg base CX0 (k + 1) f fd ["self", "place", "letter"] (spMove C) := by
  refine F.ok scMove (fun vs H Q E h => ?_) (fun cdv A outer s H vs Q E hr h => ?_)
  · obtain ⟨p, c, a, L, B, places, ms, es, rfl, _⟩ := h
    rfl
  · obtain ⟨p, c, a, L, B, places, ms, es, rfl, hp, q⟩ := h
    have hu := hu_of hr
    obtain ⟨dx, pl, mv, en, kk, h1, h2, h3, h4, h5⟩ := hp.ob
    refine ⟨_, pss_cons (ps_set (i := 3) scMove.nd rfl (.inl rfl) (pe_dget1 hu (pe_fld (pv 0) rfl) (pe_tupS (pa_cons (pv 1) (pa_cons (pv 2) pa_nil))) ⟨rfl, rfl, rfl, rfl⟩))
      (pss_cons (ps_if (pt_cmpR op_isN (pv 3) pe_non (nomark _)) (pss_one (ps_ret pe_non)) pss_nil)
      (pss_cons (ps_asg (pv 3) (pg_tup rfl (pgs_cons (pg_name (i := 4) scMove.nd rfl (.inl rfl)) (pgs_cons (pg_name (i := 5) scMove.nd rfl (.inl rfl)) pgs_nil))))
      (pss_one (ps_ret (pe_tupS (pa_cons (pv 4) (pa_cons (pe_callTy call_dictD (by rfl) md (by decide +kernel) (pa_cons (pv 5) pa_nil)) pa_nil))))))), ?_⟩
    refine ⟨_, rfl, p, C, dx, _, _, rfl, h1, T.cl, T.nM, fl_m _ _ _ _ _, mv, rfl, .inr ⟨_, .inl h3⟩, _, rfl, _, rfl, by show 2 ≤ sizeLine; decide, fun T2 H2 s2 n2 e2 => ⟨_, DGet.t (k := mkey c a) (s2 _ _ h3) e2, ?_⟩⟩
    have hv := val_moves (pl := c) (c := a) h4
    cases hf : findM ms c a with
    | none =>
      rw [hf] at hv q
      have hv' : valV kk (mkey c a) = none := hv
      rw [hv']
      exact ⟨_, rfl, rfl, _, rfl, iteT (q H2 s2)⟩
    | some m =>
      rw [hf] at hv q
      obtain ⟨t, d, hv', ht, hd⟩ := hv
      rw [hv']
      refine ⟨_, rfl, rfl, _, rfl, iteF ⟨_, rfl, t, _, rfl, SqT.of (s2 _ _ ht), rfl, _, _, rfl, _, _, rfl, rfl, ?_⟩⟩
      refine ⟨_, rfl, _, rfl, d, fkv m.fl, rfl, .inl (s2 _ _ hd), fun d' n3 => ⟨by show 2 ≤ sizeLine; decide, fun t' H4 s4 n4 e4 => ?_⟩⟩
      have s24 := s2.trans ((same_upd n3).trans s4)
      exact q t' d' H4 s24 (s2.free ((same_upd (o := .dK (fkv m.fl)) n3).free n4)) (s2.free n3) e4 (s4 _ _ upd_same)
end
end Tb

set_option Elab.async false
set_option linter.all false
set_option maxRecDepth 100000
set_option maxHeartbeats 4000000
namespace Tb
open PySem PySem.Spec PyProof.Rows L2 TL
/-! ### drawn parts make a program -/
theorem isCap_low {c : Nat} (h : 65 ≤ c ∧ c ≤ 90) : isLow c = false := decide_eq_false (by omega)
theorem isFill_of {bs f : List Nat} (hb : ∀ c ∈ bs, 65 ≤ c ∧ c ≤ 90) (sg : ∀ c ∈ f, (97 ≤ c ∧ c ≤ 122) ∨ c ∈ bs) (one : ∀ b ∈ bs, f.count b ≤ 1) : isFill f bs = true := by
  have hc : ∀ c ∈ caps f, c ∈ bs := fun c hc => by
    obtain ⟨h1, h2⟩ := List.mem_filter.mp hc
    rcases sg c h1 with h | h
    · have : isLow c = true := decide_eq_true h
      rw [this] at h2
      cases h2
    · exact h
  refine isFill_iff.mpr ⟨List.nodup_iff_count.mpr fun c => ?_, hc⟩
  by_cases hm : c ∈ caps f
  · exact Nat.le_trans (List.Sublist.count_le _ List.filter_sublist) (one c (hc c hm))
  · rw [List.count_eq_zero.mpr hm]
    exact Nat.zero_le _
theorem FilOk.isFill {bs : List Nat} {fs : List (List Nat)} (h : FilOk bs fs) (hb : ∀ c ∈ bs, 65 ≤ c ∧ c ≤ 90) : isFill fs.flatten bs = true :=
  isFill_of hb (fun c hc => by
    obtain ⟨f, hf, hcf⟩ := List.mem_flatten.mp hc
    exact h.sg f hf c hcf) h.one
theorem GoodP.parts {pt : Pt} (g : GoodP pt) : PartsQ pt where
  le := by
    unfold okLetters
    rw [decide_eq_true g.l1, decide_eq_true g.l5, decide_eq_true g.ln, show pt.letters.all isLow = true from List.all_eq_true.mpr fun c hc => decide_eq_true (g.ll c hc)]
    rfl
  bo := by
    unfold okBoxes
    rw [decide_eq_true g.b6, decide_eq_true g.bn, show pt.boxes.all isCap = true from List.all_eq_true.mpr fun c hc => decide_eq_true (g.bb c hc)]
    rfl
  pl := by
    unfold okPlaces
    rw [decide_eq_true g.p1, decide_eq_true (Nat.le_trans g.p8 (by decide)), decide_eq_true g.pn, List.all_eq_true.mpr fun x hx => isName_iff.mpr (g.pp x hx)]
    rfl
  ky := g.ky
  mv := fun m hm => by
    obtain ⟨a, b, c, hk, hF⟩ := g.mv m hm
    refine ⟨a, b, c, ⟨?_, ?_, Nat.le_trans hF.len (by decide)⟩⟩
    · rw [hk]
      exact List.Pairwise.map _ (fun a b hab z => hab (by injection z)) g.bn
    · unfold okFils okKeys
      rw [hF.isFill g.bb, hk, List.all_eq_true.mpr fun c hc => decide_eq_true hc]
      rfl
  ek := g.ek
  en := fun q hq => by
    obtain ⟨a, hF⟩ := g.en q hq
    have h1 := hF.isFill g.bb
    have h2 := hF.len
    rw [show [q.2].flatten = q.2 by simp] at h1 h2
    exact ⟨a, h1, Nat.le_trans h2 (by decide)⟩
theorem PtAt.to_in {H : Hp} {L : Addr} {pt : Pt} (h : PtAt H L pt) : ∃ tp tm te, H L = some (.lst [.str (S pt.letters), .str (S pt.boxes), .ref tp, .ref tm, .ref te]) ∧ InAt H tp tm te pt := by
  obtain ⟨tp, tm, te, kvs, h1, h2, h3, h4, h5⟩ := h.ex
  exact ⟨tp, tm, te, h1, .inl h2, ⟨kvs, h3, Paired.mono (fun _ _ z => z.to_in) h4⟩, h5⟩
abbrev psInit : List Str := ["self", "letters", "boxes", "places", "moves", "ends"]
/-- the class's making, proved -/
structure Mkr (P : Program) (w : World) (K : PySem.W.Frag) (mg : Str → Option Value) (base : Heap) (C : Addr) (k : Nat) : Prop where
  ex : ∃ f fd, Mk K C f ∧ FnOk P w K mg base CX0 k f fd psInit (spInit C) ∧ Binds K fd psInit []
/-- Program(letters, boxes, places, moves, ends) -/
def tProg (C : Addr) (t : TA) : TE := fun σ H Q => t σ H fun vs H1 => ∃ (tp tm te : Addr) (pt : Pt), vs = [.str (S pt.letters), .str (S pt.boxes), .ref tp, .ref tm, .ref te] ∧ InAt H1 tp tm te pt ∧ PartsQ pt ∧
  ∀ p H', Same H1 H' → H1 p = none → PrNew C H1 H' p (sortN pt.letters) (sortN pt.boxes) pt.places (pt.moves.map keptM) pt.ends → Q (.ref p) H'
theorem PrNew.old {C : Addr} {H0 H1 H : Hp} {p : Addr} {L B : List Nat} {places : List (List Nat)} {ms : List Mv} {es : Fil} (s : ∀ a, H1 a = none → H0 a = none) (h : PrNew C H1 H p L B places ms es) : PrNew C H0 H p L B places ms es := by
  obtain ⟨dx, pl, mv, en, kk, h1, h2, h3, n1, h4, h5, n2⟩ := h.ob
  refine ⟨dx, pl, mv, en, kk, h1, h2, h3, s _ n1, Paired.mono (fun kv m z => ?_) h4, h5, s _ n2⟩
  obtain ⟨e, t, d, a, b, c, n⟩ := z
  exact ⟨e, t, d, a, b, c, s _ n⟩
theorem pe_prog {X : Cx} {C : Addr} {k j : Nat} {e : Expr} {es : List Expr} {t : TA} {p pos : Pos} (D : Mkr X.prog X.w X.K X.mg X.base C k) (hr : Room j X.A) (hm : X.mg "Program" = some (.ref C)) (ha : PA X (e :: es) t) (hk : k + 1 ≤ j := by omega) (hg : Gl X "Program" := by rfl)
    (he : starEach (e :: es) X.env = (false, eval e X.env) :: starEach es X.env := by rfl) (hpl : (backTo pos (starEach es X.env)).any (·.1) = false := by rfl) :
    PE X (.Call (.Name "Program" p) (e :: es) [] pos) (tProg C t) := by
  obtain ⟨f, fd, M, F, b⟩ := D.ex
  refine PE.weak (pe_make M F (hr.mono hk) hg hm b .nil pass0 (PA.mono ha) (by decide) he hpl) fun σ H Q z => ⟨_, z, fun vs H1 ⟨tp, tm, te, pt, ev, hin, hq, q⟩ x dx nx ndx ne => ?_⟩
  subst ev
  have s1 : Same H1 (upd (upd H1 dx (.own x)) x (.ins C dx [])) := fun b o eb => by
    rw [upd_ne (ne_of_none eb nx), upd_ne (ne_of_none eb ndx)]
    exact eb
  refine ⟨x, dx, tp, tm, te, pt, rfl, upd_same, hin.same s1, hq, fun H' hb hp => ⟨rfl, q x H' (fun b o eb => hb b o (s1 b o eb) (ne_of_none eb nx)) nx (hp.old fun a h => s1.free h)⟩⟩
section
variable {P : Program} {w : World} {K : PySem.W.Frag} {mg : Str → Option Value} {base : Heap}
def spMade (C : Addr) : Sp := fun vs H Q _ => ∃ (a : Addr) (pt : Pt), vs = [.ref a] ∧ (∃ tp tm te, H a = some (.lst [.str (S pt.letters), .str (S pt.boxes), .ref tp, .ref tm, .ref te]) ∧ InAt H tp tm te pt) ∧ PartsQ pt ∧
  ∀ p H', Same H H' → H p = none → PrNew C H H' p (sortN pt.letters) (sortN pt.boxes) pt.places (pt.moves.map keptM) pt.ends → Q (.ref p) H'
end
end Tb

set_option Elab.async false
set_option linter.all false
set_option maxRecDepth 100000
set_option maxHeartbeats 4000000
/-! x == 'text', x an object of a class of one's own without an == of its own: never equal -/
namespace Tb
open PySem PySem.Spec PyProof.Rows L2 TL
section
variable {M : Model} {prog : Program} {w : World} {A : Around} {E : Value → Shared → Prop} {s : Shared} {K : PySem.W.Frag} {x C dx : Addr} {ox : Obj} {od : Option Obj} {t : Str} {u : Tok}
theorem entry_insS {Q : Fin → Shared → Prop} (hq : Q (.done (.ret .notImplemented)) s) : wpAny M A (Builtin.«object.__eq__» ⟨[.ref x, .str t u], []⟩) Q E s := by
  unfold Builtin.«object.__eq__»
  repeat (first | with_reducible refine wpAny_of_eq (rfl : isSame (.ref x) (.str t u) = pure false) ?_ | wp_step)
  exact hq
theorem strEq_ins : Meets (Builtin.«str.__eq__» ⟨[.str t u, .ref x], []⟩) (fun _ R s => s.heap.get? x = some (PySem.W.instObj C dx) ∧ R (.ok (.ret .notImplemented)) s) :=
  .of_wp fun prog w A R s h => by
    obtain ⟨hp, g, d, tk, os⟩ := s
    obtain ⟨hl, h⟩ := h
    wp_walk using wpAny_load hl
    exact ⟨_, rfl, h⟩
theorem call_objEqS {E : Value → Shared → Prop} {Q : Value → Shared → Prop} (X : K.In s.heap) (I : PySem.W.InstAt s.heap x ox C od) (hm : PySem.W.mroIn K C (.type "object") = some true) (hq : Q .notImplemented s) :
    wpAny (model prog w) A (call (.builtin "object.__eq__") [.ref x, .str t u]) Q E s :=
  wpAny_call (codeAny_call_builtin F.cmp_object.eq.plain F.cmpEntry_eq (PySem.W.check_slot F.cmpKind_eq F.cmpSplit_eq (I.type.andThen (PySem.W.looks_mroIn X hm)) (F.cmpArgs_eq _ _) (entry_insS hq)))
theorem sub_str : PySem.W.subIn K (.type "str") (.ref C) = some false := by
  have e : fastBuiltinMro "str" = some [.type "str", .type "object"] := by decide +kernel
  show (fastBuiltinMro "str").map (·.contains (.ref C)) = some false
  rw [e]
  first
    | rfl
    | simp
theorem rc_insS (hu : A.units < cLine) (X : K.In s.heap) (I : PySem.W.InstAt s.heap x ox C od) (hx : s.heap.get? x = some (PySem.W.instObj C dx)) (hm : PySem.W.mroIn K C (.type "object") = some true) (hs : PySem.W.findIn K (.ref C) "__eq__" = some (some (.builtin "object.__eq__"))) :
    SeqAt.RcAt A s (.ref x) (.str t u) false := fun prog w E Q h => by
  have one : wpAny (model prog w) A (tryCompare (.ref x) "__eq__" (.str t u)) (fun r s' => r = none ∧ s' = s) E s := by
    unfold tryCompare
    exact wpAny_bind (HN.ifBound_objEq X I hs (call_objEqS X I hm (wpAny_pure ⟨rfl, rfl⟩)))
  have two : wpAny (model prog w) A (tryCompare (.str t u) "__eq__" (.ref x)) (fun r s' => r = none ∧ s' = s) E s :=
    wpAny_tryCompare_declines (show s.TypeIs (.str t u) "str" from rfl) F.slot_str_eq_refl (call_meets F.slot_str_eq_refl (typeIs_str s t u) F.entry_str_eq (F.args_str_eq_2 _ _) strEq_ins ⟨hx, rfl, rfl, rfl⟩)
  simp only [richCompare, cmpInfo_Eq, oneThing_ref]
  refine wpAny_holding (wpAny_bind (wpAny_cRoomFor hu ?_))
  refine wpAny_bind (I.type.here ?_)
  refine wpAny_bind (wpAny_typeOf (show s.TypeIs (.str t u) "str" from rfl) ?_)
  split
  · refine wpAny_bind ((PySem.W.looks_subIn X sub_str).here ?_)
    simp only [Bool.false_eq_true, if_false, Bool.not_false, if_true]
    refine wpAny_bind (m := tryCompare (.ref x) _ (.str t u)) (wpAny_mono one (fun r s1 z => ?_) fun _ _ e => e)
    obtain ⟨z1, z2⟩ := z
    subst z1
    subst z2
    refine wpAny_bind (m := tryCompare (.str t u) _ (.ref x)) (wpAny_mono two (fun r s2 z => ?_) fun _ _ e => e)
    obtain ⟨z1, z2⟩ := z
    subst z1
    subst z2
    exact wpAny_bind (wpAny_rule (wpAny_bind (wpAny_of_eq (rfl : isSame (.ref x) (.str t u) = pure false) (wpAny_pure h))))
  · rename_i q
    exact absurd (by simp) q
end
/-- a == 'text': a text, or an object without an == of its own -/
def rEqRp (K : PySem.W.Frag) : R2 := fun x y H Q => (∃ a b, x = .str a ∧ y = .str b ∧ Q (.bl (decide (x = y))) H) ∨ (∃ a C dx fs t, x = .ref a ∧ y = .str t ∧ H a = some (.ins C dx fs) ∧ PySem.W.mroIn K C (.type "object") = some true ∧ PySem.W.findIn K (.ref C) "__eq__" = some (some (.builtin "object.__eq__")) ∧ Q (.bl false) H)
theorem op_eqRp {X : Cx} (hu : X.A.units + 1 < cLine) : OpR X (compareOp .Eq) (rEqRp X.K) := by
  intro pins s σ H x y v u Q I rx ry h
  rcases h with ⟨a, b, rfl, rfl, q⟩ | ⟨a, C, dx, fs, t, rfl, rfl, ha, hm, hs, q⟩
  · exact op_eq pins s σ H _ _ v u Q I rx ry ⟨rfl, q⟩
  · cases rx
    obtain ⟨tk, rfl⟩ := ry
    obtain ⟨mA, O, _⟩ := ins_get I.hok ha
    have hx : s.heap.get? a = some (PySem.W.instObj C dx) := O.1
    obtain ⟨od, J, _⟩ := O.look
    exact rc_insS (by omega) I.kIn J hx hm hs X.prog X.w X.xe _ ⟨.bl false, H, I, rfl, q⟩
end Tb

set_option Elab.async false
set_option linter.all false
set_option maxRecDepth 100000
set_option maxHeartbeats 4000000
namespace Tb
open PySem PySem.Spec PyProof.Rows L2 TL
theorem cutS_mid (cs : List Nat) (a b : Nat) (h : a ≤ b) (hb : b ≤ cs.length) : cutS (S cs) (some (a : Int)) (some (b : Int)) = S ((cs.drop a).take (b - a)) := by
  refine ext_tl ?_
  show ((cs.drop (HT.sIx (S cs).length 0 (some (a : Int)))).take (HT.sIx (S cs).length (S cs).length (some (b : Int)) - HT.sIx (S cs).length 0 (some (a : Int)))) = (cs.drop a).take (b - a)
  rw [HT.sIx_nat, HT.sIx_nat, len_S, Nat.min_eq_left hb, Nat.min_eq_left (Nat.le_trans h hb)]
/-! ### the parts of a filling -/
def pg : List Nat → List Nat → List (List Nat)
  | cur, [] => if cur = [] then [] else [cur]
  | cur, c :: r => if isCap c = true then (if cur = [] then [] else [cur]) ++ ([c] :: pg [] r) else pg (cur ++ [c]) r
def partsOf (f : List Nat) : List (List Nat) := pg [] f
theorem pg_cap {cur r : List Nat} {c : Nat} (h : isCap c = true) : pg cur (c :: r) = (if cur = [] then [] else [cur]) ++ ([c] :: pg [] r) := by
  rw [pg, if_pos h]
theorem pg_low {cur r : List Nat} {c : Nat} (h : isCap c = false) : pg cur (c :: r) = pg (cur ++ [c]) r := by
  rw [pg, if_neg (by rw [h]; exact Bool.false_ne_true)]
theorem pg_len : ∀ (r cur : List Nat), (pg cur r).length ≤ r.length * 2 + 1
  | [], cur => by
    rw [pg]
    split <;> simp
  | c :: r, cur => by
    rw [List.length_cons]
    by_cases h : isCap c = true
    · rw [pg_cap h, List.length_append, List.length_cons]
      have h1 := pg_len r []
      split <;> simp <;> omega
    · rw [pg_low (Bool.eq_false_iff.mpr h)]
      have h1 := pg_len r (cur ++ [c])
      omega
structure Rb where
  b : Nat
  a : Addr
  w : List Nat
  n : Nat
def kvR (r : List Rb) : List (Key × V) := r.map fun q => (Sum.inr (S [q.b]), V.ref q.a)
def findR (r : List Rb) (p : List Nat) : Option Rb := r.find? fun q => decide ([q.b] = p)
theorem val_kvR (p : List Nat) : ∀ r : List Rb, valV (kvR r) (Sum.inr (S p)) = (findR r p).map fun q => V.ref q.a
  | [] => rfl
  | q :: r => by
    unfold findR
    rw [List.find?_cons]
    show valV ((Sum.inr (S [q.b]), V.ref q.a) :: kvR r) _ = _
    by_cases e : [q.b] = p
    · rw [decide_eq_true e, valV_pos (by rw [e])]
      rfl
    · rw [decide_eq_false e, valV_neg (fun z => e (key_S.mp z)), val_kvR p r]
      rfl
theorem findR_mem {r : List Rb} {p : List Nat} {q : Rb} (h : findR r p = some q) : q ∈ r ∧ [q.b] = p := by
  unfold findR at h
  have h2 := List.find?_some (p := fun q : Rb => decide ([q.b] = p)) h
  exact ⟨List.mem_of_find?_eq_some h, of_decide_eq_true h2⟩
def pieceW (r : List Rb) (p : List Nat) : List Nat := match findR r p with | some q => q.w | none => p
def pieceN (r : List Rb) (p : List Nat) : Nat := match findR r p with | some q => q.n + 1 | none => 1
def fillW (r : List Rb) (parts : List (List Nat)) : List Nat := (parts.map (pieceW r)).flatten
def fillN (r : List Rb) (parts : List (List Nat)) : Nat := (parts.map (pieceN r)).sum
/-! ### a dict comprehension whose values are told by a relation (new objects) -/
section
variable {tk tv : TE} {vs : List Nat} {σ : L2.St} {H1 : Hp} {D : Addr} {Qd : Hp → Prop} {sl : Nat} {J : It} {n : Nat} {G : Hp → Prop} {Y : Nat → Hp → V → Hp → Prop}
theorem dc_relW {xs : List V} (kf : V → Key) (Rl : Hp → V → V → Prop) (hmono : ∀ H H' x v, (∃ kvs, H D = some (.dK kvs)) → But D H H' → Rl H x v → Rl H' x v)
    (w : Walk J n G Y) (hn : n = xs.length) (hY : ∀ i H x H', Y i H x H' → H' = H ∧ xs[i]? = some x) (hG : ∀ H', Same H1 H' → G H') (nD : H1 D = none) (hl : xs.length < sizeLine) (nd : (xs.map kf).Nodup)
    (hk : ∀ x ∈ xs, ∀ H' (R : VK), Same H1 H' → R (kV (kf x)) H' → tk ((wipe σ vs).set sl (some x)) H' R)
    (he : ∀ x ∈ xs, ∀ H' (R : VK), Same H1 H' → (∀ H'' v, Same H' H'' → Rl H'' x v → R v H'') → tv ((wipe σ vs).set sl (some x)) H' R)
    (hd : ∀ H' kvs, Same H1 H' → H' D = some (.dK kvs) → Paired (fun (kv : Key × V) x => kv.1 = kf x ∧ Rl H' x kv.2) kvs xs → Qd H') (hw : ∀ x, wipe ((wipe σ vs).set sl (some x)) vs = wipe σ vs := by intro _; rfl) :
    ∃ W : Nat → Nat → Hp → Prop, (∃ m, W 0 m (upd H1 D (.dK []))) ∧ ∀ i m H, W i m H →
      (J.stop i H ∧ Qd H) ∨ (J.go i H ∧ ∃ Nx : Hp → Prop, (∀ H', Nx H' → ∃ m', m' < m ∧ W (i + 1) m' H') ∧ ∀ x H', J.yld i H x H' → gName sl x (wipe σ vs) H' fun σ2 H2 => wipe σ2 vs = wipe σ vs ∧ tYes σ2 H2 fun b H3 =>
        if b = true then tk σ2 H3 fun y H4 => tv σ2 H4 fun z H5 => ∃ kvs k, y = kV k ∧ H5 D = some (.dK kvs) ∧ kvs.length < sizeLine ∧ Nx (upd H5 D (.dK (putK kvs k z))) else Nx H3) := by
  refine dc_it w (fun i H => Same H1 H ∧ ∃ kvs, H D = some (.dK kvs) ∧ Paired (fun (kv : Key × V) x => kv.1 = kf x ∧ Rl H x kv.2) kvs (xs.take i)) ⟨same_upd nD, [], upd_same, .nil⟩ (fun i H _ h => hG H h.1) ?_ ?_
  · rintro i x H H' hi ⟨s, kvs, e, hp⟩ y
    obtain ⟨rfl, hx⟩ := hY _ _ _ _ y
    have hm := List.mem_of_getElem? hx
    have et : xs.take (i + 1) = xs.take i ++ [x] := by
      rw [List.take_add_one, hx]
      rfl
    refine ⟨hw _, tYes_if (hk x hm _ _ s (he x hm _ _ s fun H2 v s2 hv => ?_))⟩
    have keys : ∀ {kvs : List (Key × V)} {l : List V} {Hx : Hp}, Paired (fun (kv : Key × V) x => kv.1 = kf x ∧ Rl Hx x kv.2) kvs l → kvs.map (·.1) = l.map kf := by
      intro kvs l Hx h
      induction h with
      | nil => rfl
      | cons h _ ih => rw [List.map_cons, List.map_cons, h.1, ih]
    have hno : kf x ∉ kvs.map (·.1) := fun z => by
      rw [keys hp] at z
      have h1 : ((xs.take (i + 1)).map kf).Nodup := ((List.take_sublist _ _).map _).nodup nd
      rw [et, List.map_append, List.nodup_append] at h1
      exact h1.2.2 _ z _ (List.mem_singleton.mpr rfl) rfl
    refine ⟨kvs, kf x, rfl, s2 _ _ e, ?_, fun b o eb => ?_, _, upd_same, ?_⟩
    · rw [Paired.length hp, List.length_take]
      exact Nat.lt_of_le_of_lt (Nat.min_le_right _ _) hl
    · rw [upd_ne (ne_of_none eb nD)]
      exact s2 _ _ (s _ _ eb)
    · rw [putK_end v hno, et]
      have b3 : But D H2 (upd H2 D (.dK (kvs ++ [(kf x, v)]))) := But.upd D H2 _
      refine (Paired.mono (fun kv y h => ⟨h.1, hmono _ _ _ _ ⟨kvs, e⟩ ((Same.but s2 D).trans b3) h.2⟩) hp).snoc ⟨rfl, hmono _ _ _ _ ⟨kvs, s2 _ _ e⟩ b3 hv⟩
  · rintro H ⟨s, kvs, e, hp⟩
    subst hn
    rw [List.take_length] at hp
    exact hd H kvs s e hp
end
/-- the parts of a move's fillings, box by box -/
def PtsAt (H : Hp) (kvs : List (Key × V)) (B : List Nat) (fl : Fil) : Prop := Paired (fun (kv : Key × V) b => kv.1 = Sum.inr (S [b]) ∧ ∃ a, kv.2 = .ref a ∧ H a = some (.lst (txs (partsOf ((getF fl [b]).getD []))))) kvs B
theorem PtsAt.same {H H' : Hp} (s : Same H H') {kvs : List (Key × V)} {B : List Nat} {fl : Fil} (h : PtsAt H kvs B fl) : PtsAt H' kvs B fl := Paired.mono (fun _ _ ⟨e, a, e2, h⟩ => ⟨e, a, e2, s _ _ h⟩) h
theorem keyV_S (c : List Nat) : keyV (.str (S c)) = Sum.inr (S c) := rfl
theorem sgs_keys {B : List Nat} (nd : B.Nodup) : ((sgs B).map keyV).Nodup := by
  unfold sgs
  rw [List.map_map]
  exact List.Pairwise.map _ (fun a b hab z => hab (by have := key_S.mp z; injection this)) nd
theorem str_item {B : List Nat} {i : Nat} {H H' : Hp} {x : V} (y : H' = H ∧ ∃ c, (S B).cps[i]? = some c ∧ x = .str ⟨#[c]⟩) : H' = H ∧ (sgs B)[i]? = some x := by
  obtain ⟨e, c, hc, rfl⟩ := y
  refine ⟨e, ?_⟩
  rw [show (S B).cps = B.toArray from rfl, List.getElem?_toArray] at hc
  unfold sgs
  rw [List.getElem?_map, hc]
  rfl
/-! ### what is told, as a function -/
abbrev Env := List (Nat × List Nat)
def getE (env : Env) (p : List Nat) : Option (List Nat) := (env.find? fun q => decide ([q.1] = p)).map (·.2)
def pieceE (env : Env) (p : List Nat) : List Nat := (getE env p).getD p
def fillE (env : Env) (parts : List (List Nat)) : List Nat := (parts.map (pieceE env)).flatten
def fil (fl : Fil) (b : Nat) : List Nat := (getF fl [b]).getD []
def stepE (ms : List Mv) (B : List Nat) (s : List Nat × Env) (a : Nat) : Option (List Nat × Env) := (findM ms s.1 a).map fun m => (m.to, B.map fun b => (b, fillE s.2 (partsOf (fil m.fl b))))
def runE (ms : List Mv) (B : List Nat) : List Nat × Env → List Nat → Option (List Nat × Env)
  | s, [] => some s
  | s, a :: r => (stepE ms B s a).bind fun s' => runE ms B s' r
theorem runE_app (ms : List Mv) (B : List Nat) : ∀ (xs ys : List Nat) (s : List Nat × Env), runE ms B s (xs ++ ys) = (runE ms B s xs).bind fun s' => runE ms B s' ys
  | [], ys, s => rfl
  | a :: r, ys, s => by
    show (stepE ms B s a).bind (fun s' => runE ms B s' (r ++ ys)) = ((stepE ms B s a).bind fun s' => runE ms B s' r).bind fun s' => runE ms B s' ys
    cases stepE ms B s a with
    | none => rfl
    | some s' => exact runE_app ms B r ys s'
def envOf (r : List Rb) : Env := r.map fun q => (q.b, q.w)
theorem get_env (p : List Nat) : ∀ r : List Rb, getE (envOf r) p = (findR r p).map (·.w)
  | [] => rfl
  | q :: r => by
    have ih := get_env p r
    unfold getE findR at *
    show (List.find? _ ((q.b, q.w) :: envOf r)).map _ = _
    rw [List.find?_cons, List.find?_cons]
    by_cases e : [q.b] = p
    · rw [decide_eq_true e]
      rfl
    · rw [decide_eq_false e]
      exact ih
theorem pieceW_E (r : List Rb) (p : List Nat) : pieceW r p = pieceE (envOf r) p := by
  unfold pieceW pieceE
  rw [get_env]
  cases findR r p <;> rfl
theorem fillW_E (r : List Rb) (parts : List (List Nat)) : fillW r parts = fillE (envOf r) parts := by
  unfold fillW fillE
  rw [List.map_congr_left fun p _ => pieceW_E r p]
/-! ### sizes -/
theorem pg_flat : ∀ (r cur : List Nat), (pg cur r).flatten = cur ++ r
  | [], cur => by
    rw [pg]
    split
    · rename_i h
      rw [h]
      rfl
    · simp
  | c :: r, cur => by
    by_cases h : isCap c = true
    · rw [pg_cap h, List.flatten_append, List.flatten_cons, pg_flat r []]
      split
      · rename_i h2
        rw [h2]
        rfl
      · simp
    · rw [pg_low (Bool.eq_false_iff.mpr h), pg_flat r (cur ++ [c])]
      simp
theorem parts_flat (f : List Nat) : (partsOf f).flatten = f := pg_flat f []
/-- cur holds no box -/
theorem pg_count {x : Nat} (hx : isCap x = true) : ∀ (r cur : List Nat), (∀ c ∈ cur, isCap c = false) → (pg cur r).count [x] = r.count x
  | [], cur, hc => by
    rw [pg]
    split
    · rfl
    · rename_i hne
      have : ([cur] : List (List Nat)).count [x] = 0 := by
        rw [List.count_eq_zero]
        intro z
        have z' := List.mem_singleton.mp z
        have := hc x (by rw [← z']; exact List.mem_singleton.mpr rfl)
        rw [hx] at this
        cases this
      rw [this]
      rfl
  | c :: r, cur, hc => by
    by_cases h : isCap c = true
    · rw [pg_cap h, List.count_append, List.count_cons, pg_count hx r [] (fun c hc => (nomatch hc)), List.count_cons]
      have h0 : (if cur = [] then ([] : List (List Nat)) else [cur]).count [x] = 0 := by
        split
        · rfl
        · rw [List.count_eq_zero]
          intro z
          have z' := List.mem_singleton.mp z
          have := hc x (by rw [← z']; exact List.mem_singleton.mpr rfl)
          rw [hx] at this
          cases this
      rw [h0]
      have : ([c] == [x]) = (c == x) := by simp
      rw [this]
      omega
    · have h' := Bool.eq_false_iff.mpr h
      rw [pg_low h', pg_count hx r (cur ++ [c]) (fun d hd => by
        rcases List.mem_append.mp hd with z | z
        · exact hc d z
        · rw [List.mem_singleton.mp z]; exact h'), List.count_cons]
      have : (c == x) = false := by
        rw [beq_eq_false_iff_ne]
        intro z
        rw [z, hx] at h'
        cases h'
      rw [this]
      rfl
theorem parts_count {x : Nat} (hx : isCap x = true) (f : List Nat) : (partsOf f).count [x] = f.count x := pg_count hx f [] (fun c hc => (nomatch hc))
theorem parts_len (f : List Nat) : (partsOf f).length ≤ 2 * f.length + 1 := by
  have := pg_len f []
  unfold partsOf
  omega
theorem fillN_app (r : List Rb) (a b : List (List Nat)) : fillN r (a ++ b) = fillN r a + fillN r b := by
  unfold fillN
  rw [List.map_append, List.sum_append]
theorem fillN_le : ∀ (r : List Rb) (L : List (List Nat)), (∀ q ∈ r, L.count [q.b] ≤ 1) → fillN r L ≤ L.length + (r.map (·.n)).sum
  | [], L, h0 => by
    clear h0
    have : fillN [] L = L.length := by
      unfold fillN
      induction L with
      | nil => rfl
      | cons p L ih =>
        rw [List.map_cons, List.sum_cons, ih, List.length_cons]
        show 1 + _ = _
        omega
    rw [this]
    exact Nat.le_add_right _ _
  | q :: r, L, h => by
    have ih := fillN_le r L fun q' hq' => h q' (List.mem_cons_of_mem _ hq')
    have key : fillN (q :: r) L ≤ fillN r L + q.n * L.count [q.b] := by
      clear ih h
      unfold fillN
      induction L with
      | nil => exact Nat.zero_le _
      | cons p L ihL =>
        rw [List.map_cons, List.sum_cons, List.map_cons, List.sum_cons, List.count_cons]
        have hp : pieceN (q :: r) p ≤ pieceN r p + (if (p == [q.b]) = true then q.n else 0) := by
          unfold pieceN findR
          rw [List.find?_cons]
          by_cases e : [q.b] = p
          · rw [decide_eq_true e, if_pos (by rw [beq_iff_eq]; exact e.symm)]
            show q.n + 1 ≤ _
            split <;> omega
          · rw [decide_eq_false e]
            exact Nat.le_add_right _ _
        rw [Nat.mul_add]
        have hm : q.n * (if (p == [q.b]) = true then 1 else 0) = (if (p == [q.b]) = true then q.n else 0) := by
          split
          · rw [Nat.mul_one]
          · rw [Nat.mul_zero]
        rw [hm]
        omega
    have h1 := h q List.mem_cons_self
    have h2 : q.n * L.count [q.b] ≤ q.n := by
      have := Nat.mul_le_mul_left q.n h1
      rw [Nat.mul_one] at this
      exact this
    rw [List.map_cons, List.sum_cons]
    omega
theorem fillW_le : ∀ (r : List Rb) (L : List (List Nat)), (∀ q ∈ r, L.count [q.b] ≤ 1) → (fillW r L).length ≤ L.flatten.length + (r.map (·.w.length)).sum
  | [], L, h0 => by
    clear h0
    have : fillW [] L = L.flatten := by
      unfold fillW
      induction L with
      | nil => rfl
      | cons p L ih => rw [List.map_cons, List.flatten_cons, ih, List.flatten_cons]; rfl
    rw [this]
    exact Nat.le_add_right _ _
  | q :: r, L, h => by
    have ih := fillW_le r L fun q' hq' => h q' (List.mem_cons_of_mem _ hq')
    have key : (fillW (q :: r) L).length ≤ (fillW r L).length + q.w.length * L.count [q.b] := by
      clear ih h
      unfold fillW
      induction L with
      | nil => exact Nat.zero_le _
      | cons p L ihL =>
        rw [List.map_cons, List.flatten_cons, List.map_cons, List.flatten_cons, List.count_cons, List.length_append, List.length_append]
        have hp : (pieceW (q :: r) p).length ≤ (pieceW r p).length + (if (p == [q.b]) = true then q.w.length else 0) := by
          unfold pieceW findR
          rw [List.find?_cons]
          by_cases e : [q.b] = p
          · rw [decide_eq_true e, if_pos (by rw [beq_iff_eq]; exact e.symm)]
            exact Nat.le_add_left _ _
          · rw [decide_eq_false e]
            exact Nat.le_add_right _ _
        rw [Nat.mul_add]
        have hm : q.w.length * (if (p == [q.b]) = true then 1 else 0) = (if (p == [q.b]) = true then q.w.length else 0) := by
          split
          · rw [Nat.mul_one]
          · rw [Nat.mul_zero]
        rw [hm]
        omega
    have h1 := h q List.mem_cons_self
    have h2 : q.w.length * L.count [q.b] ≤ q.w.length := by
      have := Nat.mul_le_mul_left q.w.length h1
      rw [Nat.mul_one] at this
      exact this
    rw [List.map_cons, List.sum_cons]
    omega
/-- all parts of all boxes, in a row -/
def allP (B : List Nat) (fl : Fil) : List (List Nat) := B.flatMap fun b => partsOf (fil fl b)
structure MvGood (B : List Nat) (m : Mv) : Prop where
  one : ∀ x ∈ B, ((B.map (fil m.fl)).flatten).count x ≤ 1
  len : (B.map (fil m.fl)).flatten.length ≤ 1000
  ti : (B.map (fil m.fl)).flatten.length ≤ 7 * B.length
theorem allP_count {fl : Fil} {x : Nat} (hx : isCap x = true) : ∀ B : List Nat, (allP B fl).count [x] = ((B.map (fil fl)).flatten).count x
  | [] => rfl
  | b :: B => by
    unfold allP
    rw [List.flatMap_cons, List.count_append, List.map_cons, List.flatten_cons, List.count_append, parts_count hx]
    have := allP_count (fl := fl) hx B
    unfold allP at this
    rw [this]
theorem allP_len {fl : Fil} : ∀ B : List Nat, (allP B fl).length ≤ 2 * ((B.map (fil fl)).flatten).length + B.length
  | [] => Nat.le_refl _
  | b :: B => by
    unfold allP
    rw [List.flatMap_cons, List.length_append, List.map_cons, List.flatten_cons, List.length_append, List.length_cons]
    have := allP_len (fl := fl) B
    unfold allP at this
    have h2 := parts_len (fil fl b)
    omega
theorem allP_flat {fl : Fil} : ∀ B : List Nat, (allP B fl).flatten = (B.map (fil fl)).flatten
  | [] => rfl
  | b :: B => by
    unfold allP
    rw [List.flatMap_cons, List.flatten_append, List.map_cons, List.flatten_cons, parts_flat]
    have := allP_flat (fl := fl) B
    unfold allP at this
    rw [this]
theorem fillE_app (env : Env) (a b : List (List Nat)) : fillE env (a ++ b) = fillE env a ++ fillE env b := by
  unfold fillE
  rw [List.map_append, List.flatten_append]
theorem sumE {fl : Fil} (env : Env) : ∀ B : List Nat, ((B.map fun b => (b, fillE env (partsOf (fil fl b)))).map (·.2.length)).sum = (fillE env (allP B fl)).length
  | [] => rfl
  | b :: B => by
    have := sumE (fl := fl) env B
    unfold allP at *
    rw [List.flatMap_cons, fillE_app, List.length_append, ← this]
    rfl
theorem sum_env (r : List Rb) : (r.map (·.w.length)).sum = ((envOf r).map (·.2.length)).sum := by
  unfold envOf
  rw [List.map_map]
  rfl
theorem fil_len {B : List Nat} {fl : Fil} {b : Nat} (hb : b ∈ B) : (fil fl b).length ≤ ((B.map (fil fl)).flatten).length := by
  induction B with
  | nil => exact (nomatch hb)
  | cons c B ih =>
    rw [List.map_cons, List.flatten_cons, List.length_append]
    rcases List.mem_cons.mp hb with e | e
    · rw [e]
      exact Nat.le_add_right _ _
    · exact Nat.le_trans (ih e) (Nat.le_add_left _ _)
/-- what the moves' dict keeps under a key; none of its dicts is the one at e -/
def CacheV (H : Hp) (ms : List Mv) (B : List Nat) (e : Addr) (c : List Nat) (a : Nat) (v : V) : Prop := match findM ms c a with
  | none => v = .non
  | some m => ∃ t d kv, v = .ref t ∧ H t = some (.tup [.str (S m.to), .ref d]) ∧ H d = some (.dK kv) ∧ PtsAt H kv B m.fl ∧ d ≠ e
theorem CacheV.but {H H' : Hp} {g x : Addr} {kvs : List (List Key × V)} (hg : H g = some (.dT kvs)) (s : But g H H') {ms : List Mv} {B c : List Nat} {a : Nat} {v : V} (h : CacheV H ms B x c a v) : CacheV H' ms B x c a v := by
  unfold CacheV at *
  cases e : findM ms c a with
  | none =>
    rw [e] at h
    exact h
  | some m =>
    rw [e] at h
    obtain ⟨t, d, kv, e1, h1, h2, h3, h4⟩ := h
    exact ⟨t, d, kv, e1, s _ _ h1 (ne_of h1 hg (by intro z; cases z)), s _ _ h2 (ne_of h2 hg (by intro z; cases z)), Paired.mono (fun _ _ ⟨e, a, e2, h⟩ => ⟨e, a, e2, s _ _ h (ne_of h hg (by intro z; cases z))⟩) h3, h4⟩
theorem CacheV.new {H : Hp} {x y : Addr} (n : H y = none) {ms : List Mv} {B c : List Nat} {a : Nat} {v : V} (h : CacheV H ms B x c a v) : CacheV H ms B y c a v := by
  unfold CacheV at *
  cases e : findM ms c a with
  | none =>
    rw [e] at h
    exact h
  | some m =>
    rw [e] at h
    obtain ⟨t, d, kv, e1, h1, h2, h3, _⟩ := h
    exact ⟨t, d, kv, e1, h1, h2, h3, ne_of_none h2 n⟩
theorem mkey_inj {c c' : List Nat} {a a' : Nat} (h : mkey c a = mkey c' a') : c = c' ∧ a = a' := by
  unfold mkey at h
  injection h with h1 h2
  injection h2 with h3 _
  have := key_S.mp h3
  injection this with h4 _
  exact ⟨key_S.mp h1, h4⟩
structure PgOk (B : List Nat) (ms : List Mv) (es : Fil) : Prop where
  nB : B.Nodup
  cB : ∀ x ∈ B, isCap x = true
  lB : B.length ≤ 6
  fl : ∀ m ∈ ms, ∀ q ∈ m.fl, q.2.length ≤ 1000
  good : ∀ m ∈ ms, MvGood B m
  en : ∀ c f, getF es c = some f → f.length ≤ 1000 ∧ ∀ x ∈ B, f.count x ≤ 1
  sg : ∀ m ∈ ms, ∀ q ∈ m.fl, ∀ c ∈ q.2, isCap c = true → c ∈ B
  esg : ∀ c f, getF es c = some f → ∀ x ∈ f, isCap x = true → x ∈ B
  eti : ∀ c f, getF es c = some f → f.length ≤ 4 * B.length + 3
def toldE (ms : List Mv) (B : List Nat) (es : Fil) (pl0 : List Nat) (t : List Nat) : Option (List Nat) := (runE ms B (pl0, B.map fun b => (b, [])) t).bind fun s => (getF es s.1).map fun f => fillE s.2 (partsOf f)
def optV : Option (List Nat) → V
  | none => .non
  | some x => .str (S x)
def envK (env : Env) : List (Key × V) := env.map fun q => (Sum.inr (S [q.1]), V.str (S q.2))
end Tb

set_option Elab.async false
set_option linter.all false
set_option maxRecDepth 100000
set_option maxHeartbeats 4000000
namespace Tb
open PySem PySem.Spec PyProof.Rows L2 TL
open PySem.Builtin PySem.Builtin.Str in
theorem find_S {f : List Nat} {b : Nat} (h : b ∈ f) : ∃ i : Nat, Txt.find (S f) (S [b]) = (i : Int) ∧ f[i]? = some b := by
  unfold Txt.find
  have h1 := StrLaws.found_one (S f) b
  rw [show decide (b ∈ (S f).cps.toList) = true from decide_eq_true h] at h1
  have h1' : (!(occurrences (S f) (S [b]) 0 (S f).length 1).isEmpty) = true := h1
  cases ho : occurrences (S f) (S [b]) 0 (S f).length 1 with
  | nil =>
    rw [ho] at h1'
    cases h1'
  | cons i r =>
    have hs := StrLaws.occ_spec (S f) (S [b]) 0 (S f).length 1 i (by rw [ho]; exact .head _)
    refine ⟨i, rfl, ?_⟩
    have e := strSub_of_subAt hs.2
    rw [strSub_mk] at e
    have e1 := congrArg tl e
    have e2 : (f.drop i).take (i + 1 - i) = [b] := e1
    rw [show i + 1 - i = 1 by omega] at e2
    cases hd : f.drop i with
    | nil =>
      rw [hd] at e2
      cases e2
    | cons x t =>
      rw [hd] at e2
      have hx : x = b := by
        injection e2
      have h3 := congrArg (fun l => l[0]?) hd
      have h4 : (f.drop i)[0]? = some x := h3
      rw [List.getElem?_drop] at h4
      rw [← hx]
      exact h4
/-! ### where the boxes of a filling stand -/
def cp : Nat → List Nat → List Nat
  | _, [] => []
  | o, c :: r => if isCap c = true then o :: cp (o + 1) r else cp (o + 1) r
theorem cp_mem {x : Nat} : ∀ {f : List Nat} {o : Nat}, x ∈ cp o f ↔ ∃ i c, f[i]? = some c ∧ isCap c = true ∧ x = o + i
  | [], o => ⟨fun h => (nomatch h), fun ⟨i, c, h, _⟩ => by rw [List.getElem?_nil] at h; cases h⟩
  | c :: r, o => by
    have ih := cp_mem (x := x) (f := r) (o := o + 1)
    have rest : (∃ i d, r[i]? = some d ∧ isCap d = true ∧ x = o + 1 + i) → ∃ i d, (c :: r)[i]? = some d ∧ isCap d = true ∧ x = o + i := fun ⟨i, d, h1, h2, h3⟩ => ⟨i + 1, d, h1, h2, by omega⟩
    by_cases h : isCap c = true
    · rw [cp, if_pos h, List.mem_cons]
      constructor
      · rintro (e | e)
        · exact ⟨0, c, rfl, h, by omega⟩
        · exact rest (ih.mp e)
      · rintro ⟨i, d, h1, h2, h3⟩
        cases i with
        | zero => exact .inl (by omega)
        | succ i => exact .inr (ih.mpr ⟨i, d, h1, h2, by omega⟩)
    · rw [cp, if_neg h]
      constructor
      · exact fun e => rest (ih.mp e)
      · rintro ⟨i, d, h1, h2, h3⟩
        cases i with
        | zero =>
          have e : c = d := Option.some.inj h1
          rw [e] at h
          exact absurd h2 h
        | succ i => exact ih.mpr ⟨i, d, h1, h2, by omega⟩
theorem cp_ge {x o : Nat} {f : List Nat} (h : x ∈ cp o f) : o ≤ x := by
  obtain ⟨i, _, _, _, e⟩ := cp_mem.mp h
  omega
theorem cp_lt : ∀ (f : List Nat) (o : Nat), (cp o f).Pairwise (· < ·)
  | [], _ => List.Pairwise.nil
  | c :: r, o => by
    have ih := cp_lt r (o + 1)
    by_cases h : isCap c = true
    · rw [cp, if_pos h]
      exact List.pairwise_cons.mpr ⟨fun x hx => cp_ge hx, ih⟩
    · rw [cp, if_neg h]
      exact ih
theorem cp_len : ∀ (f : List Nat) (o : Nat), (cp o f).length ≤ f.length
  | [], _ => Nat.le_refl _
  | c :: r, o => by
    have ih := cp_len r (o + 1)
    by_cases h : isCap c = true
    · rw [cp, if_pos h, List.length_cons, List.length_cons]
      omega
    · rw [cp, if_neg h, List.length_cons]
      omega
theorem cp_next : ∀ {g : List Nat} {o a : Nat} {rest : List Nat}, cp o g = a :: rest → ∃ low c r, g = low ++ c :: r ∧ a = o + low.length ∧ (∀ d ∈ low, isCap d = false) ∧ isCap c = true ∧ rest = cp (a + 1) r
  | [], _, _, _, h => nomatch h
  | c :: r, o, a, rest, h => by
    by_cases hc : isCap c = true
    · rw [cp, if_pos hc] at h
      injection h with h1 h2
      exact ⟨[], c, r, rfl, by rw [← h1]; rfl, fun d hd => (nomatch hd), hc, by rw [← h1]; exact h2.symm⟩
    · rw [cp, if_neg hc] at h
      obtain ⟨low, d, r', e, ea, hl, hd, hr⟩ := cp_next h
      refine ⟨c :: low, d, r', by rw [e]; rfl, by rw [List.length_cons]; omega, fun x hx => ?_, hd, hr⟩
      rcases List.mem_cons.mp hx with z | z
      · rw [z]
        exact Bool.eq_false_iff.mpr hc
      · exact hl x z
theorem cp_nil : ∀ {g : List Nat} {o : Nat}, cp o g = [] → ∀ d ∈ g, isCap d = false
  | [], _, _ => fun d hd => nomatch hd
  | c :: r, o, h => by
    by_cases hc : isCap c = true
    · rw [cp, if_pos hc] at h
      cases h
    · rw [cp, if_neg hc] at h
      intro d hd
      rcases List.mem_cons.mp hd with z | z
      · rw [z]
        exact Bool.eq_false_iff.mpr hc
      · exact cp_nil h d z
theorem pg_lows : ∀ {low : List Nat} (cur r : List Nat), (∀ d ∈ low, isCap d = false) → pg cur (low ++ r) = pg (cur ++ low) r
  | [], cur, r, _ => by rw [List.append_nil]; rfl
  | c :: low, cur, r, h => by
    rw [List.cons_append, pg_low (h c List.mem_cons_self), pg_lows (cur ++ [c]) r (fun d hd => h d (List.mem_cons_of_mem _ hd))]
    simp
theorem pg_next {low r : List Nat} {c : Nat} (h : ∀ d ∈ low, isCap d = false) (hc : isCap c = true) : pg [] (low ++ c :: r) = (if low = [] then [] else [low]) ++ ([c] :: pg [] r) := by
  rw [pg_lows [] _ h, List.nil_append, pg_cap hc]
theorem pg_last {g : List Nat} (h : ∀ d ∈ g, isCap d = false) : pg [] g = if g = [] then [] else [g] := by
  have := pg_lows [] [] h
  rw [List.append_nil, List.nil_append] at this
  rw [this, pg]
theorem once {f : List Nat} {c i j : Nat} (h : f.count c ≤ 1) (hi : f[i]? = some c) (hj : f[j]? = some c) : i = j := by
  have key : ∀ {i j : Nat}, f[i]? = some c → f[j]? = some c → i < j → False := fun {i j} hi hj hlt => by
    have e1 : f = f.take j ++ f.drop j := (List.take_append_drop j f).symm
    have m1 : c ∈ f.take j := by
      refine List.mem_of_getElem? (i := i) ?_
      rw [List.getElem?_take, if_pos hlt]
      exact hi
    have m2 : c ∈ f.drop j := by
      refine List.mem_of_getElem? (i := 0) ?_
      rw [List.getElem?_drop]
      exact hj
    have e2 := congrArg (List.count c) e1
    rw [List.count_append] at e2
    have := List.count_pos_iff.mpr m1
    have := List.count_pos_iff.mpr m2
    omega
  rcases Nat.lt_trichotomy i j with h1 | h1 | h1
  · exact (key hi hj h1).elim
  · exact h1
  · exact (key hj hi h1).elim
/-- the places that are found, in order, are those of the boxes -/
theorem found_cp {f B : List Nat} {ns : List Int} (nB : B.Nodup) (cB : ∀ x ∈ B, isCap x = true) (hs : ∀ c ∈ f, isCap c = true → c ∈ B) (h1 : ∀ x ∈ B, f.count x ≤ 1)
    (hp : ns.Perm ((B.filter fun b => decide (b ∈ f)).map fun b => Txt.find (S f) (S [b]))) (hl : ns.Pairwise (· ≤ ·)) : ns = (cp 0 f).map Int.ofNat := by
  have hB : ∀ b ∈ B.filter (fun b => decide (b ∈ f)), b ∈ B ∧ ∃ i : Nat, Txt.find (S f) (S [b]) = (i : Int) ∧ f[i]? = some b := fun b hb => by
    obtain ⟨h2, h3⟩ := List.mem_filter.mp hb
    exact ⟨h2, find_S (of_decide_eq_true h3)⟩
  have nd1 : ((B.filter fun b => decide (b ∈ f)).map fun b => Txt.find (S f) (S [b])).Nodup := by
    have nf : (B.filter fun b => decide (b ∈ f)).Nodup := List.filter_sublist.nodup nB
    refine List.pairwise_map.mpr (List.Pairwise.imp_of_mem (fun {a b} ha hb hab z => ?_) nf)
    obtain ⟨_, i, e1, e2⟩ := hB a ha
    obtain ⟨_, j, e3, e4⟩ := hB b hb
    rw [e1, e3] at z
    have z : i = j := by omega
    rw [z, e4] at e2
    exact hab (Option.some.inj e2).symm
  have nd2 : ((cp 0 f).map Int.ofNat).Nodup := by
    refine List.pairwise_map.mpr ((cp_lt f 0).imp fun {a b} h z => ?_)
    have z : (a : Int) = (b : Int) := z
    omega
  have perm : ((B.filter fun b => decide (b ∈ f)).map fun b => Txt.find (S f) (S [b])).Perm ((cp 0 f).map Int.ofNat) := by
    refine (List.perm_ext_iff_of_nodup nd1 nd2).mpr fun x => ?_
    constructor
    · intro hx
      obtain ⟨b, hb, rfl⟩ := List.mem_map.mp hx
      obtain ⟨hbB, i, e1, e2⟩ := hB b hb
      rw [e1]
      exact List.mem_map.mpr ⟨i, cp_mem.mpr ⟨i, b, e2, cB b hbB, by omega⟩, rfl⟩
    · intro hx
      obtain ⟨y, hy, rfl⟩ := List.mem_map.mp hx
      obtain ⟨i, c, e1, e2, e3⟩ := cp_mem.mp hy
      have hcf : c ∈ f := List.mem_of_getElem? e1
      have hcB := hs c hcf e2
      refine List.mem_map.mpr ⟨c, List.mem_filter.mpr ⟨hcB, decide_eq_true hcf⟩, ?_⟩
      obtain ⟨j, e4, e5⟩ := find_S hcf
      have : i = j := once (h1 c hcB) e1 e5
      show Txt.find (S f) (S [c]) = (y : Int)
      rw [e4]
      omega
  refine List.Perm.eq_of_pairwise (fun a b _ _ h1 h2 => Int.le_antisymm h1 h2) hl ?_ (hp.trans perm)
  refine List.pairwise_map.mpr ((cp_lt f 0).imp fun {a b} h => ?_)
  show (a : Int) ≤ (b : Int)
  omega
end Tb

set_option Elab.async false
set_option linter.all false
set_option maxRecDepth 100000
set_option maxHeartbeats 4000000
namespace Tb
open PySem PySem.Spec PyProof.Rows L2 TL
/-! ### a list comprehension with a test over anything that is walked -/
section
variable {te : TE} {tt : TT} {vs : List Nat} {σ : L2.St} {H1 : Hp} {D : Addr} {Qd : Hp → Prop} {sl : Nat} {J : It} {n : Nat} {G : Hp → Prop} {Y : Nat → Hp → V → Hp → Prop}
theorem lc_filtW {xs : List V} (keep : V → Bool) (g : V → V) (w : Walk J n G Y) (hn : n = xs.length) (hY : ∀ i H x H', Y i H x H' → H' = H ∧ xs[i]? = some x) (hG : ∀ H', Same H1 H' → G H') (nD : H1 D = none) (hl : xs.length < sizeLine)
    (ht : ∀ x ∈ xs, ∀ H' (R : Bool → Hp → Prop), Same H1 H' → R (keep x) H' → tt ((wipe σ vs).set sl (some x)) H' R)
    (he : ∀ x ∈ xs, keep x = true → ∀ H' (R : VK), Same H1 H' → (∀ H'', Same H' H'' → R (g x) H'') → te ((wipe σ vs).set sl (some x)) H' R)
    (hd : ∀ H', Same H1 H' → H' D = some (.lst ((xs.filter keep).map g)) → Qd H') (hw : ∀ x, wipe ((wipe σ vs).set sl (some x)) vs = wipe σ vs := by intro _; rfl) :
    ∃ W : Nat → Nat → Hp → Prop, (∃ m, W 0 m (upd H1 D (.lst []))) ∧ ∀ i m H, W i m H →
      (J.stop i H ∧ Qd H) ∨ (J.go i H ∧ ∃ Nx : Hp → Prop, (∀ H', Nx H' → ∃ m', m' < m ∧ W (i + 1) m' H') ∧ ∀ x H', J.yld i H x H' → gName sl x (wipe σ vs) H' fun σ2 H2 => wipe σ2 vs = wipe σ vs ∧ tt σ2 H2 fun b H3 =>
        if b = true then te σ2 H3 fun y H4 => ∃ acc, H4 D = some (.lst acc) ∧ acc.length < sizeLine ∧ Nx (upd H4 D (.lst (acc ++ [y]))) else Nx H3) := by
  refine lc_it w (fun i H => Same H1 H ∧ H D = some (.lst (((xs.take i).filter keep).map g))) ⟨same_upd nD, upd_same⟩ (fun i H _ h => hG H h.1) ?_ ?_
  · rintro i x H H' hi ⟨s, e⟩ y
    obtain ⟨rfl, hx⟩ := hY _ _ _ _ y
    have hm := List.mem_of_getElem? hx
    have et : xs.take (i + 1) = xs.take i ++ [x] := by
      rw [List.take_add_one, hx]
      rfl
    refine ⟨hw _, tif (k := keep x) (fun R r => ht x hm _ R s r) (fun hk => he x hm hk _ _ s fun H2 s2 => ⟨_, s2 _ _ e, ?_, fun b o eb => ?_, ?_⟩) (fun hk => ⟨s, ?_⟩)⟩
    · rw [List.length_map]
      refine Nat.lt_of_le_of_lt (List.length_filter_le _ _) ?_
      rw [List.length_take]
      exact Nat.lt_of_le_of_lt (Nat.min_le_right _ _) hl
    · rw [upd_ne (ne_of_none eb nD)]
      exact s2 _ _ (s _ _ eb)
    · rw [upd_same, et, List.filter_append, List.map_append]
      simp only [List.filter_cons, hk, if_true, List.filter_nil]
      rfl
    · rw [e, et, List.filter_append]
      simp [List.filter_cons, hk]
  · rintro H ⟨s, e⟩
    subst hn
    rw [List.take_length] at e
    exact hd H s e
end
end Tb

set_option Elab.async false
set_option linter.all false
set_option maxRecDepth 100000
set_option maxHeartbeats 4000000
namespace Tb
open PySem PySem.Spec PyProof.Rows L2 TL
theorem pe_find {X : Cx} {o e : Expr} {to te : TE} {apos pos : Pos} (ho : PE X o to) (he : PE X e te) (hs : starEach [e] X.env = [(false, eval e X.env)] := by rfl) (hbase : attributeBase o "find" X.env (eval o X.env) = eval o X.env := by rfl) (hline : (apos.endLine == pos.line) = true := by rfl) :
    PE X (.Call (.Attribute o "find" apos) [e] [] pos) (tM1 (fun x xs H Q => ∃ a b, x = .str a ∧ xs = [.str b] ∧ Q (.int (Txt.find a b)) H) to te) :=
  pe_m1 PySem.F.slot_str_find PySem.F.type_str_find mt_find ho he hs hbase hline
section
variable {P : Program} {w : World} {K : PySem.W.Frag} {mg : Str → Option Value} {base : Heap}
abbrev nPartsOf : List Str := ["filling", "boxes", "parts", "start", "at", "box"]
theorem scPartsOf : FnScope nPartsOf ["filling", "boxes"] (defScope sPartsOf) := ⟨rfl, rfl, rfl, by decide +kernel, rfl, by decide +kernel, by decide +kernel⟩
def spPartsOf : Sp := fun vs H Q _ => ∃ f B : List Nat, vs = [.str (S f), .str (S B)] ∧ f.length ≤ 1000 ∧ B.length ≤ 26 ∧ B.Nodup ∧ (∀ x ∈ B, isCap x = true) ∧ (∀ c ∈ f, isCap c = true → c ∈ B) ∧ (∀ x ∈ B, f.count x ≤ 1) ∧ New H (.lst (txs (partsOf f))) Q
theorem ok_partsOf {f : Addr} {fd : FuncData} {k : Nat} (F : Fun K "parts_of" "parts_of" sPartsOf f fd) (ms : mg "sorted" = none) (ml : mg "len" = none) : FnOk P w K mg base CX0 (k + 1) f fd ["filling", "boxes"] spPartsOf := by
  refine F.ok scPartsOf (fun vs H Q E h => ?_) (fun cdv A outer s H vs Q E hr h => ?_)
  · obtain ⟨cs, B, rfl, _⟩ := h
    rfl
  · obtain ⟨cs, B, rfl, hl, lB, nB, cB, hs, h1, q⟩ := h
    refine ⟨_, pss_cons (ps_set (i := 2) scPartsOf.nd rfl (.inl rfl) (pe_lstS pa_nil))
      (pss_cons (ps_set (i := 3) scPartsOf.nd rfl (.inl rfl) pe_int)
      (pss_cons (ps_for PassesOwn.never rfl (pi_list (pe_callB cr_sortedI (by rfl) ms (by decide +kernel) (pa_cons (pe_lc (own := [("box", 5)]) (g := gName 5) (tt := tTest (tOp (fun x y H Q => ∃ (c : Nat) (z : Str), x = .str ⟨#[c]⟩ ∧ y = .str z ∧ Q (.bl (decide (c ∈ z.cps.toList))) H) (tVar 5) (tVar 0))) (te := tM1 (fun x xs H Q => ∃ a b, x = .str a ∧ xs = [.str b] ∧ Q (.int (Txt.find a b)) H) (tVar 0) (tVar 5)) rfl scPartsOf.nd
            (pi_str (pv 1)) (blkOk_by (own := [("box", 5)]) (N := nPartsOf) (sc := defScope sPartsOf) (by decide +kernel)) (fun _ _ _ _ _ => pg_name (i := 5) scPartsOf.nd rfl (.inl rfl)) (fun _ _ _ _ _ => pts_one (pt_cmpR op_in_sign (pv 5) (pv 0) (by rfl))) (fun _ _ _ _ _ => pe_find (pv 0) (pv 5))) pa_nil))) (pg_name (i := 4) scPartsOf.nd rfl (.inl rfl))
          (C8.pss_cut (ps_if (pt_cmpR op_lt (pv 3) (pv 4) (nomark _)) (pss_one (ps_expr (pe_bm PySem.F.plainAttrs_list PySem.F.slot_list_append PySem.F.type_list_append mt_append (pv 2) (pa_cons (pe_slice sl_str (pv 0) (po_some (pv 3)) (po_some (pv 4))) pa_nil)))) pss_nil)
          (pss_cons (ps_expr (pe_bm PySem.F.plainAttrs_list PySem.F.slot_list_append PySem.F.type_list_append mt_append (pv 2) (pa_cons (pe_ix ix_str (pv 0) (pv 4) (fun _ _ => rfl)) pa_nil)))
          (pss_one (ps_set (i := 3) scPartsOf.nd rfl (.inl rfl) (pe_op op_add (pv 4) pe_int))))))
      (C8.pss_cut (ps_if (pt_cmpR op_lt (pv 3) (pe_callB call_len_str (by rfl) ml PySem.boot_len (pa_cons (pv 0) pa_nil)) (nomark _)) (pss_one (ps_expr (pe_bm PySem.F.plainAttrs_list PySem.F.slot_list_append PySem.F.type_list_append mt_append (pv 2) (pa_cons (pe_slice sl_str (pv 0) (po_some (pv 3)) po_none) pa_nil)))) pss_nil)
      (pss_one (ps_ret (pv 2)))))), ?_⟩
    have big : (10000 : Nat) ≤ sizeLine := by decide
    have lz : (S cs).length ≤ sizeLine := by
      rw [len_S]
      exact Nat.le_trans hl (by decide)
    refine ⟨Nat.zero_le _, fun p H1 s1 n1 e1 => ?_⟩
    refine ⟨_, rfl, S B, rfl, fun D nD => lc_filtW (xs := sgs B) (fun v => match v with | .str x => decide ((tl x).headD 0 ∈ cs) | _ => false) (fun v => match v with | .str x => .int (Txt.find (S cs) x) | _ => .non) walk_str (by unfold sgs; rw [List.length_map]; rfl) (fun i H x H' y => str_item y) (fun _ _ => trivial) nD ?_ ?_ ?_ ?_⟩
    · unfold sgs
      rw [List.length_map]
      exact small1000 (by omega)
    · intro x hx H' R s' r
      obtain ⟨b, hb, rfl⟩ := List.mem_map.mp hx
      exact ⟨_, rfl, _, rfl, b, _, rfl, rfl, _, rfl, r⟩
    · intro x hx _ H' R s' r
      obtain ⟨b, hb, rfl⟩ := List.mem_map.mp hx
      exact ⟨_, rfl, ⟨_, rfl⟩, _, rfl, _, _, rfl, rfl, r H' (fun _ _ e => e)⟩
    intro H2 s2 e2
    have ens : ((sgs B).filter fun v => match v with | .str x => decide ((tl x).headD 0 ∈ cs) | _ => false).map (fun v => match v with | .str x => .int (Txt.find (S cs) x) | _ => .non) = ((B.filter fun b => decide (b ∈ cs)).map fun b => Txt.find (S cs) (S [b])).map V.int := by
      unfold sgs
      rw [List.filter_map, List.map_map, List.map_map]
      rfl
    rw [ens] at e2
    refine ⟨D, _, rfl, SqL.of e2, fun ns a hpm hle na => ?_⟩
    have hns := found_cp nB cB hs h1 hpm hle
    subst hns
    have e3 : ∀ {b : Addr} {o : HO}, H1 b = some o → (upd H2 a (.lst (((cp 0 cs).map Int.ofNat).map V.int))) b = some o := fun {b o} e => by
      rw [upd_ne (ne_of_none (s2 _ _ e) na)]
      exact s2 _ _ e
    have s3 : Same H (upd H2 a (.lst (((cp 0 cs).map Int.ofNat).map V.int))) := fun b o e => e3 (s1 _ _ e)
    have ep3 := e3 e1
    have ea3 : (upd H2 a (.lst (((cp 0 cs).map Int.ofNat).map V.int))) a = some (.lst (((cp 0 cs).map Int.ofNat).map V.int)) := upd_same
    have nap : a ≠ p := fun z => by
      rw [z] at na
      rw [s2 _ _ e1] at na
      cases na
    generalize upd H2 a (.lst (((cp 0 cs).map Int.ofNat).map V.int)) = H3 at s3 ep3 ea3
    have lcp : (cp 0 cs).length ≤ cs.length := cp_len cs 0
    refine ⟨a, rfl, ⟨_, SqL.of ea3⟩, for_list (K := K) (a := a) (xs := ((cp 0 cs).map Int.ofNat).map V.int) (fun j σ H' => ∃ (v4 : Option V) (st : Nat) (done : List (List Nat)), σ = [some (.str (S cs)), some (.str (S B)), some (.ref p), some (num st), v4, none] ∧ But p H3 H' ∧ H' p = some (.lst (txs done)) ∧ st ≤ cs.length ∧ (cp 0 cs).drop j = cp st (cs.drop st) ∧ partsOf cs = done ++ pg [] (cs.drop st) ∧ done.length ≤ 2 * j)
      ⟨none, 0, [], rfl, But.refl _ _, ep3, Nat.zero_le _, rfl, rfl, Nat.le_refl _⟩ (fun j σ H' _ ⟨_, _, _, _, b, _⟩ => SqL.of (b _ _ ea3 nap)) ?_ ?_⟩
    · rintro j y σ H4 hj ⟨v4, st, done, rfl, b4, e4, hst, hcp, hpt, hdn⟩
      obtain ⟨at', hat, rfl⟩ : ∃ at', (cp 0 cs)[j]? = some at' ∧ y = num at' := by
        rw [List.getElem?_map, List.getElem?_map] at hj
        cases z : (cp 0 cs)[j]? with
        | none => rw [z] at hj; cases hj
        | some x => rw [z] at hj; exact ⟨x, rfl, (Option.some.inj hj).symm⟩
      have hj1 : j < cs.length := Nat.lt_of_lt_of_le (List.getElem?_eq_some_iff.mp hat).1 lcp
      have hd : (cp 0 cs).drop j = at' :: (cp 0 cs).drop (j + 1) := by
        obtain ⟨h5, h6⟩ := List.getElem?_eq_some_iff.mp hat
        rw [List.drop_eq_getElem_cons h5, h6]
      rw [hd] at hcp
      obtain ⟨low, c, r, eg, ea, hlow, hc, hr'⟩ := cp_next hcp.symm
      have lg := congrArg List.length eg
      rw [List.length_drop, List.length_append, List.length_cons] at lg
      have hat1 : at' < cs.length := by omega
      have hmid : (cs.drop st).take (at' - st) = low := by
        rw [eg, show at' - st = low.length by omega, List.take_left]
      have hcat : cs[at']? = some c := by
        have : (cs.drop st)[low.length]? = some c := by rw [eg, List.getElem?_append_right (Nat.le_refl _), Nat.sub_self]; rfl
        rw [List.getElem?_drop, ← ea] at this
        exact this
      have hrest : cs.drop (at' + 1) = r := by
        have h7 : (cs.drop st).drop (low.length + 1) = r := by
          rw [eg, List.drop_append]
          simp
        rw [List.drop_drop, show st + (low.length + 1) = at' + 1 by omega] at h7
        exact h7
      refine ⟨fun σ H' => ∃ done', σ = [some (.str (S cs)), some (.str (S B)), some (.ref p), some (num st), some (num at'), none] ∧ But p H3 H' ∧ H' p = some (.lst (txs done')) ∧ done' = done ++ (if low = [] then [] else [low]), ?_, ?_⟩
      · refine ⟨_, rfl, _, rfl, (st : Int), (at' : Int), rfl, rfl, _, rfl, ?_⟩
        by_cases hlt : st < at'
        · rw [decide_eq_true (show (st : Int) < (at' : Int) by omega)]
          refine iteT ⟨_, rfl, .inl ⟨rfl, _, SqL.of e4⟩, _, rfl, _, rfl, st, rfl, _, rfl, at', rfl, S cs, rfl, lz, p, _, _, rfl, rfl, e4, ?_, ?_⟩
          · unfold txs
            rw [List.length_map]
            omega
          · have hne : low ≠ [] := by
              intro z
              rw [z] at ea
              simp at ea
              omega
            refine ⟨done ++ [low], rfl, b4.trans (But.upd p _ _), ?_, by rw [if_neg hne]⟩
            rw [upd_same, cutS_mid cs st at' (by omega) (by omega), hmid]
            unfold txs
            rw [List.map_append]
            rfl
        · rw [decide_eq_false (show ¬ (st : Int) < (at' : Int) by omega)]
          have hnil : low = [] := List.length_eq_zero_iff.mp (by omega)
          exact iteF ⟨done, rfl, b4, e4, by rw [if_pos hnil, List.append_nil]⟩
      · rintro σ H5 ⟨done', rfl, b5, e5, hd'⟩
        have ld' : done'.length ≤ done.length + 1 := by
          rw [hd', List.length_append]
          split <;> simp
        refine ⟨_, rfl, .inl ⟨rfl, _, SqL.of e5⟩, _, rfl, _, rfl, S cs, (at' : Int), c, rfl, rfl, lz, atI_nat hcat, p, _, _, rfl, rfl, e5, ?_, ?_⟩
        · unfold txs
          rw [List.length_map]
          omega
        refine ⟨_, rfl, _, _, rfl, rfl, ?_⟩
        refine ⟨some (num at'), at' + 1, done' ++ [[c]], rfl, b5.trans (But.upd p _ _), ?_, by omega, ?_, ?_, ?_⟩
        · rw [upd_same]
          unfold txs
          rw [List.map_append]
          rfl
        · rw [hrest, ← hr']
        · rw [hpt, eg, pg_next hlow hc, hrest, hd']
          simp [List.append_assoc]
        · rw [List.length_append]
          show _ + 1 ≤ _
          omega
    · rintro σ H4 ⟨v4, st, done, rfl, b4, e4, hst, hcp, hpt, hdn⟩
      have lx : (((cp 0 cs).map Int.ofNat).map V.int).length = (cp 0 cs).length := by rw [List.length_map, List.length_map]
      rw [lx] at hcp hdn
      rw [List.drop_length] at hcp
      rw [pg_last (cp_nil hcp.symm)] at hpt
      have fin : ∀ H', But p H3 H' → H' p = some (.lst (txs (partsOf cs))) → Q (.ref p) H' := fun H' b e => q p H' (fun b' o eb => b b' o (s3 _ _ eb) (ne_of_none eb n1)) n1 e
      refine ⟨fun σ H' => σ = [some (.str (S cs)), some (.str (S B)), some (.ref p), some (num st), v4, none] ∧ But p H3 H' ∧ H' p = some (.lst (txs (partsOf cs))), ?_, ?_⟩
      · refine ⟨_, rfl, _, rfl, S cs, rfl, lz, (st : Int), _, rfl, rfl, _, rfl, ?_⟩
        rw [len_S]
        by_cases hlt : st < cs.length
        · rw [decide_eq_true (show (st : Int) < (cs.length : Int) by omega)]
          refine iteT ⟨_, rfl, .inl ⟨rfl, _, SqL.of e4⟩, _, rfl, _, rfl, st, rfl, S cs, rfl, lz, p, _, _, rfl, rfl, e4, ?_, ?_⟩
          · unfold txs
            rw [List.length_map]
            omega
          · have hne : cs.drop st ≠ [] := by
              intro z
              have := congrArg List.length z
              rw [List.length_drop] at this
              simp at this
              omega
            refine ⟨rfl, b4.trans (But.upd p _ _), ?_⟩
            rw [upd_same, cutS_drop, hpt, if_neg hne]
            unfold txs
            rw [List.map_append]
            rfl
        · rw [decide_eq_false (show ¬ (st : Int) < (cs.length : Int) by omega)]
          refine iteF ⟨rfl, b4, ?_⟩
          rw [hpt, if_pos (List.drop_eq_nil_of_le (by omega)), List.append_nil]
          exact e4
      · rintro σ H5 ⟨rfl, b5, e5⟩
        exact ⟨_, rfl, fin H5 b5 e5⟩
end
end Tb

set_option Elab.async false
set_option linter.all false
set_option maxRecDepth 100000
set_option maxHeartbeats 4000000
namespace Tb
open PySem PySem.Spec PyProof.Rows L2 TL
/-! ### ropes that are still texts: of at most 500 letters -/
/-- an expression that is never reached -/
def tNo : TE := fun _ _ _ => False
theorem pe_dead {X : Cx} {e : Expr} : PE X e tNo := ⟨fun _ _ _ _ _ _ h => h.elim⟩
section
variable {P : Program} {w : World} {K : PySem.W.Frag} {mg : Str → Option Value} {base : Heap}
abbrev nLenOf : List Str := ["rope"]
theorem scLenOf : FnScope nLenOf ["rope"] (defScope sLenOf) := ⟨rfl, rfl, rfl, by decide +kernel, rfl, by decide +kernel, by decide +kernel⟩
def spLenOf : Sp := fun vs H Q _ => ∃ c : List Nat, vs = [.str (S c)] ∧ c.length ≤ 1000 ∧ Q (num c.length) H
theorem small_S {c : List Nat} (h : c.length ≤ 1000) : (S c).length ≤ sizeLine := by
  rw [len_S]
  exact Nat.le_of_lt (small1000 h)
theorem ok_lenOf {f : Addr} {fd : FuncData} {k : Nat} (F : Fun K "length_of" "length_of" sLenOf f fd) (mi : mg "isinstance" = none) (ms : mg "str" = none) (ml : mg "len" = none) : FnOk P w K mg base CX0 (k + 1) f fd ["rope"] spLenOf := by
  refine F.ok scLenOf (fun vs H Q E h => ?_) (fun cdv A outer s H vs Q E hr h => ?_)
  · obtain ⟨c, rfl, _⟩ := h
    rfl
  · obtain ⟨c, rfl, hl, q⟩ := h
    refine ⟨_, pss_one (ps_ret (pe_ifExp (pt_val (pe_isStr (pv 0) mi (by rfl) ms (by rfl))) (pe_callB call_len_str (by rfl) ml PySem.boot_len (pa_cons (pv 0) pa_nil)) pe_dead)), ?_⟩
    refine ⟨_, rfl, true, isi_str _, true, rfl, iteT ⟨_, rfl, S c, rfl, small_S hl, ?_⟩⟩
    rw [len_S]
    exact q
abbrev nWith : List Str := ["text", "rope", "length"]
theorem scWith : FnScope nWith ["text", "rope", "length"] (defScope sWith) := ⟨rfl, rfl, rfl, by decide +kernel, rfl, by decide +kernel, by decide +kernel⟩
def spWith : Sp := fun vs H Q _ => ∃ (a b : List Nat) (n : Nat), vs = [.str (S a), .str (S b), num n] ∧ n ≤ 500 ∧ a.length + b.length ≤ 500 ∧ Q (.str (S (a ++ b))) H
theorem ok_with {f : Addr} {fd : FuncData} {k : Nat} (F : Fun K "_with_beginning" "_with_beginning" sWith f fd) (mi : mg "isinstance" = none) (ms : mg "str" = none) (mS : ∃ t, mg "SHORT" = some (.int 500 t)) : FnOk P w K mg base CX0 (k + 1) f fd ["text", "rope", "length"] spWith := by
  obtain ⟨tS, mS⟩ := mS
  refine F.ok scWith (fun vs H Q E h => ?_) (fun cdv A outer s H vs Q E hr h => ?_)
  · obtain ⟨a, b, n, rfl, _⟩ := h
    rfl
  · obtain ⟨a, b, n, rfl, hn, hl, q⟩ := h
    refine ⟨_, pss_cons (ps_if (pt_val (pe_isStr (pv 1) mi (by rfl) ms (by rfl))) (pss_one (ps_ret (pe_ifExp (pt_cmpR op_le (pv 2) (pe_glob (v := .int 500) (by rfl) mS ⟨_, rfl⟩) (nomark _)) (pe_op op_add_str (pv 0) (pv 1)) pe_dead))) pss_nil)
      (pss_cons ps_dead (pss_one ps_dead)), ?_⟩
    refine ⟨_, rfl, true, isi_str _, true, rfl, iteT ⟨_, rfl, (n : Int), 500, rfl, rfl, _, rfl, ?_⟩⟩
    rw [decide_eq_true (show (n : Int) ≤ 500 by omega)]
    refine iteT ⟨_, rfl, _, rfl, _, _, rfl, rfl, ?_, ?_⟩
    · rw [len_S, len_S]
      exact Nat.le_of_lt (small1000 (by omega))
    · rw [S_app]
      exact q
abbrev nPut : List Str := ["one", "two", "length"]
theorem scPut : FnScope nPut ["one", "two"] (defScope sPut) := ⟨rfl, rfl, rfl, by decide +kernel, rfl, by decide +kernel, by decide +kernel⟩
def spPut : Sp := fun vs H Q _ => ∃ (a b : List Nat), vs = [.str (S a), .str (S b)] ∧ a.length + b.length ≤ 500 ∧ Q (.str (S (a ++ b))) H
theorem eq_empty (a : List Nat) : decide (V.str (S a) = V.str (Str.ofString "")) = decide (a = []) := by
  rw [str_empty, decide_eq_decide]
  exact ⟨fun h => S_inj (V.str.inj h), fun h => by rw [h]⟩
theorem ok_put {f : Addr} {fd : FuncData} {k : Nat} (F : Fun K "put_together" "put_together" sPut f fd) (DL : Df P w K mg base (k + 1) "length_of" ["rope"] spLenOf) (DW : Df P w K mg base (k + 1) "_with_beginning" ["text", "rope", "length"] spWith) (mi : mg "isinstance" = none) (ms : mg "str" = none) : FnOk P w K mg base CX0 (k + 2) f fd ["one", "two"] spPut := by
  refine F.ok scPut (fun vs H Q E h => ?_) (fun cdv A outer s H vs Q E hr h => ?_)
  · obtain ⟨a, b, rfl, _⟩ := h
    rfl
  · obtain ⟨a, b, rfl, hl, q⟩ := h
    refine ⟨_, pss_cons (ps_if (pt_cmpR op_eq (pv 0) pe_str (nomark _)) (pss_one (ps_ret (pv 1))) pss_nil)
      (pss_cons (ps_if (pt_cmpR op_eq (pv 1) pe_str (nomark _)) (pss_one (ps_ret (pv 0))) pss_nil)
      (pss_cons (ps_set (i := 2) scPut.nd rfl (.inl rfl) (pe_op op_add (pe_df DL hr (pa_cons (pv 0) pa_nil)) (pe_df DL hr (pa_cons (pv 1) pa_nil))))
      (pss_cons (ps_if (pt_val (pe_isStr (pv 0) mi (by rfl) ms (by rfl))) (pss_one (ps_ret (pe_df DW hr (pa_cons (pv 0) (pa_cons (pv 1) (pa_cons (pv 2) pa_nil)))))) pss_nil)
      (pss_cons ps_dead (pss_cons ps_dead (pss_one ps_dead)))))), ?_⟩
    refine ⟨_, rfl, rfl, _, rfl, ?_⟩
    rw [eq_empty]
    by_cases ha : a = []
    · rw [decide_eq_true ha]
      rw [ha] at q
      exact iteT ⟨_, rfl, q⟩
    rw [decide_eq_false ha]
    refine iteF ⟨_, rfl, rfl, _, rfl, ?_⟩
    rw [eq_empty]
    by_cases hb : b = []
    · rw [decide_eq_true hb]
      rw [hb, List.append_nil] at q
      exact iteT ⟨_, rfl, q⟩
    rw [decide_eq_false hb]
    refine iteF ⟨_, rfl, a, rfl, by omega, _, rfl, b, rfl, by omega, _, _, rfl, rfl, ?_⟩
    refine ⟨_, rfl, true, isi_str _, true, rfl, iteT ⟨_, rfl, _, rfl, _, rfl, a, b, a.length + b.length, rfl, hl, hl, q⟩⟩
abbrev nRopeOf : List Str := ["ropes", "whole", "rope"]
theorem scRopeOf : FnScope nRopeOf ["ropes"] (defScope sRopeOf) := ⟨rfl, rfl, rfl, by decide +kernel, rfl, by decide +kernel, by decide +kernel⟩
def spRopeOf : Sp := fun vs H Q _ => ∃ (a : Addr) (ws : List (List Nat)), vs = [.ref a] ∧ H a = some (.lst (txs ws)) ∧ ws.flatten.length ≤ 500 ∧ Q (.str (S ws.flatten)) H
theorem ok_ropeOf {f : Addr} {fd : FuncData} {k : Nat} (F : Fun K "rope_of" "rope_of" sRopeOf f fd) (DP : Df P w K mg base (k + 2) "put_together" ["one", "two"] spPut) : FnOk P w K mg base CX0 (k + 3) f fd ["ropes"] spRopeOf := by
  refine F.ok scRopeOf (fun vs H Q E h => ?_) (fun cdv A outer s H vs Q E hr h => ?_)
  · obtain ⟨a, ws, rfl, _⟩ := h
    rfl
  · obtain ⟨a, ws, rfl, ha, hl, q⟩ := h
    refine ⟨_, pss_cons (ps_set (i := 1) scRopeOf.nd rfl (.inl rfl) pe_str)
      (pss_cons (ps_for PassesOwn.never rfl (pi_list (pv 0)) (pg_name (i := 2) scRopeOf.nd rfl (.inl rfl))
        (pss_one (ps_set (i := 1) scRopeOf.nd rfl (.inl rfl) (pe_df DP hr (pa_cons (pv 1) (pa_cons (pv 2) pa_nil))))))
      (pss_one (ps_ret (pv 1)))), ?_⟩
    refine ⟨_, rfl, a, rfl, ⟨_, SqL.of ha⟩, for_list (K := K) (a := a) (xs := txs ws) (fun j σ H' => ∃ v2, σ = [some (.ref a), some (.str (S (ws.take j).flatten)), v2] ∧ H' = H)
      ⟨none, by rw [str_empty]; rfl, rfl⟩ (fun j σ H' _ ⟨_, _, e⟩ => by rw [e]; exact SqL.of ha) ?_ ?_⟩
    · rintro j y σ H4 hj ⟨v2, rfl, rfl⟩
      obtain ⟨w, hw, rfl⟩ : ∃ w, ws[j]? = some w ∧ y = .str (S w) := by
        unfold txs at hj
        rw [List.getElem?_map] at hj
        cases z : ws[j]? with
        | none => rw [z] at hj; cases hj
        | some x => rw [z] at hj; exact ⟨x, rfl, (Option.some.inj hj).symm⟩
      have et : ws.take (j + 1) = ws.take j ++ [w] := by
        rw [List.take_add_one, hw]
        rfl
      have ef : (ws.take (j + 1)).flatten = (ws.take j).flatten ++ w := by rw [et]; simp
      have hlen : ((ws.take j).flatten ++ w).length ≤ 500 := by
        rw [← ef]
        have e1 : ws.flatten = (ws.take (j + 1)).flatten ++ (ws.drop (j + 1)).flatten := by
          rw [← List.flatten_append, List.take_append_drop]
        rw [e1, List.length_append] at hl
        omega
      rw [List.length_append] at hlen
      refine ⟨_, rfl, _, rfl, _, w, rfl, hlen, ?_⟩
      rw [← ef]
      exact ⟨_, rfl, rfl⟩
    · rintro σ H4 ⟨v2, rfl, rfl⟩
      have lx : (txs ws).length = ws.length := List.length_map _
      rw [lx, List.take_length]
      exact ⟨_, rfl, q⟩
abbrev nWritten : List Str := ["rope", "texts", "waiting", "piece"]
theorem scWritten : FnScope nWritten ["rope"] (defScope sWritten) := ⟨rfl, rfl, rfl, by decide +kernel, rfl, by decide +kernel, by decide +kernel⟩
def spWritten : Sp := fun vs H Q _ => ∃ c : List Nat, vs = [.str (S c)] ∧ c.length ≤ 1000 ∧ ∀ H', Same H H' → Q (.str (S c)) H'
theorem while_W {c : TT} {tb : TS} {D : Ends} {σ : L2.St} {H : Hp} (W : Nat → L2.St → Hp → Prop) (h0 : ∃ m, W m σ H)
    (hs : ∀ m σ H, W m σ H → c σ H fun b H1 => if b = true then tb { D with nx := fun σ' H' => ∃ m', m' < m ∧ W m' σ' H', ct := fun σ' H' => ∃ m', m' < m ∧ W m' σ' H', bk := D.nx } σ H1 else D.nx σ H1)
    (mono : ∀ σ H Q Q', (∀ b H1, Q b H1 → Q' b H1) → c σ H Q → c σ H Q') : tWhile c tb D σ H := by
  refine ⟨W, h0, fun m σ H w => mono σ H _ _ (fun b H1 q => ?_) (hs m σ H w)⟩
  cases b with
  | true => exact ⟨_, fun σ' H' z => z, q⟩
  | false => exact q
theorem ok_written {f : Addr} {fd : FuncData} {k : Nat} (F : Fun K "written" "written" sWritten f fd) (mi : mg "isinstance" = none) (ms : mg "str" = none) : FnOk P w K mg base CX0 (k + 1) f fd ["rope"] spWritten := by
  refine F.ok scWritten (fun vs H Q E h => ?_) (fun cdv A outer s H vs Q E hr h => ?_)
  · obtain ⟨c, rfl, _⟩ := h
    rfl
  · obtain ⟨c, rfl, hl, q⟩ := h
    refine ⟨_, pss_cons (ps_set (i := 1) scWritten.nd rfl (.inl rfl) (pe_lstS pa_nil))
      (pss_cons (ps_set (i := 2) scWritten.nd rfl (.inl rfl) (pe_lstS (pa_cons (pv 0) pa_nil)))
      (pss_cons (ps_while PassesOwn.never (pt_truth (pv 2) (fun _ => rfl))
        (pss_cons (ps_set (i := 3) scWritten.nd rfl (.inl rfl) (pe_bm0 PySem.F.plainAttrs_list PySem.F.slot_list_pop PySem.F.type_list_pop mt_pop (pv 2)))
        (pss_one (ps_if (pt_val (pe_isStr (pv 3) mi (by rfl) ms (by rfl)))
          (pss_one (ps_expr (pe_bm PySem.F.plainAttrs_list PySem.F.slot_list_append PySem.F.type_list_append mt_append (pv 1) (pa_cons (pv 3) pa_nil))))
          (pss_one ps_dead)))))
      (pss_one (ps_ret (pe_join pe_str (pv 1)))))), ?_⟩
    have big : (10000 : Nat) ≤ sizeLine := by decide
    refine ⟨Nat.zero_le _, fun t H1 s1 n1 e1 => ⟨_, rfl, by show 1 ≤ sizeLine; omega, fun g H2 s2 n2 e2 => ?_⟩⟩
    have ntg : t ≠ g := fun z => by rw [← z, e1] at n2; cases n2
    have nHg : H g = none := s1.free n2
    show tWhile (fun σ H0 Q => tVar 2 σ H0 fun x H' => ∃ k, TruV K x H' k ∧ Q k H') _ _ [some (.str (S c)), some (.ref t), some (.ref g), none] H2
    refine while_W (fun m σ H' => ∃ v3, σ = [some (.str (S c)), some (.ref t), some (.ref g), v3] ∧ Same H H' ∧ ((m = 1 ∧ H' t = some (.lst []) ∧ H' g = some (.lst [.str (S c)])) ∨ (m = 0 ∧ H' t = some (.lst [.str (S c)]) ∧ H' g = some (.lst []))))
      ⟨1, none, rfl, s1.trans s2, .inl ⟨rfl, s2 _ _ e1, e2⟩⟩ ?_ (fun σ H Q Q' m ⟨v, e, k, t, q⟩ => ⟨v, e, k, t, m _ _ q⟩)
    rintro m σ H3 ⟨v3, rfl, s3, ⟨rfl, et, eg⟩ | ⟨rfl, et, eg⟩⟩
    · refine ⟨_, rfl, true, .inl ⟨_, SqL.of eg, rfl⟩, iteT ⟨_, rfl, .inl ⟨rfl, _, SqL.of eg⟩, g, _, .str (S c), rfl, rfl, eg, rfl, ?_⟩⟩
      have s4 : Same H (upd H3 g (.lst ([V.str (S c)].dropLast))) := fun b o eb => by
        rw [upd_ne (ne_of_none eb nHg)]
        exact s3 _ _ eb
      have et4 : (upd H3 g (.lst ([V.str (S c)].dropLast))) t = some (.lst []) := by rw [upd_ne ntg]; exact et
      have eg4 : (upd H3 g (.lst ([V.str (S c)].dropLast))) g = some (.lst []) := upd_same
      generalize upd H3 g (.lst ([V.str (S c)].dropLast)) = H4 at s4 et4 eg4
      refine ⟨_, rfl, true, isi_str _, true, rfl, iteT ⟨_, rfl, .inl ⟨rfl, _, SqL.of et4⟩, _, rfl, t, _, _, rfl, rfl, et4, by show 0 < sizeLine; omega, ?_⟩⟩
      refine ⟨0, Nat.lt_succ_self _, _, rfl, fun b o eb => ?_, .inr ⟨rfl, upd_same, ?_⟩⟩
      · rw [upd_ne (ne_of_none eb n1)]
        exact s4 _ _ eb
      · rw [upd_ne ntg.symm]
        exact eg4
    · refine ⟨_, rfl, false, .inl ⟨_, SqL.of eg, rfl⟩, iteF ⟨⟨_, rfl⟩, _, rfl, _, t, [S c], rfl, rfl, .inl (SqL.of et), ?_, ?_⟩⟩
      · rw [str_empty, len_S]
        show (S c).length + 0 + _ ≤ _
        rw [len_S]
        show c.length + 0 + 1 * 0 ≤ _
        omega
      · have e : Txt.join (Str.ofString "") [S c] = S c := by
          have := join_S [] [c]
          rw [str_empty]
          rw [show ([S c] : List Str) = [c].map S from rfl, this]
          rfl
        rw [e]
        exact q H3 s3
end
end Tb

set_option Elab.async false
set_option linter.all false
set_option maxRecDepth 100000
set_option maxHeartbeats 4000000
namespace Tb
open PySem PySem.Spec PyProof.Rows L2 TL
/-! ### ropes of any length -/
abbrev sRope : Stmt := topS 41
abbrev sRpInit : Stmt := subS sRope 0
abbrev sRpPieces : Stmt := subS sRope 1
def ropeF (l : List Nat) (m : Addr) (r : List Nat) (n : Nat) : List (Str × V) := [("left", .str (S l)), ("middle", .ref m), ("right", .str (S r)), ("length", num n)]
theorem rf_l (l : List Nat) (m : Addr) (r : List Nat) (n : Nat) : (ropeF l m r n).lookup ("left" : Str) = some (.str (S l)) := rfl
theorem rf_m (l : List Nat) (m : Addr) (r : List Nat) (n : Nat) : (ropeF l m r n).lookup ("middle" : Str) = some (.ref m) := by
  show List.lookup _ (_ :: _) = _
  rw [List.lookup_cons, show (("middle" : Str) == "left") = false by decide +kernel]
  rfl
theorem rf_r (l : List Nat) (m : Addr) (r : List Nat) (n : Nat) : (ropeF l m r n).lookup ("right" : Str) = some (.str (S r)) := by
  show List.lookup _ (_ :: _ :: _) = _
  rw [List.lookup_cons, show (("right" : Str) == "left") = false by decide +kernel, List.lookup_cons, show (("right" : Str) == "middle") = false by decide +kernel]
  rfl
theorem rf_n (l : List Nat) (m : Addr) (r : List Nat) (n : Nat) : (ropeF l m r n).lookup ("length" : Str) = some (num n) := by
  show List.lookup _ (_ :: _ :: _ :: _) = _
  rw [List.lookup_cons, show (("length" : Str) == "left") = false by decide +kernel, List.lookup_cons, show (("length" : Str) == "middle") = false by decide +kernel, List.lookup_cons, show (("length" : Str) == "right") = false by decide +kernel]
  rfl
/-- v is a rope that tells w, made of n pieces, at most d deep -/
def RpN (CR : Addr) (H : Hp) : Nat → V → List Nat → Nat → Prop
  | 0, v, w, n => v = .str (S w) ∧ n = 1
  | d + 1, v, w, n => (v = .str (S w) ∧ n = 1) ∨ ∃ r dx m l rt vs, ∃ ps : List (List Nat × Nat), v = .ref r ∧ H r = some (.ins CR dx (ropeF l m rt w.length)) ∧ H m = some (.tup vs) ∧ Paired (fun v p => RpN CR H d v p.1 p.2) vs ps ∧ vs.length ≤ 2 ∧ w = l ++ (ps.map (·.1)).flatten ++ rt ∧ n = (ps.map (·.2)).sum + 3 ∧ n + 3 ≤ 4 * w.length
theorem RpN.succ {CR : Addr} {H : Hp} : ∀ {d : Nat} {v : V} {w : List Nat} {n : Nat}, RpN CR H d v w n → RpN CR H (d + 1) v w n
  | 0, v, w, n, h => .inl h
  | d + 1, v, w, n, h => by
    rcases h with h | ⟨r, dx, m, l, rt, vs, ps, e, h1, h2, h3, h4⟩
    · exact .inl h
    · exact .inr ⟨r, dx, m, l, rt, vs, ps, e, h1, h2, Paired.mono (fun v p z => RpN.succ z) h3, h4⟩
theorem RpN.le {CR : Addr} {H : Hp} {d e : Nat} {v : V} {w : List Nat} {n : Nat} (l : d ≤ e) (h : RpN CR H d v w n) : RpN CR H e v w n := by
  induction l with
  | refl => exact h
  | step _ ih => exact ih.succ
theorem RpN.keep {CR : Addr} {H H' : Hp} (k : ∀ b o, H b = some o → ((∃ xs, o = .tup xs) ∨ ∃ dx fs, o = .ins CR dx fs) → H' b = some o) : ∀ {d : Nat} {v : V} {w : List Nat} {n : Nat}, RpN CR H d v w n → RpN CR H' d v w n
  | 0, v, w, n, h => h
  | d + 1, v, w, n, h => by
    rcases h with h | ⟨r, dx, m, l, rt, vs, ps, e, h1, h2, h3, h4⟩
    · exact .inl h
    · exact .inr ⟨r, dx, m, l, rt, vs, ps, e, k _ _ h1 (.inr ⟨_, _, rfl⟩), k _ _ h2 (.inl ⟨_, rfl⟩), Paired.mono (fun v p z => RpN.keep k z) h3, h4⟩
def RpV (CR : Addr) (H : Hp) (v : V) (w : List Nat) (n : Nat) : Prop := ∃ d, RpN CR H d v w n
theorem RpV.keep {CR : Addr} {H H' : Hp} {v : V} {w : List Nat} {n : Nat} (k : ∀ b o, H b = some o → ((∃ xs, o = .tup xs) ∨ ∃ dx fs, o = .ins CR dx fs) → H' b = some o) : RpV CR H v w n → RpV CR H' v w n := fun ⟨d, h⟩ => ⟨d, h.keep k⟩
theorem RpV.same {CR : Addr} {H H' : Hp} {v : V} {w : List Nat} {n : Nat} (s : Same H H') (h : RpV CR H v w n) : RpV CR H' v w n := h.keep fun b o e _ => s b o e
theorem RpV.txt (CR : Addr) (H : Hp) (w : List Nat) : RpV CR H (.str (S w)) w 1 := ⟨0, rfl, rfl⟩
theorem RpV.cases {CR : Addr} {H : Hp} {v : V} {w : List Nat} {n : Nat} (h : RpV CR H v w n) : (v = .str (S w) ∧ n = 1) ∨ ∃ r dx m l rt vs, ∃ ps : List (List Nat × Nat), v = .ref r ∧ H r = some (.ins CR dx (ropeF l m rt w.length)) ∧ H m = some (.tup vs) ∧ Paired (fun v p => RpV CR H v p.1 p.2) vs ps ∧ vs.length ≤ 2 ∧ w = l ++ (ps.map (·.1)).flatten ++ rt ∧ n = (ps.map (·.2)).sum + 3 ∧ n + 3 ≤ 4 * w.length := by
  obtain ⟨d, h⟩ := h
  cases d with
  | zero => exact .inl h
  | succ d =>
    rcases h with h | ⟨r, dx, m, l, rt, vs, ps, e, h1, h2, h3, h4⟩
    · exact .inl h
    · exact .inr ⟨r, dx, m, l, rt, vs, ps, e, h1, h2, Paired.mono (fun v p z => ⟨d, z⟩) h3, h4⟩
theorem paired_depth {CR : Addr} {H : Hp} : ∀ {vs : List V} {ps : List (List Nat × Nat)}, Paired (fun v p => RpV CR H v p.1 p.2) vs ps → ∃ d, Paired (fun v p => RpN CR H d v p.1 p.2) vs ps
  | _, _, .nil => ⟨0, .nil⟩
  | _, _, .cons ⟨d, h⟩ t => by
    obtain ⟨e, t'⟩ := paired_depth t
    exact ⟨max d e, .cons (h.le (Nat.le_max_left _ _)) (Paired.mono (fun v p z => z.le (Nat.le_max_right _ _)) t')⟩
theorem RpV.obj {CR : Addr} {H : Hp} {r dx m : Addr} {l rt w : List Nat} {vs : List V} {ps : List (List Nat × Nat)} (h1 : H r = some (.ins CR dx (ropeF l m rt w.length))) (h2 : H m = some (.tup vs)) (h3 : Paired (fun v p => RpV CR H v p.1 p.2) vs ps) (h4 : vs.length ≤ 2) (h5 : w = l ++ (ps.map (·.1)).flatten ++ rt) (h6 : (ps.map (·.2)).sum + 3 + 3 ≤ 4 * w.length) : RpV CR H (.ref r) w ((ps.map (·.2)).sum + 3) := by
  obtain ⟨d, h3⟩ := paired_depth h3
  exact ⟨d + 1, .inr ⟨r, dx, m, l, rt, vs, ps, rfl, h1, h2, h3, h4, h5, rfl, h6⟩⟩
/-- how many pieces: by the length -/
theorem RpV.few {CR : Addr} {H : Hp} {v : V} {w : List Nat} {n : Nat} (h : RpV CR H v w n) : n ≤ 4 * w.length + 1 ∧ (w ≠ [] → n + 3 ≤ 4 * w.length) ∧ 1 ≤ n := by
  rcases h.cases with ⟨_, e⟩ | ⟨r, dx, m, l, rt, vs, ps, e, h1, h2, h3, h4, h5, h6, h7⟩
  · subst e
    refine ⟨by omega, fun hw => ?_, Nat.le_refl _⟩
    have := List.length_pos_iff.mpr hw
    omega
  · exact ⟨by omega, fun _ => h7, by omega⟩
structure RpTxt (K : PySem.W.Frag) (mg : Str → Option Value) (CR : Addr) : Prop where
  cl : Cls K CR
  nL : NoAttr K CR "left"
  nM : NoAttr K CR "middle"
  nR : NoAttr K CR "right"
  nN : NoAttr K CR "length"
  mgC : mg "Rope" = some (.ref CR)
  ha : PySem.W.findIn K (.ref CR) "__class__" = some (some (.builtin "object.__class__"))
  hn : PySem.W.specialIn K (.builtin "object.__class__") "__get__" = some (some (.builtin "getset_descriptor.__get__"))
  htk : PySem.W.takesIn K (.builtin "object.__class__") = some true
  hm : PySem.W.mroIn K CR (.type "object") = some true
  hk : PySem.W.kitOne K (.ref CR) (.type "str") = some false
  he : PySem.W.findIn K (.ref CR) "__eq__" = some (some (.builtin "object.__eq__"))
theorem RpTxt.isi {K : PySem.W.Frag} {mg : Str → Option Value} {CR : Addr} (T : RpTxt K mg CR) {H : Hp} {r dx : Addr} {fs : List (Str × V)} (h : H r = some (.ins CR dx fs)) : Isi K H (.ref r) "str" false := ⟨_, .base (.ins h T.cl T.ha T.hn T.htk T.hm), T.hk⟩
section
variable {P : Program} {w : World} {K : PySem.W.Frag} {mg : Str → Option Value} {base : Heap}
abbrev psRp : List Str := ["self", "left", "middle", "right", "length"]
theorem scRpInit : FnScope psRp psRp (defScope sRpInit) := ⟨rfl, rfl, rfl, by decide +kernel, rfl, by decide +kernel, by decide +kernel⟩
def spRpInit (CR : Addr) : Sp := fun vs H Q _ => ∃ (x dx m : Addr) (l r : List Nat) (n : Nat), vs = [.ref x, .str (S l), .ref m, .str (S r), num n] ∧ H x = some (.ins CR dx []) ∧ ∀ H', But x H H' → H' x = some (.ins CR dx (ropeF l m r n)) → Q .non H'
theorem ok_rpInit {f CR : Addr} {fd : FuncData} {k : Nat} (F : Fun K "__init__" "Rope.__init__" sRpInit f fd) (T : RpTxt K mg CR) : FnOk P w K mg base CX0 (k + 1) f fd psRp (spRpInit CR) := by
  refine F.ok scRpInit (fun vs H Q E h => ?_) (fun cdv A outer st H vs Q E hr h => ?_)
  · obtain ⟨x, dx, m, l, r, n, rfl, _⟩ := h
    rfl
  · obtain ⟨x, dx, m, l, r, n, rfl, hx, q⟩ := h
    refine ⟨_, pss_cons (ps_fld (pv 0) (pv 1) rfl) (pss_cons (ps_fld (pv 0) (pv 2) rfl) (pss_cons (ps_fld (pv 0) (pv 3) rfl) (pss_one (ps_fld (pv 0) (pv 4) rfl)))), ?_⟩
    refine ⟨_, rfl, _, rfl, x, CR, dx, [], rfl, hx, T.cl, T.nL, by show 0 < 1000; decide, ?_⟩
    have b1 : But x H (upd H x (.ins CR dx (putF "left" (.str (S l)) []))) := But.upd x H _
    have e1 : (upd H x (.ins CR dx (putF "left" (.str (S l)) []))) x = some (.ins CR dx [("left", .str (S l))]) := upd_same
    generalize upd H x (.ins CR dx (putF "left" (.str (S l)) [])) = H1 at b1 e1
    refine ⟨_, rfl, _, rfl, x, CR, dx, _, rfl, e1, T.cl, T.nM, by show 1 < 1000; decide, ?_⟩
    have b2 : But x H (upd H1 x (.ins CR dx (putF "middle" (.ref m) [("left", .str (S l))]))) := b1.trans (But.upd x H1 _)
    have e2 : (upd H1 x (.ins CR dx (putF "middle" (.ref m) [("left", .str (S l))]))) x = some (.ins CR dx [("left", .str (S l)), ("middle", .ref m)]) := by
      rw [upd_same, putF_end (show ("middle" : Str) ∉ (["left"] : List Str) by decide +kernel)]
      rfl
    generalize upd H1 x (.ins CR dx (putF "middle" (.ref m) [("left", .str (S l))])) = H2 at b2 e2
    refine ⟨_, rfl, _, rfl, x, CR, dx, _, rfl, e2, T.cl, T.nR, by show 2 < 1000; decide, ?_⟩
    have b3 : But x H (upd H2 x (.ins CR dx (putF "right" (.str (S r)) [("left", .str (S l)), ("middle", .ref m)]))) := b2.trans (But.upd x H2 _)
    have e3 : (upd H2 x (.ins CR dx (putF "right" (.str (S r)) [("left", .str (S l)), ("middle", .ref m)]))) x = some (.ins CR dx [("left", .str (S l)), ("middle", .ref m), ("right", .str (S r))]) := by
      rw [upd_same, putF_end (show ("right" : Str) ∉ (["left", "middle"] : List Str) by decide +kernel)]
      rfl
    generalize upd H2 x (.ins CR dx (putF "right" (.str (S r)) [("left", .str (S l)), ("middle", .ref m)])) = H3 at b3 e3
    refine ⟨_, rfl, _, rfl, x, CR, dx, _, rfl, e3, T.cl, T.nN, by show 3 < 1000; decide, ?_⟩
    refine q _ (b3.trans (But.upd x H3 _)) ?_
    rw [upd_same, putF_end (show ("length" : Str) ∉ (["left", "middle", "right"] : List Str) by decide +kernel)]
    rfl
/-- the class's making, proved -/
structure MkRp (P : Program) (w : World) (K : PySem.W.Frag) (mg : Str → Option Value) (base : Heap) (CR : Addr) (k : Nat) : Prop where
  ex : ∃ f fd, Mk K CR f ∧ FnOk P w K mg base CX0 k f fd psRp (spRpInit CR) ∧ Binds K fd psRp []
def tRope (CR : Addr) (t : TA) : TE := fun σ H Q => t σ H fun vs H1 => ∃ (m : Addr) (l r : List Nat) (n : Nat), vs = [.str (S l), .ref m, .str (S r), num n] ∧ ∀ x dx H', Same H1 H' → H1 x = none → H' x = some (.ins CR dx (ropeF l m r n)) → Q (.ref x) H'
theorem pe_rope {X : Cx} {CR : Addr} {k j : Nat} {e : Expr} {es : List Expr} {t : TA} {p pos : Pos} (D : MkRp X.prog X.w X.K X.mg X.base CR k) (hr : Room j X.A) (hm : X.mg "Rope" = some (.ref CR)) (ha : PA X (e :: es) t) (hk : k + 1 ≤ j := by omega) (hg : Gl X "Rope" := by rfl)
    (he : starEach (e :: es) X.env = (false, eval e X.env) :: starEach es X.env := by rfl) (hpl : (backTo pos (starEach es X.env)).any (·.1) = false := by rfl) :
    PE X (.Call (.Name "Rope" p) (e :: es) [] pos) (tRope CR t) := by
  obtain ⟨f, fd, M, F, b⟩ := D.ex
  refine PE.weak (pe_make M F (hr.mono hk) hg hm b .nil pass0 (PA.mono ha) (by decide) he hpl) fun σ H Q z => ⟨_, z, fun vs H1 ⟨m, l, r, n, ev, q⟩ x dx nx ndx ne => ?_⟩
  subst ev
  have s1 : Same H1 (upd (upd H1 dx (.own x)) x (.ins CR dx [])) := fun b o eb => by
    rw [upd_ne (ne_of_none eb nx), upd_ne (ne_of_none eb ndx)]
    exact eb
  exact ⟨x, dx, m, l, r, n, rfl, upd_same, fun H' hb hx => ⟨rfl, q x dx H' (fun b o eb => hb b o (s1 b o eb) (ne_of_none eb nx)) nx hx⟩⟩
theorem scRpPieces : FnScope ["self"] ["self"] (defScope sRpPieces) := ⟨rfl, rfl, rfl, by decide +kernel, rfl, by decide +kernel, by decide +kernel⟩
def spRpPieces (CR : Addr) : Sp := fun vs H Q _ => ∃ (x dx m : Addr) (l r : List Nat) (n : Nat) (us : List V), vs = [.ref x] ∧ H x = some (.ins CR dx (ropeF l m r n)) ∧ H m = some (.tup us) ∧ us.length ≤ 2 ∧ ∀ L H', Same H H' → H L = none → H' L = some (.lst ([.str (S l)] ++ us ++ [.str (S r)])) → Q (.ref L) H'
theorem ok_rpPieces {f CR : Addr} {fd : FuncData} {k : Nat} (F : Fun K "pieces" "Rope.pieces" sRpPieces f fd) (T : RpTxt K mg CR) : FnOk P w K mg base CX0 (k + 1) f fd ["self"] (spRpPieces CR) := by
  refine F.ok scRpPieces (fun vs H Q E h => ?_) (fun cdv A outer st H vs Q E hr h => ?_)
  · obtain ⟨x, dx, m, l, r, n, us, rfl, _⟩ := h
    rfl
  · obtain ⟨x, dx, m, l, r, n, us, rfl, hx, hm, hu, q⟩ := h
    refine ⟨_, pss_one (ps_ret (pe_lstS (pa_cons (pe_fld (pv 0) rfl) (StX.pa_star (pe_fld (pv 0) rfl) (pa_cons (pe_fld (pv 0) rfl) pa_nil))))), ?_⟩
    refine ⟨_, rfl, x, CR, dx, _, _, rfl, hx, T.cl, T.nL, rf_l _ _ _ _, _, rfl, x, CR, dx, _, _, rfl, hx, T.cl, T.nM, rf_m _ _ _ _, m, us, rfl, .inl (SqT.of hm), _, rfl, x, CR, dx, _, _, rfl, hx, T.cl, T.nR, rf_r _ _ _ _, ?_, fun L H' s' n' e' => q L H' s' n' ?_⟩
    · show (_ :: (us ++ _)).length ≤ _
      rw [List.length_cons, List.length_append]
      exact Nat.le_of_lt (small1000 (by show us.length + 1 + 1 ≤ 1000; omega))
    · rw [e']
      rfl
end
end Tb

set_option Elab.async false
set_option linter.all false
set_option maxRecDepth 100000
set_option maxHeartbeats 4000000
namespace Tb
open PySem PySem.Spec PyProof.Rows L2 TL
theorem small_G {c : List Nat} (h : c.length ≤ 1000000) : (S c).length ≤ sizeLine := by
  rw [len_S, sizeLine_eq]
  omega
theorem flat1 (w : List Nat) : ([(w, 0)].map (·.1)).flatten = w := by simp
section
variable {P : Program} {w : World} {K : PySem.W.Frag} {mg : Str → Option Value} {base : Heap}
def spLenG (CR : Addr) : Sp := fun vs H Q _ => ∃ (v : V) (c : List Nat) (n : Nat), vs = [v] ∧ RpV CR H v c n ∧ c.length ≤ 1000000 ∧ Q (num c.length) H
theorem ok_lenG {f CR : Addr} {fd : FuncData} {k : Nat} (F : Fun K "length_of" "length_of" sLenOf f fd) (T : RpTxt K mg CR) (mi : mg "isinstance" = none) (ms : mg "str" = none) (ml : mg "len" = none) : FnOk P w K mg base CX0 (k + 1) f fd ["rope"] (spLenG CR) := by
  refine F.ok scLenOf (fun vs H Q E h => ?_) (fun cdv A outer s H vs Q E hr h => ?_)
  · obtain ⟨v, c, n, rfl, _⟩ := h
    rfl
  · obtain ⟨v, c, n, rfl, hv, hl, q⟩ := h
    refine ⟨_, pss_one (ps_ret (pe_ifExp (pt_val (pe_isStr (pv 0) mi (by rfl) ms (by rfl))) (pe_callB call_len_str (by rfl) ml PySem.boot_len (pa_cons (pv 0) pa_nil)) (pe_fld (pv 0) rfl))), ?_⟩
    rcases hv.cases with ⟨rfl, _⟩ | ⟨r, dx, m, l, rt, us, ps, rfl, h1, _⟩
    · refine ⟨_, rfl, true, isi_str _, true, rfl, iteT ⟨_, rfl, S c, rfl, small_G hl, ?_⟩⟩
      rw [len_S]
      exact q
    · exact ⟨_, rfl, false, T.isi h1, false, rfl, iteF ⟨_, rfl, r, CR, dx, _, _, rfl, h1, T.cl, T.nN, rf_n _ _ _ _, q⟩⟩
def spWithG (CR : Addr) : Sp := fun vs H Q _ => ∃ (a c : List Nat) (v : V) (n : Nat), vs = [.str (S a), v, num (a.length + c.length)] ∧ RpV CR H v c n ∧ a ≠ [] ∧ c ≠ [] ∧ a.length + c.length ≤ 1000000 ∧ ∀ u k H', Same H H' → RpV CR H' u (a ++ c) k → Q u H'
theorem ok_withG {f CR : Addr} {fd : FuncData} {k : Nat} (F : Fun K "_with_beginning" "_with_beginning" sWith f fd) (T : RpTxt K mg CR) (MK : MkRp P w K mg base CR (k + 1)) (mi : mg "isinstance" = none) (ms : mg "str" = none) (ml : mg "len" = none) (mS : ∃ t, mg "SHORT" = some (.int 500 t)) : FnOk P w K mg base CX0 (k + 3) f fd ["text", "rope", "length"] (spWithG CR) := by
  obtain ⟨tS, mS⟩ := mS
  refine F.ok scWith (fun vs H Q E h => ?_) (fun cdv A outer s H vs Q E hr h => ?_)
  · obtain ⟨a, c, v, n, rfl, _⟩ := h
    rfl
  · obtain ⟨a, c, v, n, rfl, hv, ha, hc, hl, q⟩ := h
    have la : 1 ≤ a.length := List.length_pos_iff.mpr ha
    have lc : 1 ≤ c.length := List.length_pos_iff.mpr hc
    refine ⟨_, pss_cons (ps_if (pt_val (pe_isStr (pv 1) mi (by rfl) ms (by rfl))) (pss_one (ps_ret (pe_ifExp (pt_cmpR op_le (pv 2) (pe_glob (v := .int 500) (by rfl) mS ⟨_, rfl⟩) (nomark _)) (pe_op op_add_str (pv 0) (pv 1)) (pe_rope MK hr T.mgC (pa_cons (pv 0) (pa_cons (pe_tupS pa_nil) (pa_cons (pv 1) (pa_cons (pv 2) pa_nil)))))))) pss_nil)
      (pss_cons (ps_if (pt_cmpR op_le (pe_op op_add (pe_callB call_len_str (by rfl) ml PySem.boot_len (pa_cons (pv 0) pa_nil)) (pe_callB call_len_str (by rfl) ml PySem.boot_len (pa_cons (pe_fld (pv 1) rfl) pa_nil))) (pe_glob (v := .int 500) (by rfl) mS ⟨_, rfl⟩) (nomark _)) (pss_one (ps_ret (pe_rope MK hr T.mgC (pa_cons (pe_op op_add_str (pv 0) (pe_fld (pv 1) rfl)) (pa_cons (pe_fld (pv 1) rfl) (pa_cons (pe_fld (pv 1) rfl) (pa_cons (pv 2) pa_nil))))))) pss_nil)
      (pss_one (ps_ret (pe_rope MK hr T.mgC (pa_cons (pv 0) (pa_cons (pe_tupS (pa_cons (pv 1) pa_nil)) (pa_cons pe_str (pa_cons (pv 2) pa_nil)))))))), ?_⟩
    have big : (3000000 : Nat) < sizeLine := by rw [sizeLine_eq]; decide
    rcases hv.cases with ⟨rfl, rfl⟩ | ⟨r, dx, m, l, rt, us, ps, rfl, h1, h2, h3, h4, h5, h6, h7⟩
    · refine ⟨_, rfl, true, isi_str _, true, rfl, iteT ⟨_, rfl, ((a.length + c.length : Nat) : Int), 500, rfl, rfl, _, rfl, ?_⟩⟩
      by_cases hs : a.length + c.length ≤ 500
      · rw [decide_eq_true (show ((a.length + c.length : Nat) : Int) ≤ 500 by omega)]
        refine iteT ⟨_, rfl, _, rfl, _, _, rfl, rfl, ?_, ?_⟩
        · rw [len_S, len_S]
          omega
        · rw [S_app]
          exact q _ 1 H (fun _ _ e => e) (RpV.txt CR H _)
      · rw [decide_eq_false (show ¬ (((a.length + c.length : Nat) : Int) ≤ 500) by omega)]
        refine iteF ⟨_, rfl, Nat.zero_le _, fun m H1 s1 n1 e1 => ⟨_, rfl, _, rfl, m, a, c, a.length + c.length, rfl, fun x dx H2 s2 n2 e2 => ?_⟩⟩
        refine q _ _ H2 (s1.trans s2) (RpV.obj (ps := []) (dx := dx) (m := m) (l := a) (rt := c) (w := a ++ c) (vs := []) ?_ (s2 _ _ e1) .nil (by decide) (by simp) ?_)
        · rw [List.length_append]
          exact e2
        · rw [List.length_append]
          show 0 + 3 + 3 ≤ _
          omega
    · have lcl : c.length = l.length + (ps.map (·.1)).flatten.length + rt.length := by
        rw [h5, List.length_append, List.length_append]
      refine ⟨_, rfl, false, T.isi h1, false, rfl, iteF ?_⟩
      refine ⟨_, rfl, S a, rfl, small_G (by omega), _, rfl, r, CR, dx, _, _, rfl, h1, T.cl, T.nL, rf_l _ _ _ _, S l, rfl, small_G (by omega), _, _, rfl, rfl, _, 500, rfl, rfl, _, rfl, ?_⟩
      rw [len_S, len_S]
      by_cases hs : a.length + l.length ≤ 500
      · rw [decide_eq_true (show ((a.length : Nat) : Int) + ((l.length : Nat) : Int) ≤ 500 by omega)]
        refine iteT ⟨_, rfl, _, rfl, r, CR, dx, _, _, rfl, h1, T.cl, T.nL, rf_l _ _ _ _, _, _, rfl, rfl, by rw [len_S, len_S]; omega, _, rfl, r, CR, dx, _, _, rfl, h1, T.cl, T.nM, rf_m _ _ _ _, _, rfl, r, CR, dx, _, _, rfl, h1, T.cl, T.nR, rf_r _ _ _ _, _, rfl, m, a ++ l, rt, a.length + c.length, by rw [S_app], fun x dx' H2 s2 n2 e2 => ?_⟩
        refine q _ _ H2 s2 (RpV.obj (ps := ps) (dx := dx') (m := m) (l := a ++ l) (rt := rt) (w := a ++ c) (vs := us) ?_ (s2 _ _ h2) (Paired.mono (fun v p z => z.same s2) h3) h4 ?_ ?_)
        · rw [List.length_append (as := a) (bs := c)]
          exact e2
        · rw [h5]
          simp
        · rw [List.length_append]
          omega
      · rw [decide_eq_false (show ¬ (((a.length : Nat) : Int) + ((l.length : Nat) : Int) ≤ 500) by omega)]
        refine iteF ⟨_, rfl, _, rfl, by show 1 ≤ sizeLine; omega, fun m' H1 s1 n1 e1 => ⟨_, rfl, m', a, [], a.length + c.length, by rw [str_empty], fun x dx' H2 s2 n2 e2 => ?_⟩⟩
        have hv2 : RpV CR H2 (.ref r) c n := hv.same (s1.trans s2)
        refine q _ _ H2 (s1.trans s2) (RpV.obj (ps := [(c, n)]) (dx := dx') (m := m') (l := a) (rt := []) (w := a ++ c) (vs := [.ref r]) ?_ (s2 _ _ e1) (.cons hv2 .nil) (by show 1 ≤ 2; decide) (by simp) ?_)
        · rw [List.length_append]
          exact e2
        · rw [List.length_append]
          show n + 0 + 3 + 3 ≤ _
          omega
end
end Tb

set_option Elab.async false
set_option linter.all false
set_option maxRecDepth 100000
set_option maxHeartbeats 4000000
namespace Tb
open PySem PySem.Spec PyProof.Rows L2 TL
theorem sub_flatG {l m : List (List Nat)} (h : l.Sublist m) : l.flatten.Sublist m.flatten := by
  induction h with
  | slnil => exact .slnil
  | cons a _ ih =>
    rw [List.flatten_cons]
    exact ih.trans (List.sublist_append_right _ _)
  | cons_cons a _ ih =>
    rw [List.flatten_cons, List.flatten_cons]
    exact (List.Sublist.refl _).append ih
section
variable {P : Program} {w : World} {K : PySem.W.Frag} {mg : Str → Option Value} {base : Heap}
def spPutG (CR : Addr) : Sp := fun vs H Q _ => ∃ (v v' : V) (c c' : List Nat) (n n' : Nat), vs = [v, v'] ∧ RpV CR H v c n ∧ RpV CR H v' c' n' ∧ c.length + c'.length ≤ 1000000 ∧ ∀ u k H', Same H H' → RpV CR H' u (c ++ c') k → Q u H'
/-- is it the empty text? -/
theorem eq_none {CR : Addr} {K : PySem.W.Frag} {mg : Str → Option Value} (T : RpTxt K mg CR) {H : Hp} {v : V} {c : List Nat} {n : Nat} (h : RpV CR H v c n) {Q : V → Hp → Prop} (q : Q (.bl (decide (c = []))) H) : rEqRp K v (.str (Str.ofString "")) H Q := by
  rcases h.cases with ⟨rfl, rfl⟩ | ⟨r, dx, m, l, rt, us, ps, rfl, h1, h2, h3, h4, h5, h6, h7⟩
  · exact .inl ⟨_, _, rfl, rfl, by rw [eq_empty]; exact q⟩
  · have hc : c ≠ [] := fun z => by
      rw [z] at h7
      simp at h7
    rw [decide_eq_false hc] at q
    exact .inr ⟨r, CR, dx, _, _, rfl, rfl, h1, T.hm, T.he, q⟩
theorem ok_putG {f CR : Addr} {fd : FuncData} {k : Nat} (F : Fun K "put_together" "put_together" sPut f fd) (T : RpTxt K mg CR) (MK : MkRp P w K mg base CR (k + 1)) (DL : Df P w K mg base (k + 1) "length_of" ["rope"] (spLenG CR)) (DW : Df P w K mg base (k + 3) "_with_beginning" ["text", "rope", "length"] (spWithG CR)) (mi : mg "isinstance" = none) (ms : mg "str" = none) (ml : mg "len" = none) (mS : ∃ t, mg "SHORT" = some (.int 500 t)) : FnOk P w K mg base CX0 (k + 4) f fd ["one", "two"] (spPutG CR) := by
  obtain ⟨tS, mS⟩ := mS
  refine F.ok scPut (fun vs H Q E h => ?_) (fun cdv A outer s H vs Q E hr h => ?_)
  · obtain ⟨v, v', c, c', n, n', rfl, _⟩ := h
    rfl
  · obtain ⟨v, v', c, c', n, n', rfl, hv, hv', hl, q⟩ := h
    have hu := hu_of hr
    refine ⟨_, pss_cons (ps_if (pt_cmpR (op_eqRp hu) (pv 0) pe_str (nomark _)) (pss_one (ps_ret (pv 1))) pss_nil)
      (pss_cons (ps_if (pt_cmpR (op_eqRp hu) (pv 1) pe_str (nomark _)) (pss_one (ps_ret (pv 0))) pss_nil)
      (pss_cons (ps_set (i := 2) scPut.nd rfl (.inl rfl) (pe_op op_add (pe_df DL hr (pa_cons (pv 0) pa_nil)) (pe_df DL hr (pa_cons (pv 1) pa_nil))))
      (pss_cons (ps_if (pt_val (pe_isStr (pv 0) mi (by rfl) ms (by rfl))) (pss_one (ps_ret (pe_df DW hr (pa_cons (pv 0) (pa_cons (pv 1) (pa_cons (pv 2) pa_nil)))))) pss_nil)
      (pss_cons (ps_if (pt_not (pt_val (pe_isStr (pv 1) mi (by rfl) ms (by rfl)))) (pss_one (ps_ret (pe_rope MK hr T.mgC (pa_cons pe_str (pa_cons (pe_tupS (pa_cons (pv 0) (pa_cons (pv 1) pa_nil))) (pa_cons pe_str (pa_cons (pv 2) pa_nil))))))) pss_nil)
      (pss_cons (ps_if (pt_cmpR op_le (pe_op op_add (pe_callB call_len_str (by rfl) ml PySem.boot_len (pa_cons (pe_fld (pv 0) rfl) pa_nil)) (pe_callB call_len_str (by rfl) ml PySem.boot_len (pa_cons (pv 1) pa_nil))) (pe_glob (v := .int 500) (by rfl) mS ⟨_, rfl⟩) (nomark _)) (pss_one (ps_ret (pe_rope MK hr T.mgC (pa_cons (pe_fld (pv 0) rfl) (pa_cons (pe_fld (pv 0) rfl) (pa_cons (pe_op op_add_str (pe_fld (pv 0) rfl) (pv 1)) (pa_cons (pv 2) pa_nil))))))) pss_nil)
      (pss_one (ps_ret (pe_rope MK hr T.mgC (pa_cons pe_str (pa_cons (pe_tupS (pa_cons (pv 0) pa_nil)) (pa_cons (pv 1) (pa_cons (pv 2) pa_nil)))))))))))), ?_⟩
    have big : (3000000 : Nat) < sizeLine := by rw [sizeLine_eq]; decide
    refine ⟨_, rfl, ?_⟩
    dsimp only [tC]
    refine eq_none T hv ⟨_, rfl, ?_⟩
    by_cases hc : c = []
    · rw [decide_eq_true hc]
      subst hc
      exact iteT ⟨_, rfl, q _ _ H (fun _ _ e => e) hv'⟩
    rw [decide_eq_false hc]
    refine iteF ⟨_, rfl, ?_⟩
    dsimp only [tC]
    refine eq_none T hv' ⟨_, rfl, ?_⟩
    by_cases hc' : c' = []
    · rw [decide_eq_true hc']
      subst hc'
      refine iteT ⟨_, rfl, q _ n H (fun _ _ e => e) ?_⟩
      rw [List.append_nil]
      exact hv
    rw [decide_eq_false hc']
    have lc : 1 ≤ c.length := List.length_pos_iff.mpr hc
    have lc' : 1 ≤ c'.length := List.length_pos_iff.mpr hc'
    have f1 := hv.few.2.1 hc
    have f2 := hv'.few.2.1 hc'
    refine iteF ⟨_, rfl, v, c, n, rfl, hv, by omega, _, rfl, v', c', n', rfl, hv', by omega, _, _, rfl, rfl, ?_⟩
    have en : ((c.length : Nat) : Int) + ((c'.length : Nat) : Int) = ((c.length + c'.length : Nat) : Int) := by omega
    show gName 2 (.int (((c.length : Nat) : Int) + ((c'.length : Nat) : Int))) _ _ _
    rw [en]
    rcases hv.cases with ⟨rfl, rfl⟩ | ⟨r, dx, m, l, rt, us, ps, rfl, h1, h2, h3, h4, h5, h6, h7⟩
    · refine ⟨_, rfl, true, isi_str _, true, rfl, iteT ⟨_, rfl, _, rfl, _, rfl, c, c', v', n', rfl, hv', hc, hc', by omega, fun u k H' s' z => q u k H' s' z⟩⟩
    · have lcl : c.length = l.length + (ps.map (·.1)).flatten.length + rt.length := by
        rw [h5, List.length_append, List.length_append]
      refine ⟨_, rfl, false, T.isi h1, false, rfl, iteF ?_⟩
      rcases hv'.cases with ⟨rfl, rfl⟩ | ⟨r', dx', m', l', rt', us', ps', rfl, h1', _⟩
      · refine ⟨_, rfl, true, isi_str _, true, rfl, iteF ?_⟩
        refine ⟨_, rfl, r, CR, dx, _, _, rfl, h1, T.cl, T.nR, rf_r _ _ _ _, S rt, rfl, small_G (by omega), _, rfl, S c', rfl, small_G (by omega), _, _, rfl, rfl, _, 500, rfl, rfl, _, rfl, ?_⟩
        rw [len_S, len_S]
        by_cases hs : rt.length + c'.length ≤ 500
        · rw [decide_eq_true (show ((rt.length : Nat) : Int) + ((c'.length : Nat) : Int) ≤ 500 by omega)]
          refine iteT ⟨_, rfl, r, CR, dx, _, _, rfl, h1, T.cl, T.nL, rf_l _ _ _ _, _, rfl, r, CR, dx, _, _, rfl, h1, T.cl, T.nM, rf_m _ _ _ _, _, rfl, r, CR, dx, _, _, rfl, h1, T.cl, T.nR, rf_r _ _ _ _, _, rfl, _, _, rfl, rfl, by rw [len_S, len_S]; omega, _, rfl, m, l, rt ++ c', c.length + c'.length, by rw [S_app]; rfl, fun x dx' H2 s2 n2 e2 => ?_⟩
          refine q _ _ H2 s2 (RpV.obj (ps := ps) (dx := dx') (m := m) (l := l) (rt := rt ++ c') (w := c ++ c') (vs := us) ?_ (s2 _ _ h2) (Paired.mono (fun v p z => z.same s2) h3) h4 ?_ ?_)
          · rw [List.length_append (as := c) (bs := c')]
            exact e2
          · rw [h5]
            simp
          · rw [List.length_append]
            omega
        · rw [decide_eq_false (show ¬ (((rt.length : Nat) : Int) + ((c'.length : Nat) : Int) ≤ 500) by omega)]
          refine iteF ⟨_, rfl, by show 1 ≤ sizeLine; omega, fun m' H1 s1 n1 e1 => ⟨_, rfl, _, rfl, m', [], c', c.length + c'.length, by rw [str_empty]; rfl, fun x dx' H2 s2 n2 e2 => ?_⟩⟩
          refine q _ _ H2 (s1.trans s2) (RpV.obj (ps := [(c, n)]) (dx := dx') (m := m') (l := []) (rt := c') (w := c ++ c') (vs := [.ref r]) ?_ (s2 _ _ e1) (.cons (hv.same (s1.trans s2)) .nil) (by show 1 ≤ 2; decide) (by simp) ?_)
          · rw [List.length_append]
            exact e2
          · rw [List.length_append]
            show n + 0 + 3 + 3 ≤ _
            omega
      · refine ⟨_, rfl, false, T.isi h1', false, rfl, iteT ?_⟩
        refine ⟨_, rfl, _, rfl, by show 2 ≤ sizeLine; omega, fun m' H1 s1 n1 e1 => ⟨_, rfl, m', [], [], c.length + c'.length, by rw [str_empty]; rfl, fun x dx' H2 s2 n2 e2 => ?_⟩⟩
        refine q _ _ H2 (s1.trans s2) (RpV.obj (ps := [(c, n), (c', n')]) (dx := dx') (m := m') (l := []) (rt := []) (w := c ++ c') (vs := [.ref r, .ref r']) ?_ (s2 _ _ e1) (.cons (hv.same (s1.trans s2)) (.cons (hv'.same (s1.trans s2)) .nil)) (by show 2 ≤ 2; decide) (by simp) ?_)
        · rw [List.length_append]
          exact e2
        · rw [List.length_append]
          show n + (n' + 0) + 3 + 3 ≤ _
          omega
def RpVs (CR : Addr) (H : Hp) (vs : List V) (ws : List (List Nat)) : Prop := Paired (fun v c => ∃ n, RpV CR H v c n) vs ws
def spRopeOfG (CR : Addr) : Sp := fun vs H Q _ => ∃ (a : Addr) (us : List V) (ws : List (List Nat)), vs = [.ref a] ∧ H a = some (.lst us) ∧ RpVs CR H us ws ∧ ws.flatten.length ≤ 1000000 ∧ ∀ u k H', Same H H' → RpV CR H' u ws.flatten k → Q u H'
theorem ok_ropeOfG {f CR : Addr} {fd : FuncData} {k : Nat} (F : Fun K "rope_of" "rope_of" sRopeOf f fd) (DP : Df P w K mg base (k + 4) "put_together" ["one", "two"] (spPutG CR)) : FnOk P w K mg base CX0 (k + 5) f fd ["ropes"] (spRopeOfG CR) := by
  refine F.ok scRopeOf (fun vs H Q E h => ?_) (fun cdv A outer s H vs Q E hr h => ?_)
  · obtain ⟨a, us, ws, rfl, _⟩ := h
    rfl
  · obtain ⟨a, us, ws, rfl, ha, hus, hl, q⟩ := h
    refine ⟨_, pss_cons (ps_set (i := 1) scRopeOf.nd rfl (.inl rfl) pe_str)
      (pss_cons (ps_for PassesOwn.never rfl (pi_list (pv 0)) (pg_name (i := 2) scRopeOf.nd rfl (.inl rfl))
        (pss_one (ps_set (i := 1) scRopeOf.nd rfl (.inl rfl) (pe_df DP hr (pa_cons (pv 1) (pa_cons (pv 2) pa_nil))))))
      (pss_one (ps_ret (pv 1)))), ?_⟩
    refine ⟨_, rfl, a, rfl, ⟨_, SqL.of ha⟩, for_list (K := K) (a := a) (xs := us) (fun j σ H' => ∃ v1 v2 n, σ = [some (.ref a), some v1, v2] ∧ Same H H' ∧ RpV CR H' v1 (ws.take j).flatten n)
      ⟨_, none, 1, rfl, fun _ _ e => e, by rw [str_empty]; exact RpV.txt CR H []⟩ (fun j σ H' _ ⟨_, _, _, _, s, _⟩ => SqL.of (s _ _ ha)) ?_ ?_⟩
    · rintro j y σ H1 hj ⟨v1, v2, n, rfl, s1, hv1⟩
      obtain ⟨c, hc, n', hy⟩ := paired_get2 hus hj
      have et : ws.take (j + 1) = ws.take j ++ [c] := by
        rw [List.take_add_one, hc]
        rfl
      have ef : (ws.take (j + 1)).flatten = (ws.take j).flatten ++ c := by
        rw [et]
        simp
      have lf : (ws.take (j + 1)).flatten.length ≤ ws.flatten.length := (sub_flatG (List.take_sublist _ _)).length_le
      rw [ef, List.length_append] at lf
      refine ⟨_, rfl, _, rfl, v1, y, (ws.take j).flatten, c, n, n', rfl, hv1, hy.same s1, by omega, fun u k H2 s2 hu => ⟨u, _, k, rfl, s1.trans s2, by rw [ef]; exact hu⟩⟩
    · rintro σ H1 ⟨v1, v2, n, rfl, s1, hv1⟩
      rw [Paired.length hus, List.take_length] at hv1
      exact ⟨_, rfl, q _ n H1 s1 hv1⟩
end
end Tb

set_option Elab.async false
set_option linter.all false
set_option maxRecDepth 100000
set_option maxHeartbeats 4000000
namespace Tb
open PySem PySem.Spec PyProof.Rows L2 TL
/-! ### _law_filled -/
theorem _root_.L2.Rd.same {H H' : Hp} {a : Addr} {u : HO} (h : Rd H a u) (s : Same H H') : Rd H' a u := h.elim (fun h => .inl (s _ _ h)) fun ⟨o, h⟩ => .inr ⟨o, s _ _ h⟩
theorem dget_rd {H : Hp} {a : Addr} {kvs : List (Key × V)} {k : Key} (e : Rd H a (.dK kvs)) : DGet H a (kV k) (valV kvs k) := .inl ⟨kvs, k, e, rfl, rfl⟩
def getC (env : Env) (c : Nat) : Option (List Nat) := (env.find? fun q => decide (q.1 = c)).map (·.2)
def fillC (env : Env) (f : List Nat) : List Nat := (f.map fun c => (getC env c).getD [c]).flatten
theorem getC_cons (q : Nat × List Nat) (env : Env) (c : Nat) : getC (q :: env) c = if q.1 = c then some q.2 else getC env c := by
  unfold getC
  rw [List.find?_cons]
  by_cases e : q.1 = c
  · rw [if_pos e, decide_eq_true e]
    rfl
  · rw [if_neg e, decide_eq_false e]
theorem val_envK (c : Nat) : ∀ env : Env, valV (envK env) (Sum.inr (S [c])) = (getC env c).map fun x => V.str (S x)
  | [] => rfl
  | q :: env => by
    rw [getC_cons]
    show valV ((Sum.inr (S [q.1]), V.str (S q.2)) :: envK env) _ = _
    by_cases e : q.1 = c
    · rw [if_pos e, valV_pos (by rw [e])]
      rfl
    · rw [if_neg e, valV_neg (fun z => e (by have := key_S.mp z; injection this)), val_envK c env]
def filledV (env : Env) : V → V := fun v => match v with | .str x => .str (S ((getC env ((tl x).headD 0)).getD (tl x))) | _ => .non
section
variable {P : Program} {w : World} {K : PySem.W.Frag} {mg : Str → Option Value} {base : Heap}
abbrev nLFilled : List Str := ["_law_filling", "_law_texts", "_law_sign"]
def spLFilled : Sp := fun vs H Q _ => ∃ (f : List Nat) (d : Addr) (env : Env), vs = [.str (S f), .ref d] ∧ Rd H d (.dK (envK env)) ∧ f.length ≤ 1000000 ∧ (fillC env f).length ≤ 10000000 ∧ ∀ H', Same H H' → Q (.str (S (fillC env f))) H'
end
end Tb

set_option Elab.async false
set_option linter.all false
set_option maxRecDepth 100000
set_option maxHeartbeats 4000000
namespace Tb
open PySem PySem.Spec PyProof.Rows L2 TL
section
variable {P : Program} {w : World} {K : PySem.W.Frag} {mg : Str → Option Value} {base : Heap}
abbrev nLText : List Str := ["_law_source_here", "_law_letters", "_law_most", "_law_k"]
theorem scLText : FnScope nLText ["_law_source_here", "_law_letters", "_law_most"] (defScope sLText) := ⟨rfl, rfl, rfl, by decide +kernel, rfl, by decide +kernel, by decide +kernel⟩
/-- a drawn text of these signs -/
def spLText : Sp := fun vs H Q _ => ∃ (p : Addr) (n most : Nat) (zs : List Nat), vs = [.ref p, .str (S zs), num most] ∧ Src H p n ∧ n + 200 < 1000000 ∧ 0 < zs.length ∧ zs.length ≤ 1000 ∧ most ≤ 100 ∧
  ∀ H' (cs : List Nat), But p H H' → Src H' p (n + 110) → cs.length ≤ most → (∀ c ∈ cs, c ∈ zs) → Q (.str (S cs)) H'
theorem ok_ltext {f : Addr} {fd : FuncData} {k : Nat} (F : Fun K "_law_text" "_law_text" sLText f fd) (DD : Df P w K mg base (k + 1) "_law_draw" ["_law_source_here", "_law_many"] spDrawS) (DP : Df P w K mg base (k + 2) "_law_pick" ["_law_source_here", "_law_things"] (spPick K)) (mr : mg "range" = none) : FnOk P w K mg base CX0 (k + 3) f fd ["_law_source_here", "_law_letters", "_law_most"] spLText := by
  refine F.ok scLText (fun vs H Q E h => ?_) (fun cdv A outer s H vs Q E hr h => ?_)
  · obtain ⟨p, n, most, zs, rfl, _⟩ := h
    rfl
  · obtain ⟨p, n, most, zs, rfl, hp, hn, z0, hz, hm, q⟩ := h
    refine ⟨_, pss_one (ps_ret (pe_join pe_str (pe_lc (own := [("_law_k", 3)]) (g := gName 3) (tt := tYes) (te := tCall (spPick K) [] E0 (tCons (tVar 0) (tCons (tVar 1) tNil))) rfl scLText.nd
        (pi_range1 rfl mr (pa_cons (pe_df DD hr (pa_cons (pv 0) (pa_cons (pe_op op_add (pv 2) pe_int) pa_nil))) pa_nil)) (blkOk_by (own := [("_law_k", 3)]) (N := nLText) (sc := defScope sLText) (by decide +kernel))
        (fun _ _ _ _ _ => pg_name (i := 3) scLText.nd rfl (.inl rfl)) (fun _ _ _ _ _ => pts_nil) (fun _ _ _ _ _ => pe_df DP hr (pa_cons (pv 0) (pa_cons (pv 1) pa_nil)))))), ?_⟩
    refine ⟨⟨_, rfl⟩, _, rfl, _, rfl, _, _, rfl, rfl, p, most + 1, n, rfl, hp, by omega, by omega, by omega, fun m H2 hmm hb2 hs2 => ?_⟩
    refine ⟨m, rfl, by omega, by omega, fun D nD => ?_⟩
    have nDp := ne_src hs2 nD
    have hb12 := hb2
    refine lc_range (lo := 0) (n := (m : Int).toNat) (fun i H' => ∃ cs : List Nat, Src H' p (n + 1 + i) ∧ H' D = some (.lst (cs.map fun c => .str (S [c]))) ∧ cs.length = i ∧ (∀ c ∈ cs, c ∈ zs) ∧ But p H H') ?_ ?_ ?_
    · exact ⟨[], hs2.same (same_upd nD), upd_same, rfl, fun c hc => (nomatch hc), hb12.trans (Same.but (same_upd nD) p)⟩
    · rintro i H3 hi ⟨cs, hs3, eD, hl, hc, hb3⟩
      have hi' : i < m := by omega
      refine ⟨rfl, tYes_if ?_⟩
      refine ⟨_, rfl, _, rfl, p, n + 1 + i, hs3, by omega, .inr ⟨S zs, rfl, by rw [len_S]; exact z0, by rw [len_S]; exact Nat.le_of_lt (small1000 hz), by rw [len_S]; omega, fun c H4 hcm hb4 hs4 => ?_⟩⟩
      refine ⟨_, hb4 _ _ eD nDp, by rw [List.length_map]; exact small1000 (by omega), cs ++ [c], hs4.at (upd_ne nDp.symm), ?_, ?_, ?_, ?_⟩
      · rw [upd_same, List.map_append]
        rfl
      · rw [List.length_append, hl]
        rfl
      · intro x hx
        rcases List.mem_append.mp hx with h | h
        · exact hc x h
        · rw [List.mem_singleton.mp h]
          exact hcm
      · intro b o e ne
        have nb : b ≠ D := by
          intro z
          have e' := hb12 _ _ e ne
          rw [z, nD] at e'
          cases e'
        rw [upd_ne nb]
        exact hb4 _ _ (hb3 _ _ e ne) ne
    · rintro H3 ⟨cs, hs3, eD, hl, hc, hb3⟩
      have hl' : cs.length ≤ most := by omega
      refine ⟨_, D, cs.map fun c => S [c], rfl, rfl, .inl (SqL.of (by rw [eD, List.map_map]; rfl)), ?_, ?_⟩
      · rw [sum_ones, str_empty, len_S]
        show _ + _ * 0 ≤ _
        omega
      · rw [str_empty, join_signs]
        exact q H3 cs hb3 (hs3.le (by omega)) hl' hc
end
end Tb

set_option Elab.async false
set_option linter.all false
set_option maxRecDepth 100000
set_option maxHeartbeats 4000000
namespace Tb
open PySem PySem.Spec PyProof.Rows L2 TL
/-! ### a list of pairs over anything that is walked -/
section
variable {te : TE} {vs : List Nat} {σ : L2.St} {H1 : Hp} {D : Addr} {Qd : Hp → Prop} {sl : Nat} {J : It} {n : Nat} {G : Hp → Prop} {Y : Nat → Hp → V → Hp → Prop}
theorem lc_pairsW {xs : List V} (kf vf : V → V) (w : Walk J n G Y) (hn : n = xs.length) (hY : ∀ i H x H', Y i H x H' → H' = H ∧ xs[i]? = some x) (hG : ∀ H', Same H1 H' → G H') (nD : H1 D = none) (hl : xs.length < sizeLine)
    (he : ∀ x ∈ xs, ∀ H' (R : VK), Same H1 H' → New H' (.tup [kf x, vf x]) R → te ((wipe σ vs).set sl (some x)) H' R)
    (hd : ∀ H' ts, Same H1 H' → H' D = some (.lst (ts.map V.ref)) → Paired (fun t x => H' t = some (.tup [kf x, vf x])) ts xs → Qd H') (hw : ∀ x, wipe ((wipe σ vs).set sl (some x)) vs = wipe σ vs := by intro _; rfl) :
    ∃ W : Nat → Nat → Hp → Prop, (∃ m, W 0 m (upd H1 D (.lst []))) ∧ ∀ i m H, W i m H →
      (J.stop i H ∧ Qd H) ∨ (J.go i H ∧ ∃ Nx : Hp → Prop, (∀ H', Nx H' → ∃ m', m' < m ∧ W (i + 1) m' H') ∧ ∀ x H', J.yld i H x H' → gName sl x (wipe σ vs) H' fun σ2 H2 => wipe σ2 vs = wipe σ vs ∧ tYes σ2 H2 fun b H3 =>
        if b = true then te σ2 H3 fun y H4 => ∃ acc, H4 D = some (.lst acc) ∧ acc.length < sizeLine ∧ Nx (upd H4 D (.lst (acc ++ [y]))) else Nx H3) := by
  refine lc_it w (fun i H => Same H1 H ∧ ∃ ts, H D = some (.lst (ts.map V.ref)) ∧ Paired (fun t x => H t = some (.tup [kf x, vf x])) ts (xs.take i)) ⟨same_upd nD, [], upd_same, .nil⟩ (fun i H _ h => hG H h.1) ?_ ?_
  · rintro i x H H' hi ⟨s, ts, e, hp⟩ y
    obtain ⟨rfl, hx⟩ := hY _ _ _ _ y
    have hm := List.mem_of_getElem? hx
    have et : xs.take (i + 1) = xs.take i ++ [x] := by
      rw [List.take_add_one, hx]
      rfl
    refine ⟨hw x, tYes_if (he x hm _ _ s fun T H2 s2 nT eT => ?_)⟩
    have hlt : ts.length < sizeLine := by
      rw [Paired.length hp, List.length_take]
      exact Nat.lt_of_le_of_lt (Nat.min_le_right _ _) hl
    have nTD : T ≠ D := fun z => by
      rw [z, e] at nT
      cases nT
    refine ⟨_, s2 _ _ e, by rw [List.length_map]; exact hlt, fun b o eb => ?_, ts ++ [T], ?_, ?_⟩
    · rw [upd_ne (ne_of_none eb nD)]
      exact s2 _ _ (s _ _ eb)
    · rw [upd_same, List.map_append]
      rfl
    · rw [et]
      refine (Paired.mono (fun t z h => ?_) hp).snoc (by rw [upd_ne nTD]; exact eT)
      rw [upd_ne (ne_of h e (by intro z; cases z))]
      exact s2 _ _ h
  · rintro H ⟨s, ts, e, hp⟩
    subst hn
    rw [List.take_length] at hp
    exact hd H ts s e hp
end
/-! ### the two ways of filling are one -/
theorem getE_cap {env : Env} (hc : ∀ q ∈ env, isCap q.1 = true) {p : List Nat} (hp : ∀ c ∈ p, isCap c = false) : getE env p = none := by
  unfold getE
  have : env.find? (fun q => decide ([q.1] = p)) = none := by
    rw [List.find?_eq_none]
    intro q hq z
    have e := of_decide_eq_true z
    have h1 := hp q.1 (by rw [← e]; exact List.mem_singleton.mpr rfl)
    rw [hc q hq] at h1
    cases h1
  rw [this]
  rfl
theorem getE_one (env : Env) (c : Nat) : getE env [c] = getC env c := by
  unfold getE getC
  congr 2
  funext q
  rw [decide_eq_decide]
  exact ⟨fun h => by injection h, fun h => by rw [h]⟩
theorem fillC_low {env : Env} (hc : ∀ q ∈ env, isCap q.1 = true) : ∀ {p : List Nat}, (∀ c ∈ p, isCap c = false) → fillC env p = p
  | [], _ => rfl
  | c :: p, h => by
    unfold fillC
    rw [List.map_cons, List.flatten_cons, ← getE_one, getE_cap hc (fun d hd => by rw [List.mem_singleton.mp hd]; exact h c List.mem_cons_self)]
    have := fillC_low hc (fun d hd => h d (List.mem_cons_of_mem _ hd))
    unfold fillC at this
    rw [this]
    rfl
theorem fillC_app (env : Env) (a b : List Nat) : fillC env (a ++ b) = fillC env a ++ fillC env b := by
  unfold fillC
  rw [List.map_append, List.flatten_append]
theorem fill_pg {env : Env} (hc : ∀ q ∈ env, isCap q.1 = true) : ∀ (r cur : List Nat), (∀ c ∈ cur, isCap c = false) → fillE env (pg cur r) = cur ++ fillC env r
  | [], cur, h => by
    rw [pg]
    split
    · rename_i e
      rw [e]
      rfl
    · unfold fillE pieceE
      rw [List.map_cons, getE_cap hc h]
      simp [fillC]
  | c :: r, cur, h => by
    have e1 : fillC env (c :: r) = (getC env c).getD [c] ++ fillC env r := by
      unfold fillC
      rw [List.map_cons, List.flatten_cons]
    by_cases hcap : isCap c = true
    · rw [pg_cap hcap, fillE_app]
      have e2 : fillE env ([c] :: pg [] r) = (getC env c).getD [c] ++ fillE env (pg [] r) := by
        unfold fillE
        rw [List.map_cons, List.flatten_cons]
        unfold pieceE
        rw [getE_one]
      rw [e2, fill_pg hc r [] (fun c hc => (nomatch hc)), e1]
      have e3 : fillE env (if cur = [] then [] else [cur]) = cur := by
        split
        · rename_i e
          rw [e]
          rfl
        · unfold fillE pieceE
          rw [List.map_cons, getE_cap hc h]
          simp
      rw [e3]
      rfl
    · have hcap' := Bool.eq_false_iff.mpr hcap
      rw [pg_low hcap', fill_pg hc r (cur ++ [c]) (fun d hd => by
        rcases List.mem_append.mp hd with z | z
        · exact h d z
        · rw [List.mem_singleton.mp z]; exact hcap'), e1]
      have e4 : getC env c = none := by
        rw [← getE_one]
        exact getE_cap hc (fun d hd => by rw [List.mem_singleton.mp hd]; exact hcap')
      rw [e4]
      simp
theorem fill_same {env : Env} (hc : ∀ q ∈ env, isCap q.1 = true) (f : List Nat) : fillE env (partsOf f) = fillC env f := fill_pg hc f [] (fun c hc => (nomatch hc))
theorem fillE_len {env : Env} {L : List (List Nat)} (h : ∀ q ∈ env, L.count [q.1] ≤ 1) : (fillE env L).length ≤ L.flatten.length + (env.map (·.2.length)).sum := by
  have e : envOf (env.map fun q => (⟨q.1, 0, q.2, 0⟩ : Rb)) = env := by
    unfold envOf
    rw [List.map_map]
    exact List.map_id _
  have h1 := fillW_le (env.map fun q => (⟨q.1, 0, q.2, 0⟩ : Rb)) L (fun q hq => by
    obtain ⟨z, hz, rfl⟩ := List.mem_map.mp hq
    exact h z hz)
  rw [fillW_E, e, List.map_map] at h1
  exact h1
end Tb
namespace Tb
open PySem PySem.Spec PyProof.Rows L2 TL
theorem envK_nd {env : Env} {B : List Nat} (h : env.map (·.1) = B) (nd : B.Nodup) : ((envK env).map (·.1)).Nodup := by
  have e : (envK env).map (·.1) = B.map fun b => (Sum.inr (S [b]) : Key) := by
    rw [← h]
    unfold envK
    rw [List.map_map, List.map_map]
    rfl
  rw [e]
  exact List.Pairwise.map _ (fun a b hab z => hab (by have := key_S.mp z; injection this)) nd
theorem envK_keys (env : Env) : (envK env).map (fun kv => kV kv.1) = sgs (env.map (·.1)) := by
  unfold envK sgs
  rw [List.map_map, List.map_map]
  rfl
theorem pairs_env {K : PySem.W.Frag} {H : Hp} {vf : V → V} : ∀ {env : Env} {ts : List Addr}, Paired (fun t x => H t = some (.tup [id x, vf x])) ts (sgs (env.map (·.1))) → (∀ q ∈ env, vf (.str (S [q.1])) = .str (S q.2)) → Paired (fun p (kv : Key × V) => SqT K H p [kV kv.1, kv.2]) ts (envK env)
  | [], _, .nil, _ => .nil
  | q :: env, _, .cons h t, hv => by
    refine .cons (SqT.of ?_) (pairs_env t fun q hq => hv q (List.mem_cons_of_mem _ hq))
    rw [h, hv q List.mem_cons_self]
    rfl
theorem fil_count {B : List Nat} {fl : Fil} {b x : Nat} (hb : b ∈ B) : (fil fl b).count x ≤ ((B.map (fil fl)).flatten).count x := by
  induction B with
  | nil => exact (nomatch hb)
  | cons c B ih =>
    rw [List.map_cons, List.flatten_cons, List.count_append]
    rcases List.mem_cons.mp hb with e | e
    · rw [e]
      exact Nat.le_add_right _ _
    · exact Nat.le_trans (ih e) (Nat.le_add_left _ _)
def lawV (env : Env) (fl : Fil) : V → V := fun v => match v with | .str x => .str (S (fillC env (fil fl ((tl x).headD 0)))) | _ => .non
/-! ### drawn parts: the program and the law read alike -/
theorem fil_kept {fl : Fil} (h : Ones fl) (b : Nat) : fil (keptF fl) b = fil fl b := by
  unfold fil keptF
  have key : ∀ l : List Nat, getF ((l.map fun b => ([b], (getF fl [b]).getD [])).filter fun q => decide (q.2 ≠ [])) [b] = if b ∈ l ∧ (getF fl [b]).getD [] ≠ [] then some ((getF fl [b]).getD []) else none := by
    intro l
    induction l with
    | nil => rfl
    | cons x l ih =>
      rw [List.map_cons, List.filter_cons]
      by_cases hx : x = b
      · subst hx
        by_cases hne : (getF fl [x]).getD [] ≠ []
        · rw [if_pos (decide_eq_true hne), getF_cons, if_pos rfl, if_pos ⟨List.mem_cons_self, hne⟩]
        · rw [if_neg (fun z => hne (of_decide_eq_true z)), ih, if_neg (fun z => hne z.2), if_neg (fun z => hne z.2)]
      · have hx' : ¬ [x] = [b] := fun z => hx (by injection z)
        have hmem : (b ∈ x :: l) ↔ b ∈ l := ⟨fun z => (List.mem_cons.mp z).resolve_left fun e => hx e.symm, fun z => List.mem_cons_of_mem _ z⟩
        have hif : (if b ∈ x :: l ∧ (getF fl [b]).getD [] ≠ [] then some ((getF fl [b]).getD []) else none) = (if b ∈ l ∧ (getF fl [b]).getD [] ≠ [] then some ((getF fl [b]).getD []) else none) := by
          by_cases z : b ∈ l ∧ (getF fl [b]).getD [] ≠ []
          · rw [if_pos z, if_pos ⟨hmem.mpr z.1, z.2⟩]
          · rw [if_neg z, if_neg fun y => z ⟨hmem.mp y.1, y.2⟩]
        rw [hif]
        split
        · rw [getF_cons, if_neg hx', ih]
        · exact ih
  rw [key]
  by_cases hm : b ∈ sortN (fl.map fun q => q.1.headD 0)
  · by_cases hne : (getF fl [b]).getD [] ≠ []
    · rw [if_pos ⟨hm, hne⟩]
      rfl
    · rw [if_neg (fun z => hne z.2)]
      exact (Classical.not_not.mp hne).symm
  · rw [if_neg (fun z => hm z.1)]
    have hn : getF fl [b] = none := by
      refine getF_none fun z => ?_
      rw [heads_keys h] at z
      obtain ⟨x, hx, e⟩ := List.mem_map.mp z
      injection e with e _
      exact hm ((sortN_perm _).mem_iff.mpr (e ▸ hx))
    rw [hn]
theorem findM_kept (ms : List Mv) (c : List Nat) (a : Nat) : findM (ms.map keptM) c a = (findM ms c a).map keptM := by
  unfold findM
  rw [List.find?_map]
  rfl
theorem runE_kept {ms : List Mv} {B : List Nat} (h : ∀ m ∈ ms, Ones m.fl) : ∀ (t : List Nat) (s : List Nat × Env), runE (ms.map keptM) B s t = runE ms B s t
  | [], _ => rfl
  | a :: t, s => by
    have e : stepE (ms.map keptM) B s a = stepE ms B s a := by
      unfold stepE
      rw [findM_kept]
      cases hf : findM ms s.1 a with
      | none => rfl
      | some m =>
        have hm : m ∈ ms := by
          unfold findM at hf
          exact List.mem_of_find?_eq_some hf
        show some ((keptM m).to, B.map fun b => (b, fillE s.2 (partsOf (fil (keptF m.fl) b)))) = some (m.to, _)
        rw [List.map_congr_left fun b _ => by rw [fil_kept (h m hm)]]
        rfl
    show (stepE (ms.map keptM) B s a).bind _ = (stepE ms B s a).bind _
    rw [e]
    cases stepE ms B s a with
    | none => rfl
    | some s' => exact runE_kept h t s'
/-! ### what is sure of drawn parts -/
theorem getF_in {es : Fil} {c f : List Nat} (h : getF es c = some f) : (c, f) ∈ es := by
  unfold getF at h
  obtain ⟨q, h1, h2⟩ := Option.map_eq_some_iff.mp h
  have h3 := List.find?_some (p := fun q : List Nat × List Nat => decide (q.1 = c)) h1
  have h4 := List.mem_of_find?_eq_some h1
  have : q = (c, f) := Prod.ext (of_decide_eq_true h3) h2
  rw [← this]
  exact h4
theorem fils_of {fl : Fil} {bs : List Nat} (hk : fl.map (·.1) = bs.map fun b => [b]) (nd : bs.Nodup) : bs.map (fil fl) = fl.map (·.2) := by
  have nk : (fl.map (·.1)).Nodup := by
    rw [hk]
    exact List.Pairwise.map _ (fun a b hab z => hab (by injection z)) nd
  have e1 : fl.map (·.2) = fl.map fun q => (getF fl q.1).getD [] := List.map_congr_left fun q hq => by rw [getF_mem nk hq]; rfl
  have e2 : (fl.map fun q => (getF fl q.1).getD []) = (fl.map (·.1)).map fun k => (getF fl k).getD [] := by
    rw [List.map_map]
    rfl
  rw [e1, e2, hk, List.map_map]
  rfl
theorem GoodP.caps {pt : Pt} (g : GoodP pt) : ∀ x ∈ sortN pt.boxes, isCap x = true := fun x hx => decide_eq_true (g.bb x ((sortN_perm _).mem_iff.mp hx))
theorem GoodP.ndB {pt : Pt} (g : GoodP pt) : (sortN pt.boxes).Nodup := (sortN_perm _).nodup_iff.mpr g.bn
theorem flat_perm {a b : List Nat} (f : Nat → List Nat) (h : a.Perm b) : ((a.map f).flatten).Perm ((b.map f).flatten) := (h.map f).flatten
theorem GoodP.mvs {pt : Pt} (g : GoodP pt) : ∀ m ∈ pt.moves, MvGood (sortN pt.boxes) m := fun m hm => by
  obtain ⟨_, _, _, hk, hF⟩ := g.mv m hm
  have hp := flat_perm (fil m.fl) (sortN_perm pt.boxes)
  rw [fils_of hk g.bn] at hp
  refine ⟨fun x hx => ?_, ?_, ?_⟩
  · rw [hp.count_eq]
    exact hF.one x ((sortN_perm _).mem_iff.mp hx)
  · rw [hp.length_eq]
    exact Nat.le_trans hF.len (by decide)
  · rw [hp.length_eq, (sortN_perm _).length_eq]
    have h1 := hF.ti
    have h2 := congrArg List.length hk
    rw [List.length_map, List.length_map] at h2
    rw [List.length_map, h2] at h1
    omega
theorem GoodP.ones {pt : Pt} (g : GoodP pt) : ∀ m ∈ pt.moves, Ones m.fl := fun m hm q hq => by
  obtain ⟨_, _, _, hk, _⟩ := g.mv m hm
  have : q.1 ∈ pt.boxes.map fun b => [b] := by
    rw [← hk]
    exact List.mem_map.mpr ⟨q, hq, rfl⟩
  obtain ⟨b, _, e⟩ := List.mem_map.mp this
  exact ⟨b, e.symm⟩
theorem GoodP.ends {pt : Pt} (g : GoodP pt) : ∀ c f, getF pt.ends c = some f → f.length ≤ 1000 ∧ ∀ x ∈ sortN pt.boxes, f.count x ≤ 1 := fun c f h => by
  obtain ⟨_, hF⟩ := g.en _ (getF_in h)
  have h1 := hF.len
  rw [show [f].flatten = f by simp] at h1
  refine ⟨Nat.le_trans h1 (by decide), fun x hx => ?_⟩
  have h2 := hF.one x ((sortN_perm _).mem_iff.mp hx)
  rw [show [f].flatten = f by simp] at h2
  exact h2
theorem GoodP.pg {pt : Pt} (g : GoodP pt) : PgOk (sortN pt.boxes) (pt.moves.map keptM) pt.ends where
  nB := g.ndB
  cB := g.caps
  lB := by rw [(sortN_perm _).length_eq]; exact g.b6
  fl := fun m hm q hq => by
    obtain ⟨m0, hm0, rfl⟩ := List.mem_map.mp hm
    obtain ⟨_, _, _, hk, hF⟩ := g.mv m0 hm0
    have hq' : q ∈ (sortN (m0.fl.map fun q => q.1.headD 0)).map fun b => ([b], (getF m0.fl [b]).getD []) := (List.mem_filter.mp hq).1
    obtain ⟨b, hb, rfl⟩ := List.mem_map.mp hq'
    have hb' := (sortN_perm _).mem_iff.mp hb
    have hbb : b ∈ pt.boxes := by
      obtain ⟨z, hz, e⟩ := List.mem_map.mp hb'
      have : z.1 ∈ pt.boxes.map fun b => [b] := by
        rw [← hk]
        exact List.mem_map.mpr ⟨z, hz, rfl⟩
      obtain ⟨b2, h2, e2⟩ := List.mem_map.mp this
      rw [← e2] at e
      rw [← show b2 = b from e]
      exact h2
    have h3 := fil_len (fl := m0.fl) hbb
    rw [fils_of hk g.bn] at h3
    exact Nat.le_trans h3 (Nat.le_trans hF.len (by decide))
  good := fun m hm => by
    obtain ⟨m0, hm0, rfl⟩ := List.mem_map.mp hm
    have h := g.mvs m0 hm0
    have e : (sortN pt.boxes).map (fil (keptM m0).fl) = (sortN pt.boxes).map (fil m0.fl) := List.map_congr_left fun b _ => fil_kept (g.ones m0 hm0) b
    exact ⟨by rw [e]; exact h.one, by rw [e]; exact h.len, by rw [e]; exact h.ti⟩
  en := g.ends
  sg := fun m hm q hq c hc hcap => by
    obtain ⟨m0, hm0, rfl⟩ := List.mem_map.mp hm
    obtain ⟨_, _, _, hk, hF⟩ := g.mv m0 hm0
    have hq' : q ∈ (sortN (m0.fl.map fun q => q.1.headD 0)).map fun b => ([b], (getF m0.fl [b]).getD []) := (List.mem_filter.mp hq).1
    obtain ⟨b, hb, rfl⟩ := List.mem_map.mp hq'
    have hc' : c ∈ (getF m0.fl [b]).getD [] := hc
    cases hg : getF m0.fl [b] with
    | none => rw [hg] at hc'; exact nomatch hc'
    | some f =>
      rw [hg] at hc'
      have hin := getF_in hg
      rcases hF.sg f (List.mem_map.mpr ⟨_, hin, rfl⟩) c hc' with h | h
      · have : 65 ≤ c ∧ c ≤ 90 := of_decide_eq_true hcap
        omega
      · exact (sortN_perm _).mem_iff.mpr h
  esg := fun c f h x hx hcap => by
    obtain ⟨_, hF⟩ := g.en _ (getF_in h)
    rcases hF.sg f (List.mem_singleton.mpr rfl) x hx with h1 | h1
    · have : 65 ≤ x ∧ x ≤ 90 := of_decide_eq_true hcap
      omega
    · exact (sortN_perm _).mem_iff.mpr h1
  eti := fun c f h => by
    obtain ⟨_, hF⟩ := g.en _ (getF_in h)
    have h1 := hF.ti
    rw [show [f].flatten = f by simp] at h1
    rw [(sortN_perm _).length_eq]
    have h2 : [f].length = 1 := rfl
    omega
/-- the program tells what the law's own reading tells -/
theorem told_same {pt : Pt} (g : GoodP pt) (pl0 t : List Nat) : toldE (pt.moves.map keptM) (sortN pt.boxes) pt.ends pl0 t = toldE pt.moves (sortN pt.boxes) pt.ends pl0 t := by
  unfold toldE
  rw [runE_kept g.ones]
end Tb

set_option Elab.async false
set_option linter.all false
set_option maxRecDepth 100000
set_option maxHeartbeats 4000000
namespace Tb
open PySem PySem.Spec PyProof.Rows L2 TL
/-! ### the class Steps: its fields, what it keeps -/
def stF (p : Addr) (B : List Nat) (g : Addr) : List (Str × V) := [("_program", .ref p), ("_boxes", .str (S B)), ("_moves", .ref g)]
theorem sf_p (p : Addr) (B : List Nat) (g : Addr) : (stF p B g).lookup ("_program" : Str) = some (.ref p) := rfl
theorem sf_b (p : Addr) (B : List Nat) (g : Addr) : (stF p B g).lookup ("_boxes" : Str) = some (.str (S B)) := by
  show List.lookup _ (_ :: _) = _
  rw [List.lookup_cons, show (("_boxes" : Str) == "_program") = false by decide +kernel]
  rfl
theorem sf_m (p : Addr) (B : List Nat) (g : Addr) : (stF p B g).lookup ("_moves" : Str) = some (.ref g) := by
  show List.lookup _ (_ :: _ :: _) = _
  rw [List.lookup_cons, show (("_moves" : Str) == "_program") = false by decide +kernel, List.lookup_cons, show (("_moves" : Str) == "_boxes") = false by decide +kernel]
  rfl
theorem lookup_no {fs : List (Str × V)} {m : Str} (h : (fs.map (·.1)).contains m = false) : fs.lookup m = none := by
  induction fs with
  | nil => rfl
  | cons q r ih =>
    rw [List.map_cons, List.contains_cons, Bool.or_eq_false_iff] at h
    rw [List.lookup_cons]
    rw [h.1]
    exact ih h.2
theorem sf_no (p : Addr) (B : List Nat) (g : Addr) {m : Str} (h : (["_program", "_boxes", "_moves"] : List Str).contains m = false) : (stF p B g).lookup m = none := lookup_no h
/-- a program whose dict of moves is not the one at g -/
structure PrNe (C : Addr) (H : Hp) (p g : Addr) (L B : List Nat) (places : List (List Nat)) (ms : List Mv) (es : Fil) : Prop where
  ob : ∃ dx pl mv en kk, H p = some (.ins C dx (flds L B pl mv en)) ∧ H pl = some (.tup (txs places)) ∧ H mv = some (.dT kk) ∧ Paired (MvAt H) kk ms ∧ H en = some (.dK (fkv es)) ∧ mv ≠ g
section
variable {C : Addr} {H H' : Hp} {p g : Addr} {L B : List Nat} {places : List (List Nat)} {ms : List Mv} {es : Fil}
theorem PrNe.at (h : PrNe C H p g L B places ms es) : PrAt C H p L B places ms es := by
  obtain ⟨dx, pl, mv, en, kk, h1, h2, h3, h4, h5, _⟩ := h.ob
  exact ⟨dx, pl, mv, en, kk, h1, h2, h3, h4, h5⟩
theorem PrNe.same (s : Same H H') (h : PrNe C H p g L B places ms es) : PrNe C H' p g L B places ms es := by
  obtain ⟨dx, pl, mv, en, kk, h1, h2, h3, h4, h5, h6⟩ := h.ob
  exact ⟨dx, pl, mv, en, kk, s _ _ h1, s _ _ h2, s _ _ h3, Paired.mono (fun _ _ z => z.same s) h4, s _ _ h5, h6⟩
theorem PrNe.but {kvs : List (List Key × V)} (hg : H g = some (.dT kvs)) (s : But g H H') (h : PrNe C H p g L B places ms es) : PrNe C H' p g L B places ms es := by
  obtain ⟨dx, pl, mv, en, kk, h1, h2, h3, h4, h5, h6⟩ := h.ob
  refine ⟨dx, pl, mv, en, kk, s _ _ h1 (ne_of h1 hg (by intro z; cases z)), s _ _ h2 (ne_of h2 hg (by intro z; cases z)), s _ _ h3 h6, Paired.mono (fun kv m z => ?_) h4, s _ _ h5 (ne_of h5 hg (by intro z; cases z)), h6⟩
  obtain ⟨e, t, d, a, b, c⟩ := z
  exact ⟨e, t, d, a, s _ _ b (ne_of b hg (by intro z; cases z)), s _ _ c (ne_of c hg (by intro z; cases z))⟩
theorem PrAt.ne (hg : H g = none) (h : PrAt C H p L B places ms es) : PrNe C H p g L B places ms es := by
  obtain ⟨dx, pl, mv, en, kk, h1, h2, h3, h4, h5⟩ := h.ob
  exact ⟨dx, pl, mv, en, kk, h1, h2, h3, h4, h5, ne_of_none h3 hg⟩
end
def CacheS (H : Hp) (ms : List Mv) (B : List Nat) (c : List Nat) (a : Nat) (v : V) : Prop := match findM ms c a with
  | none => v = .non
  | some m => ∃ t d kv, v = .ref t ∧ H t = some (.tup [.str (S m.to), .ref d]) ∧ H d = some (.dK kv) ∧ PtsAt H kv B m.fl
theorem CacheS.but {H H' : Hp} {g : Addr} {kvs : List (List Key × V)} (hg : H g = some (.dT kvs)) (s : But g H H') {ms : List Mv} {B c : List Nat} {a : Nat} {v : V} (h : CacheS H ms B c a v) : CacheS H' ms B c a v := by
  unfold CacheS at *
  cases e : findM ms c a with
  | none =>
    rw [e] at h
    exact h
  | some m =>
    rw [e] at h
    obtain ⟨t, d, kv, e1, h1, h2, h3⟩ := h
    exact ⟨t, d, kv, e1, s _ _ h1 (ne_of h1 hg (by intro z; cases z)), s _ _ h2 (ne_of h2 hg (by intro z; cases z)), Paired.mono (fun _ _ ⟨e, a, e2, h⟩ => ⟨e, a, e2, s _ _ h (ne_of h hg (by intro z; cases z))⟩) h3⟩
theorem CacheS.same {H H' : Hp} (s : Same H H') {ms : List Mv} {B c : List Nat} {a : Nat} {v : V} (h : CacheS H ms B c a v) : CacheS H' ms B c a v := by
  unfold CacheS at *
  cases e : findM ms c a with
  | none =>
    rw [e] at h
    exact h
  | some m =>
    rw [e] at h
    obtain ⟨t, d, kv, e1, h1, h2, h3⟩ := h
    exact ⟨t, d, kv, e1, s _ _ h1, s _ _ h2, h3.same s⟩
structure StAt (CS C : Addr) (H : Hp) (s p g : Addr) (L B : List Nat) (places : List (List Nat)) (ms : List Mv) (es : Fil) (n : Nat) : Prop where
  ob : ∃ dx kvs, H s = some (.ins CS dx (stF p B g)) ∧ PrNe C H p g L B places ms es ∧ H g = some (.dT kvs) ∧ kvs.length ≤ n ∧ ∀ c a v, valV kvs (mkey c a) = some v → CacheS H ms B c a v
section
variable {CS C : Addr} {H H' : Hp} {s p g : Addr} {L B : List Nat} {places : List (List Nat)} {ms : List Mv} {es : Fil} {n : Nat}
theorem StAt.same (z : Same H H') (h : StAt CS C H s p g L B places ms es n) : StAt CS C H' s p g L B places ms es n := by
  obtain ⟨dx, kvs, h1, h2, h3, h4, h5⟩ := h.ob
  exact ⟨dx, kvs, z _ _ h1, h2.same z, z _ _ h3, h4, fun c a v e => (h5 c a v e).same z⟩
theorem StAt.le {m : Nat} (h : StAt CS C H s p g L B places ms es n) (l : n ≤ m) : StAt CS C H s p g L B places ms es m := by
  obtain ⟨dx, kvs, h1, h2, h3, h4, h5⟩ := h.ob
  exact ⟨dx, kvs, h1, h2, h3, Nat.le_trans h4 l, h5⟩
end
structure StTxt (K : PySem.W.Frag) (mg : Str → Option Value) (CS : Addr) : Prop where
  cl : Cls K CS
  nP : NoAttr K CS "_program"
  nB : NoAttr K CS "_boxes"
  nM : NoAttr K CS "_moves"
  mgC : mg "Steps" = some (.ref CS)
theorem PgOk.fill (G : PgOk B ms es) {m : Mv} (hm : m ∈ ms) {b : Nat} (hb : b ∈ B) : (fil m.fl b).length ≤ 1000 ∧ (∀ c ∈ fil m.fl b, isCap c = true → c ∈ B) ∧ ∀ x ∈ B, (fil m.fl b).count x ≤ 1 := by
  refine ⟨?_, ?_, fun x hx => Nat.le_trans (fil_count hb) ((G.good m hm).one x hx)⟩
  · unfold fil
    cases hg : getF m.fl [b] with
    | none => exact Nat.zero_le _
    | some f => exact G.fl m hm _ (getF_in hg)
  · intro c hc hcap
    unfold fil at hc
    cases hg : getF m.fl [b] with
    | none => rw [hg] at hc; exact nomatch hc
    | some f => rw [hg] at hc; exact G.sg m hm _ (getF_in hg) c hc hcap
section
variable {P : Program} {w : World} {K : PySem.W.Frag} {mg : Str → Option Value} {base : Heap}
abbrev nCheck : List Str := ["program", "text", "letters", "sign"]
theorem scCheck : FnScope nCheck ["program", "text"] (defScope sCheck) := ⟨rfl, rfl, rfl, by decide +kernel, rfl, by decide +kernel, by decide +kernel⟩
def spCheck (C : Addr) : Sp := fun vs H Q _ => ∃ (p : Addr) (t L B : List Nat) (places : List (List Nat)) (ms : List Mv) (es : Fil), vs = [.ref p, .str (S t)] ∧ PrAt C H p L B places ms es ∧ (∀ c ∈ t, c ∈ L) ∧ Q .non H
theorem ok_check {f C : Addr} {fd : FuncData} {k : Nat} (F : Fun K "check_text" "check_text" sCheck f fd) (T : PrTxt K mg C) (DL : Prp P w K mg base C (k + 1) "letters" (getSp C "_letters")) (mi : mg "isinstance" = none) (ms' : mg "str" = none) : FnOk P w K mg base CX0 (k + 3) f fd ["program", "text"] (spCheck C) := by
  refine F.ok scCheck (fun vs H Q E h => ?_) (fun cdv A outer s H vs Q E hr h => ?_)
  · obtain ⟨p, t, L, B, places, ms, es, rfl, _⟩ := h
    rfl
  · obtain ⟨p, t, L, B, places, ms, es, rfl, hp, ht, q⟩ := h
    obtain ⟨dx, pl, mv, en, kk, h1, h2, h3, h4, h5⟩ := id hp.ob
    refine ⟨_, pss_cons (ps_if (pt_not (pt_val (pe_isStr (pv 1) mi (by rfl) ms' (by rfl)))) (pss_one ps_dead) pss_nil)
      (pss_cons (ps_set (i := 2) scCheck.nd rfl (.inl rfl) (pe_prp DL T.cl hr (pv 0)))
      (pss_one (ps_for PassesOwn.never rfl (pi_str (pv 1)) (pg_name (i := 3) scCheck.nd rfl (.inl rfl))
        (pss_one (ps_if (pt_cmpR op_notIn_sign (pv 3) (pv 2) (by rfl)) (pss_one ps_dead) pss_nil))))), ?_⟩
    refine ⟨_, rfl, true, isi_str _, true, rfl, iteF ⟨_, rfl, p, dx, _, rfl, h1, p, dx, _, _, rfl, h1, fl_l _ _ _ _ _, ?_⟩⟩
    refine ⟨_, rfl, S t, rfl, for_it (walk_str (z := S t)) (fun j σ H' => ∃ v3, σ = [some (.ref p), some (.str (S t)), some (.str (S L)), v3] ∧ H' = H) ⟨none, rfl, rfl⟩ (fun _ _ _ _ _ => trivial) ?_ ?_⟩
    · rintro j x σ H2 H2' hj ⟨v3, rfl, e⟩ ⟨rfl, c, hc, rfl⟩
      have hc' : t[j]? = some c := by
        rw [show (S t).cps = t.toArray from rfl, List.getElem?_toArray] at hc
        exact hc
      refine ⟨_, rfl, _, rfl, c, S L, rfl, rfl, _, rfl, ?_⟩
      rw [decide_eq_true (show c ∈ (S L).cps.toList from ht c (List.mem_of_getElem? hc'))]
      exact iteF ⟨_, rfl, e⟩
    · rintro σ H2 ⟨v3, rfl, rfl⟩
      exact q
/-! ### filled -/
abbrev nFilled : List Str := ["fillings", "ropes", "box", "parts", "part"]
theorem scFilled : FnScope nFilled ["fillings", "ropes"] (defScope sFilled) := ⟨rfl, rfl, rfl, by decide +kernel, rfl, by decide +kernel, by decide +kernel⟩
abbrev blkF : Scope := { kind := ScopeKind.function, names := [(Str.ofString ".0", NameKind.local), (Str.ofString "box", NameKind.local), (Str.ofString "parts", NameKind.local), (Str.ofString "rope_of", NameKind.globalImplicit), (Str.ofString "ropes", NameKind.cell)], isGenerator := false, isCoroutine := false }
def spFilled : Sp := fun vs H Q _ => ∃ (fa ra : Addr) (kvs : List (Key × V)) (fl : Fil) (B : List Nat) (env : Env), vs = [.ref fa, .ref ra] ∧ H fa = some (.dK kvs) ∧ PtsAt H kvs B fl ∧ H ra = some (.dK (envK env)) ∧ B.Nodup ∧ B.length ≤ 26 ∧ (∀ b ∈ B, (fil fl b).length ≤ 1000) ∧ (∀ b ∈ B, (fillE env (partsOf (fil fl b))).length ≤ 500) ∧
  ∀ d H', Same H H' → H d = none → H' d = some (.dK (envK (B.map fun b => (b, fillE env (partsOf (fil fl b)))))) → Q (.ref d) H'
theorem rd_lock {H H' : Hp} {b d : Addr} {ks ls : List (Key × V)} {o : Obj} (hb : H b = some (.dK ks)) (hd : H d = some (.dK ls)) (s : Same (L2.upd H d (.frz o (.dK ls))) H') : Rd H' b (.dK ks) := by
  by_cases z : b = d
  · rw [z, hd] at hb
    injection hb with hb
    injection hb with hb
    rw [z, ← hb]
    exact .inr ⟨o, s _ _ upd_same⟩
  · exact .inl (s _ _ (by rw [upd_ne z]; exact hb))
def pieceEV (env : Env) : V → V := fun v => match v with | .str x => .str (S (pieceE env (tl x))) | _ => .non
theorem val_envKL (p : List Nat) : ∀ env : Env, valV (envK env) (Sum.inr (S p)) = (getE env p).map fun x => V.str (S x)
  | [] => rfl
  | q :: env => by
    have ih := val_envKL p env
    unfold getE at *
    rw [List.find?_cons]
    show valV ((Sum.inr (S [q.1]), V.str (S q.2)) :: envK env) _ = _
    by_cases e : [q.1] = p
    · rw [decide_eq_true e, valV_pos (by rw [e])]
      rfl
    · rw [decide_eq_false e, valV_neg (fun z => e (key_S.mp z)), ih]
theorem pieces_txs (env : Env) (ps : List (List Nat)) : (txs ps).map (pieceEV env) = txs (ps.map (pieceE env)) := by
  unfold txs
  rw [List.map_map, List.map_map]
  rfl
theorem ok_filled {f : Addr} {fd : FuncData} {k : Nat} (F : Fun K "filled" "filled" sFilled f fd) (DR : Df P w K mg base (k + 3) "rope_of" ["ropes"] spRopeOf) : FnOk P w K mg base CX0 (k + 4) f fd ["fillings", "ropes"] spFilled := by
  refine F.ok scFilled (fun vs H Q E h => ?_) (fun cdv A outer s H vs Q E hr h => ?_)
  · obtain ⟨fa, ra, kvs, fl, B, env, rfl, _⟩ := h
    rfl
  · obtain ⟨fa, ra, kvs, fl, B, env, rfl, hf, hpt, hra, nB, lB, hl, h500, q⟩ := h
    have hu := hu_of hr
    refine ⟨_, pss_one (ps_ret (pe_lock (pe_dc (own := [("box", 2), ("parts", 3)]) (g := gTup K 2 (gCons (gName 2) (gCons (gName 3) gNil))) (tt := tYes) (tk := tVar 2) (tv := tCall spRopeOf [] E0 (tCons (tLc (iList K (tVar 3)) (gName 4) tYes (tDGet2 (tVar 1) (tVar 4) (tVar 4)) [4]) tNil)) rfl scFilled.nd (pi_items (pv 0)) (blkOk_by (own := [("box", 2), ("parts", 3)]) (N := nFilled) (sc := defScope sFilled) (by decide +kernel))
      (fun _ _ _ _ _ => pg_tup rfl (pgs_cons (pg_name (i := 2) scFilled.nd rfl (.inl rfl)) (pgs_cons (pg_name (i := 3) scFilled.nd rfl (.inl rfl)) pgs_nil))) (fun _ _ _ _ _ => pts_nil) (fun _ _ _ _ _ => pv 2)
      (fun _ _ _ _ _ => pe_df DR hr (pa_cons (pe_lc (own := [("part", 4)]) (g := gName 4) (tt := tYes) (te := tDGet2 (tVar 1) (tVar 4) (tVar 4)) rfl scFilled.nd (pi_list (pv 3)) (blkOk_by (own := [("part", 4)]) (N := nFilled) (sc := blkF) (by decide +kernel)) (fun _ _ _ _ _ => pg_name (i := 4) scFilled.nd rfl (.inl rfl)) (fun _ _ _ _ _ => pts_nil) (fun _ _ _ _ _ => pe_dget2 hu (pv 1) (pv 4) (pv 4) ⟨rfl, rfl, rfl, rfl⟩)) pa_nil))))), ?_⟩
    refine ⟨fa, _, hf, trivial, fun od => ⟨_, rfl, fa, od, kvs, rfl, upd_same, fun D nD => ?_⟩⟩
    have nDf : D ≠ fa := fun z => by rw [z, upd_same] at nD; cases nD
    have hfl : (upd H fa (.frz od (.dK kvs))) fa = some (.frz od (.dK kvs)) := upd_same
    have bl : But fa H (upd H fa (.frz od (.dK kvs))) := But.upd fa H _
    have hpl : PtsAt (upd H fa (.frz od (.dK kvs))) kvs B fl := Paired.mono (fun _ _ ⟨e, a, e2, h⟩ => ⟨e, a, e2, bl _ _ h (ne_of h hf (by intro z; cases z))⟩) hpt
    have rdr : ∀ H', Same (upd H fa (.frz od (.dK kvs))) H' → Rd H' ra (.dK (envK env)) := fun H' s' => rd_lock hra hf s'
    generalize hHl : upd H fa (.frz od (.dK kvs)) = Hl at nD hfl hpl rdr
    have lkv : kvs.length = B.length := Paired.length hpl
    refine dc_it walk_items (fun i Hc => Same Hl Hc ∧ Hc D = some (.dK (envK ((B.take i).map fun b => (b, fillE env (partsOf (fil fl b)))))))
      ⟨same_upd nD, upd_same⟩ (fun i Hc _ h => h.1 _ _ hfl) ?_ ?_
    · rintro i x Hc Hc' hi ⟨sc, eD⟩ ⟨T1, x1, x2, rfl, nT, rfl, hx1, hx2⟩
      have hx1 : (kvs[i]?.map fun z => kV z.1) = some x1 := hx1
      have hx2 : kvs[i]?.map Prod.snd = some x2 := hx2
      obtain ⟨kv1, hkv⟩ : ∃ z, kvs[i]? = some z := ⟨kvs[i], List.getElem?_eq_getElem hi⟩
      obtain ⟨b, hb, ek, pa, ev, hpa⟩ := paired_get2 hpl hkv
      rw [hkv] at hx1 hx2
      have e1 : x1 = .str (S [b]) := by
        have := (Option.some.inj hx1).symm
        rw [this]
        show kV kv1.1 = _
        rw [ek]
        rfl
      have e2x : x2 = .ref pa := by
        have := (Option.some.inj hx2).symm
        rw [this]
        show kv1.2 = _
        rw [ev]
      subst e1 e2x
      have hbB : b ∈ B := List.mem_of_getElem? hb
      have etb : B.take (i + 1) = B.take i ++ [b] := by
        rw [List.take_add_one, hb]
        rfl
      have hnew : b ∉ B.take i := fun z => by
        have h6 : (B.take (i + 1)).Nodup := (List.take_sublist _ _).nodup nB
        rw [etb, List.nodup_append] at h6
        exact h6.2.2 b z b (List.mem_singleton.mpr rfl) rfl
      have sm := same_upd (o := .tup [.str (S [b]), .ref pa]) nT
      have slm := sc.trans sm
      refine ⟨T1, _, rfl, SqT.of upd_same, rfl, _, _, rfl, _, _, rfl, rfl, rfl, tYes_if ⟨_, rfl, ?_⟩⟩
      have hpa' := slm _ _ hpa
      have eD1 := sm _ _ eD
      generalize upd Hc T1 (.tup [.str (S [b]), .ref pa]) = Hm at sm slm hpa' eD1
      refine ⟨_, rfl, pa, rfl, ⟨_, SqL.of hpa'⟩, fun D2 nD2 => lc_mapW (xs := txs (partsOf (fil fl b))) (pieceEV env) walk_list rfl (fun i H x H' y => ⟨y.1, y.2⟩) (fun H' s' => SqL.of (s' _ _ hpa')) nD2 ?_ ?_ ?_⟩
      · unfold txs
        rw [List.length_map]
        have h6 := parts_len (fil fl b)
        have h7 := hl b hbB
        have big : (10000 : Nat) < sizeLine := by decide
        omega
      · intro x hx H' R s' r
        obtain ⟨p, hpm, rfl⟩ := List.mem_map.mp hx
        refine ⟨_, rfl, ra, rfl, .inl ⟨_, (rdr _ (slm.trans s'))⟩, _, rfl, _, rfl, _, dget_rd (k := Sum.inr (S p)) (rdr _ (slm.trans s')), ?_⟩
        rw [val_envKL]
        have r' := r H' (fun _ _ e => e)
        have e1 : pieceEV env (.str (S p)) = ((getE env p).map fun x => V.str (S x)).getD (.str (S p)) := by
          show V.str (S ((getE env p).getD p)) = _
          cases getE env p <;> rfl
        rw [e1] at r'
        exact r'
      · intro H' s' e'
        rw [pieces_txs] at e'
        refine ⟨D2, _, rfl, e', h500 b hbB, ?_⟩
        have hkn : (Sum.inr (S [b]) : Key) ∉ (envK ((B.take i).map fun b => (b, fillE env (partsOf (fil fl b))))).map (·.1) := fun z => by
          unfold envK at z
          rw [List.map_map, List.map_map] at z
          obtain ⟨q', hq', e⟩ := List.mem_map.mp z
          have e' := key_S.mp (show (Sum.inr (S [q']) : Key) = Sum.inr (S [b]) from e)
          injection e' with e' _
          exact hnew (e' ▸ hq')
        refine ⟨_, Sum.inr (S [b]), rfl, s' _ _ eD1, ?_, fun b' o eb => ?_, ?_⟩
        · unfold envK
          rw [List.length_map, List.length_map, List.length_take]
          exact small1000 (by omega)
        · rw [upd_ne (ne_of_none eb nD)]
          exact s' _ _ (slm _ _ eb)
        · rw [upd_same, putK_end _ hkn, etb]
          unfold envK
          rw [List.map_append, List.map_append]
          rfl
    · rintro Hc ⟨sc, eD⟩
      rw [lkv, List.take_length] at eD
      have hcf := sc _ _ hfl
      have sH : Same H (upd Hc fa (.dK kvs)) := same_unlock hf (by rw [hHl]; exact sc)
      have nHD : H D = none := by
        rw [← hHl, upd_ne nDf] at nD
        exact nD
      exact ⟨hcf, q D _ sH nHD (by rw [upd_ne nDf]; exact eD)⟩
end
end Tb

set_option Elab.async false
set_option linter.all false
set_option maxRecDepth 100000
set_option maxHeartbeats 4000000
namespace Tb
open PySem PySem.Spec PyProof.Rows L2 TL
section
variable {P : Program} {w : World} {K : PySem.W.Frag} {mg : Str → Option Value} {base : Heap}
/-! ### the methods of Steps -/
abbrev nStInit : List Str := ["self", "program"]
theorem scStInit : FnScope nStInit ["self", "program"] (defScope sStInit) := ⟨rfl, rfl, rfl, by decide +kernel, rfl, by decide +kernel, by decide +kernel⟩
def spStInit (CS C : Addr) : Sp := fun vs H Q _ => ∃ (s dx p : Addr) (L B : List Nat) (places : List (List Nat)) (ms : List Mv) (es : Fil), vs = [.ref s, .ref p] ∧ H s = some (.ins CS dx []) ∧ PrAt C H p L B places ms es ∧
  ∀ g H', But s H H' → H g = none → StAt CS C H' s p g L B places ms es 0 → Q .non H'
theorem ok_stInit {f CS C : Addr} {fd : FuncData} {k : Nat} (F : Fun K "__init__" "Steps.__init__" sStInit f fd) (T : PrTxt K mg C) (U : StTxt K mg CS) (DB : Prp P w K mg base C (k + 1) "boxes" (getSp C "_boxes")) : FnOk P w K mg base CX0 (k + 3) f fd ["self", "program"] (spStInit CS C) := by
  refine F.ok scStInit (fun vs H Q E h => ?_) (fun cdv A outer st H vs Q E hr h => ?_)
  · obtain ⟨s, dx, p, L, B, places, ms, es, rfl, _⟩ := h
    rfl
  · obtain ⟨s, dx, p, L, B, places, ms, es, rfl, hs, hp, q⟩ := h
    obtain ⟨dx', pl, mv, en, kk, h1, h2, h3, h4, h5⟩ := id hp.ob
    refine ⟨_, pss_cons (ps_fld (pv 0) (pv 1) rfl) (pss_cons (ps_fld (pv 0) (pe_prp DB T.cl hr (pv 1)) rfl) (pss_one (ps_fld (pv 0) pe_newT rfl))), ?_⟩
    refine ⟨_, rfl, _, rfl, s, CS, dx, [], rfl, hs, U.cl, U.nP, by show 0 < 1000; decide, ?_⟩
    have b1 : But s H (upd H s (.ins CS dx (putF "_program" (.ref p) []))) := But.upd s H _
    have e1 : (upd H s (.ins CS dx (putF "_program" (.ref p) []))) s = some (.ins CS dx [("_program", .ref p)]) := upd_same
    generalize upd H s (.ins CS dx (putF "_program" (.ref p) [])) = H1 at b1 e1
    have nps : ∀ {b : Addr} {o : HO}, H b = some o → o ≠ .ins CS dx [] → b ≠ s := fun e n => ne_of e hs n
    have hps : p ≠ s := nps h1 (by intro z; injection z with _ _ z; cases z)
    refine ⟨_, rfl, p, dx', _, rfl, b1 _ _ h1 hps, p, dx', _, _, rfl, b1 _ _ h1 hps, fl_b _ _ _ _ _, ?_⟩
    refine ⟨_, rfl, s, CS, dx, _, rfl, e1, U.cl, U.nB, by show 1 < 1000; decide, ?_⟩
    have b2 : But s H (upd H1 s (.ins CS dx (putF "_boxes" (.str (S B)) [("_program", .ref p)]))) := b1.trans (But.upd s H1 _)
    have e2 : (upd H1 s (.ins CS dx (putF "_boxes" (.str (S B)) [("_program", .ref p)]))) s = some (.ins CS dx [("_program", .ref p), ("_boxes", .str (S B))]) := by
      rw [upd_same, putF_end (show ("_boxes" : Str) ∉ (["_program"] : List Str) by decide +kernel)]
      rfl
    generalize upd H1 s (.ins CS dx (putF "_boxes" (.str (S B)) [("_program", .ref p)])) = H2 at b2 e2
    refine fun g H3 s3 n3 e3 => ⟨_, rfl, s, CS, dx, _, rfl, s3 _ _ e2, U.cl, U.nM, by show 2 < 1000; decide, ?_⟩
    have ngs : g ≠ s := fun z => by rw [z, e2] at n3; cases n3
    have nH : H g = none := (b2).free (l := g) e2 n3
    have b4 : But s H (upd H3 s (.ins CS dx (putF "_moves" (.ref g) [("_program", .ref p), ("_boxes", .str (S B))]))) := (b2.trans (Same.but s3 s)).trans (But.upd s H3 _)
    refine q g _ b4 nH ⟨dx, [], ?_, ?_, ?_, Nat.le_refl _, fun c a v z => nomatch z⟩
    · rw [upd_same, putF_end (show ("_moves" : Str) ∉ (["_program", "_boxes"] : List Str) by decide +kernel)]
      rfl
    · refine ⟨dx', pl, mv, en, kk, b4 _ _ h1 hps, b4 _ _ h2 (nps h2 (by intro z; cases z)), b4 _ _ h3 (nps h3 (by intro z; cases z)), Paired.mono (fun kv m z => ?_) h4, b4 _ _ h5 (nps h5 (by intro z; cases z)), ne_of_none h3 nH⟩
      obtain ⟨e, t, d, a, b, c⟩ := z
      exact ⟨e, t, d, a, b4 _ _ b (nps b (by intro z; cases z)), b4 _ _ c (nps c (by intro z; cases z))⟩
    · rw [upd_ne ngs]
      exact e3
abbrev nStMip : List Str := ["self", "place", "letter", "found", "target", "fillings", "box"]
theorem scStMip : FnScope nStMip ["self", "place", "letter"] (defScope sStMip) := ⟨rfl, rfl, rfl, by decide +kernel, rfl, by decide +kernel, by decide +kernel⟩
def spStMip (CS C : Addr) : Sp := fun vs H Q _ => ∃ (s p g : Addr) (c : List Nat) (a : Nat) (L B : List Nat) (places : List (List Nat)) (ms : List Mv) (es : Fil) (n : Nat), vs = [.ref s, .str (S c), .str (S [a])] ∧ StAt CS C H s p g L B places ms es n ∧ PgOk B ms es ∧
  match findM ms c a with
  | none => ∀ H', Same H H' → Q .non H'
  | some m => ∀ t d kvs H', Same H H' → H' t = some (.tup [.str (S m.to), .ref d]) → H' d = some (.dK kvs) → PtsAt H' kvs B m.fl → Q (.ref t) H'
theorem ok_stMip {f CS C : Addr} {fd : FuncData} {k : Nat} (F : Fun K "_move_in_parts" "Steps._move_in_parts" sStMip f fd) (T : PrTxt K mg C) (U : StTxt K mg CS) (DM : Mth P w K mg base C (k + 1) "move" ["place", "letter"] (spMove C)) (DP : Df P w K mg base (k + 1) "parts_of" ["filling", "boxes"] spPartsOf) :
    FnOk P w K mg base CX0 (k + 2) f fd ["self", "place", "letter"] (spStMip CS C) := by
  refine F.ok scStMip (fun vs H Q E h => ?_) (fun cdv A outer st H vs Q E hr h => ?_)
  · obtain ⟨s, p, g, c, a, L, B, places, ms, es, n, rfl, _⟩ := h
    rfl
  · obtain ⟨s, p, g, c, a, L, B, places, ms, es, n, rfl, hst, G, q⟩ := h
    have hu := hu_of hr
    obtain ⟨dxs, kvs0, hs, hp, hg0, hlen, hcache⟩ := id hst.ob
    refine ⟨_, pss_cons (ps_set (i := 3) scStMip.nd rfl (.inl rfl) (pe_mth DM T.cl hr (pe_fld (pv 0) rfl) (pa_cons (pv 1) (pa_cons (pv 2) pa_nil))))
      (pss_cons (ps_if (pt_cmpR op_isN (pv 3) pe_non (nomark _)) (pss_one (ps_ret pe_non)) pss_nil)
      (pss_cons (ps_asg (pv 3) (pg_tup rfl (pgs_cons (pg_name (i := 4) scStMip.nd rfl (.inl rfl)) (pgs_cons (pg_name (i := 5) scStMip.nd rfl (.inr rfl)) pgs_nil))))
      (pss_one (ps_ret (pe_tupS (pa_cons (pv 4) (pa_cons (pe_dc (own := [("box", 6)]) (g := gName 6) (tt := tYes) (tk := tVar 6) (tv := tCall spPartsOf [] E0 (tCons (tDGet2 (tVar 5) (tVar 6) (tC (.str ""))) (tCons (tFld K (tVar 0) "_boxes") tNil))) rfl scStMip.nd (pi_str (pe_fld (pv 0) rfl)) (blkOk_by (own := [("box", 6)]) (N := nStMip) (sc := defScope sStMip) (by decide +kernel))
          (fun _ _ _ _ _ => pg_name (i := 6) scStMip.nd rfl (.inl rfl)) (fun _ _ _ _ _ => pts_nil) (fun _ _ _ _ _ => pv 6) (fun _ _ _ _ _ => pe_df DP hr (pa_cons (pe_dget2 hu (pv 5) (pv 6) pe_str ⟨rfl, rfl, rfl, rfl⟩) (pa_cons (pe_fld (pv 0) rfl) pa_nil)))) pa_nil))))))), ?_⟩
    obtain ⟨dx, pl, mv, en, kk, h1, h2, h3, h4, h5, hne⟩ := id hp.ob
    refine ⟨_, rfl, s, CS, dxs, _, _, rfl, hs, U.cl, U.nP, sf_p _ _ _, p, dx, _, rfl, h1, fl_no _ _ _ _ _ (by decide +kernel), _, rfl, _, rfl, p, c, a, L, B, places, ms, es, rfl, hp.at, ?_⟩
    cases hf : findM ms c a with
    | none =>
      rw [hf] at q
      exact fun H' s' => ⟨_, rfl, rfl, _, rfl, iteT (q H' s')⟩
    | some m =>
      rw [hf] at q
      intro t d H2 s2 n2 n3 e2 e3
      have hmm : m ∈ ms := by
        unfold findM at hf
        exact List.mem_of_find?_eq_some hf
      refine ⟨_, rfl, rfl, _, rfl, iteF ⟨_, rfl, t, _, rfl, SqT.of e2, rfl, _, _, rfl, _, _, rfl, rfl, ?_⟩⟩
      refine ⟨_, rfl, _, rfl, s, CS, dxs, _, _, rfl, s2 _ _ hs, U.cl, U.nB, sf_b _ _ _, S B, rfl, fun D nD => ?_⟩
      refine dc_relW (xs := sgs B) keyV (fun H x v => ∃ b a, x = .str (S [b]) ∧ v = .ref a ∧ H a = some (.lst (txs (partsOf ((getF m.fl [b]).getD []))))) ?_ walk_str (by unfold sgs; rw [List.length_map]; rfl) (fun i H x H' y => str_item y) (fun _ _ => trivial) nD ?_ (sgs_keys G.nB) ?_ ?_ ?_
      · rintro H H' x v ⟨kvs, eD⟩ hb ⟨b, a', e1, e2', e3'⟩
        exact ⟨b, a', e1, e2', hb _ _ e3' (ne_of e3' eD (by intro z; cases z))⟩
      · unfold sgs
        rw [List.length_map]
        have := G.lB
        exact small1000 (by omega)
      · intro x hx H' R s' r
        obtain ⟨b, hb, rfl⟩ := List.mem_map.mp hx
        exact ⟨_, rfl, r⟩
      · intro x hx H' R s' r
        obtain ⟨b, hb, rfl⟩ := List.mem_map.mp hx
        refine ⟨_, rfl, d, rfl, .inl ⟨_, .inl (s' _ _ e3)⟩, _, rfl, _, DGet.k (k := Sum.inr (S [b])) (s' _ _ e3), ?_⟩
        rw [val_fkv]
        have ev : ((getF m.fl [b]).map fun f => V.str (S f)).getD (.str (Str.ofString "")) = .str (S ((getF m.fl [b]).getD [])) := by
          rw [str_empty]
          cases getF m.fl [b] <;> rfl
        rw [ev]
        obtain ⟨g1, g2, g3⟩ := G.fill hmm hb
        refine ⟨_, rfl, s, CS, dxs, _, _, rfl, s' _ _ (s2 _ _ hs), U.cl, U.nB, sf_b _ _ _, _, B, rfl, g1, by have := G.lB; omega, G.nB, G.cB, g2, g3, fun a' H'' s'' n'' e'' => r H'' _ s'' ⟨b, a', rfl, rfl, e''⟩⟩
      · intro H' kvs s' e' hpair
        refine ⟨by show 2 ≤ sizeLine; decide, fun t' H3 s3 n4 e4 => q t' D kvs H3 (s2.trans (s'.trans s3)) e4 (s3 _ _ e') ?_⟩
        have h6 := paired_map (m := B) (g := fun c => V.str (S [c])) hpair
        refine Paired.mono (fun kv b h => ?_) h6
        obtain ⟨e, b', a', hb', ha, hl⟩ := h
        have : b' = b := by
          injection hb' with z
          have := S_inj z
          injection this with h _
          exact h.symm
        subst this
        exact ⟨e, a', ha, s3 _ _ hl⟩
abbrev nStMove : List Str := ["self", "place", "letter", "key"]
theorem scStMove : FnScope nStMove ["self", "place", "letter"] (defScope sStMove) := ⟨rfl, rfl, rfl, by decide +kernel, rfl, by decide +kernel, by decide +kernel⟩
def spStMove (CS C : Addr) : Sp := fun vs H Q _ => ∃ (s p g : Addr) (c : List Nat) (a : Nat) (L B : List Nat) (places : List (List Nat)) (ms : List Mv) (es : Fil) (n : Nat), vs = [.ref s, .str (S c), .str (S [a])] ∧ StAt CS C H s p g L B places ms es n ∧ PgOk B ms es ∧ n < 1000000 ∧
  match findM ms c a with
  | none => ∀ H', But g H H' → StAt CS C H' s p g L B places ms es (n + 1) → Q .non H'
  | some m => ∀ t d kvs H', But g H H' → StAt CS C H' s p g L B places ms es (n + 1) → H' t = some (.tup [.str (S m.to), .ref d]) → H' d = some (.dK kvs) → PtsAt H' kvs B m.fl → Q (.ref t) H'
theorem ok_stMove {f CS C : Addr} {fd : FuncData} {k : Nat} (F : Fun K "move" "Steps.move" sStMove f fd) (U : StTxt K mg CS) (DM : Mth P w K mg base CS (k + 2) "_move_in_parts" ["place", "letter"] (spStMip CS C)) :
    FnOk P w K mg base CX0 (k + 3) f fd ["self", "place", "letter"] (spStMove CS C) := by
  refine F.ok scStMove (fun vs H Q E h => ?_) (fun cdv A outer st H vs Q E hr h => ?_)
  · obtain ⟨s, p, g, c, a, L, B, places, ms, es, n, rfl, _⟩ := h
    rfl
  · obtain ⟨s, p, g, c, a, L, B, places, ms, es, n, rfl, hst, G, hn, q⟩ := h
    have hu := hu_of hr
    obtain ⟨dxs, kvs, hs, hp, hg, hlen, hcache⟩ := id hst.ob
    refine ⟨_, pss_cons (ps_set (i := 3) scStMove.nd rfl (.inl rfl) (pe_tupS (pa_cons (pv 1) (pa_cons (pv 2) pa_nil))))
      (C8.pss_cut (ps_if (pt_cmp (pc_dnotin hu (pv 3) (pe_fld (pv 0) rfl))) (pss_one (ps_dput hu (pe_fld (pv 0) rfl) (pv 3) (pe_mth DM U.cl hr (pv 0) (pa_cons (pv 1) (pa_cons (pv 2) pa_nil))) rfl)) pss_nil)
      (pss_one (ps_ret (pe_dget hu (pe_fld (pv 0) rfl) (pv 3) (fun _ _ => rfl))))), ?_⟩
    refine ⟨_, rfl, _, rfl, by show 2 ≤ sizeLine; decide, fun kT H4 s4 n4 e4 => ?_⟩
    have e4' : H4 kT = some (.tup ((mkey c a).map kV)) := e4
    have hst4 := hst.same s4
    have hg4 := s4 _ _ hg
    have hs4 := s4 _ _ hs
    have small : kvs.length < sizeLine := by
      have big : (1000000 : Nat) < sizeLine := by rw [sizeLine_eq]; decide
      omega
    have hc4 : ∀ c a v, valV kvs (mkey c a) = some v → CacheS H4 ms B c a v := fun c a v z => (hcache c a v z).same s4
    have hsg : s ≠ g := ne_of hs hg (by intro z; cases z)
    refine ⟨fun σ H' => ∃ (kvs' : List (List Key × V)) (v : V), σ = [some (.ref s), some (.str (S c)), some (.str (S [a])), some (.ref kT)] ∧ But g H4 H' ∧ H' g = some (.dT kvs') ∧ kvs'.length ≤ n + 1 ∧
          (∀ c a v, valV kvs' (mkey c a) = some v → CacheS H' ms B c a v) ∧ valV kvs' (mkey c a) = some v, ?_, ?_⟩
    · refine ⟨_, rfl, _, rfl, s, CS, dxs, _, _, rfl, hs4, U.cl, U.nM, sf_m _ _ _, g, _, rfl, DGet.t (k := mkey c a) hg4 e4', _, rfl, ?_⟩
      cases e : valV kvs (mkey c a) with
      | some v => exact iteF ⟨kvs, v, rfl, But.refl g H4, hg4, by omega, hc4, e⟩
      | none =>
        refine iteT ?_
        have put : ∀ (v : V) (H5 : Hp), Same H4 H5 → CacheS H5 ms B c a v → ∃ (kvs' : List (List Key × V)) (v' : V), [some (V.ref s), some (.str (S c)), some (.str (S [a])), some (.ref kT)] = [some (V.ref s), some (.str (S c)), some (.str (S [a])), some (.ref kT)] ∧ But g H4 (upd H5 g (.dT (putK kvs (mkey c a) v))) ∧ (upd H5 g (.dT (putK kvs (mkey c a) v))) g = some (.dT kvs') ∧ kvs'.length ≤ n + 1 ∧
            (∀ c1 a1 v1, valV kvs' (mkey c1 a1) = some v1 → CacheS (upd H5 g (.dT (putK kvs (mkey c a) v))) ms B c1 a1 v1) ∧ valV kvs' (mkey c a) = some v' := by
          intro v H5 s5 hv
          have b5 : But g H5 (upd H5 g (.dT (putK kvs (mkey c a) v))) := But.upd g H5 _
          refine ⟨_, v, rfl, (Same.but s5 g).trans b5, upd_same, ?_, ?_, ?_⟩
          · rw [putK_end v (valV_not e), List.length_append]
            show _ + 1 ≤ _
            omega
          · intro c' a' v' z
            rw [valV_put] at z
            by_cases e' : mkey c' a' = mkey c a
            · rw [if_pos e'] at z
              obtain ⟨rfl, rfl⟩ := mkey_inj e'
              rw [← Option.some.inj z]
              exact hv.but (s5 _ _ hg4) b5
            · rw [if_neg e'] at z
              exact (hc4 c' a' v' z).but hg4 ((Same.but s5 g).trans b5)
          · rw [valV_put, if_pos rfl]
        refine ⟨_, rfl, s, dxs, _, rfl, hs4, sf_no _ _ _ (by decide +kernel), _, rfl, _, rfl, s, p, g, c, a, L, B, places, ms, es, n, rfl, hst4, G, ?_⟩
        cases hf : findM ms c a with
        | none =>
          intro H5 s5
          refine ⟨_, rfl, s, CS, dxs, _, _, rfl, s5 _ _ hs4, U.cl, U.nM, sf_m _ _ _, _, rfl, g, _, rfl, DPut.t (k := mkey c a) (s5 _ _ hg4) (s5 _ _ e4') small, put .non H5 s5 ?_⟩
          unfold CacheS
          rw [hf]
        | some m =>
          intro t' pd kv H5 s5 e5 e6 hpts
          refine ⟨_, rfl, s, CS, dxs, _, _, rfl, s5 _ _ hs4, U.cl, U.nM, sf_m _ _ _, _, rfl, g, _, rfl, DPut.t (k := mkey c a) (s5 _ _ hg4) (s5 _ _ e4') small, put (.ref t') H5 s5 ?_⟩
          unfold CacheS
          rw [hf]
          exact ⟨t', pd, kv, rfl, e5, e6, hpts⟩
    · rintro σ H5 ⟨kvs', v, rfl, b5, hg5, lk', hc5, hv⟩
      have e5' : H5 kT = some (.tup ((mkey c a).map kV)) := b5 _ _ e4' (ne_of e4' hg4 (by intro z; cases z))
      have hs5 : H5 s = some (.ins CS dxs (stF p B g)) := b5 _ _ hs4 hsg
      have hb : But g H H5 := (Same.but s4 g).trans b5
      have hst5 : StAt CS C H5 s p g L B places ms es (n + 1) := ⟨dxs, kvs', hs5, (hp.same s4).but hg4 b5, hg5, lk', hc5⟩
      have hcv := hc5 c a v hv
      refine ⟨_, rfl, s, CS, dxs, _, _, rfl, hs5, U.cl, U.nM, sf_m _ _ _, _, rfl, g, v, rfl, hv ▸ DGet.t (k := mkey c a) hg5 e5', ?_⟩
      unfold CacheS at hcv
      cases hf : findM ms c a with
      | none =>
        rw [hf] at hcv q
        subst hcv
        exact q H5 hb hst5
      | some m =>
        rw [hf] at hcv q
        obtain ⟨tt, pd, kv, rfl, htt, hpd, hpts⟩ := hcv
        exact q tt pd kv H5 hb hst5 htt hpd hpts
end
end Tb

set_option Elab.async false
set_option linter.all false
set_option maxRecDepth 100000
set_option maxHeartbeats 4000000
namespace Tb
open PySem PySem.Spec PyProof.Rows L2 TL
theorem sum_le {env : Env} {q : Nat × List Nat} (h : q ∈ env) : q.2.length ≤ (env.map (·.2.length)).sum := by
  induction env with
  | nil => exact nomatch h
  | cons x env ih =>
    rw [List.map_cons, List.sum_cons]
    rcases List.mem_cons.mp h with e | e
    · rw [e]
      exact Nat.le_add_right _ _
    · exact Nat.le_trans (ih e) (Nat.le_add_left _ _)
section
variable {ms : List Mv} {B : List Nat} {es : Fil}
def nextE (env : Env) (B : List Nat) (fl : Fil) : Env := B.map fun b => (b, fillE env (partsOf (fil fl b)))
theorem nextE_keys (env : Env) (B : List Nat) (fl : Fil) : (nextE env B fl).map (·.1) = B := by
  unfold nextE
  rw [List.map_map]
  exact List.map_id _
theorem step_tight (G : PgOk B ms es) {m : Mv} (hm : m ∈ ms) {env : Env} (hk : env.map (·.1) = B) : ((nextE env B m.fl).map (·.2.length)).sum ≤ (env.map (·.2.length)).sum + 7 * B.length := by
  unfold nextE
  rw [sumE]
  have hg := G.good m hm
  have h1 := fillE_len (env := env) (L := allP B m.fl) (fun q hq => by
    have hb : q.1 ∈ B := by
      rw [← hk]
      exact List.mem_map.mpr ⟨q, hq, rfl⟩
    rw [allP_count (G.cB _ hb)]
    exact hg.one _ hb)
  rw [allP_flat] at h1
  have := hg.ti
  omega
theorem mem_next {env : Env} {b : Nat} {fl : Fil} (hb : b ∈ B) : (b, fillE env (partsOf (fil fl b))) ∈ nextE env B fl := List.mem_map.mpr ⟨b, hb, rfl⟩
theorem end_tight (G : PgOk B ms es) {c f : List Nat} (h : getF es c = some f) {env : Env} (hk : env.map (·.1) = B) : (fillE env (partsOf f)).length ≤ (env.map (·.2.length)).sum + f.length := by
  have h1 := fillE_len (env := env) (L := partsOf f) (fun q hq => by
    have hb : q.1 ∈ B := by
      rw [← hk]
      exact List.mem_map.mpr ⟨q, hq, rfl⟩
    rw [parts_count (G.cB _ hb)]
    exact (G.en _ _ h).2 _ hb)
  rw [parts_flat] at h1
  omega
end
section
variable {X : Cx} {C : Addr} {k j : Nat} {nm : Str} {sp : Sp} {o : Expr} {to : TE}
theorem pe_mthZ {apos pos : Pos} {pl : Sem Bool} (D : Mth X.prog X.w X.K X.mg X.base C k nm [] sp) (c : Cls X.K C) (hr : Room j X.A) (he : PE X o to) (hk : k ≤ j := by omega)
    (ht : eval (.Call (.Attribute o nm apos) [] [] pos) X.env = (do
      let ov ← eval o X.env
      standAt apos.atName
      let (f, first) ← holding [ov] (getMethod ov nm pl)
      callWith pos f first (backTo pos (starEach [] X.env)) (backToKw pos (keywordEach [] X.env))) := by rfl) :
    PE X (.Call (.Attribute o nm apos) [] [] pos) (tMeth C nm sp [] E0 to tNil) := by
  obtain ⟨f, fd, hm, F, b⟩ := D.ex
  exact pe_meth0 he c hm F (hr.mono hk) b .nil pass0 ht
end
section
variable {P : Program} {w : World} {K : PySem.W.Frag} {mg : Str → Option Value} {base : Heap}
abbrev nStFirst : List Str := ["self", "box"]
theorem scStFirst : FnScope nStFirst ["self"] (defScope sStFirst) := ⟨rfl, rfl, rfl, by decide +kernel, rfl, by decide +kernel, by decide +kernel⟩
def spStFirst (CS C : Addr) : Sp := fun vs H Q _ => ∃ (s p g : Addr) (L B pl0 : List Nat) (places : List (List Nat)) (ms : List Mv) (es : Fil) (n : Nat), vs = [.ref s] ∧ StAt CS C H s p g L B (pl0 :: places) ms es n ∧ PgOk B ms es ∧
  ∀ T d H', Same H H' → H d = none → H' T = some (.tup [.str (S pl0), .ref d]) → H' d = some (.dK (envK (B.map fun b => (b, [])))) → Q (.ref T) H'
theorem start_eq (B : List Nat) : ((sgs B).filter fun _ => true).map (fun x => (keyV x, V.str (Str.ofString ""))) = envK (B.map fun b => (b, [])) := by
  rw [List.filter_eq_self.mpr (fun _ _ => rfl), str_empty]
  unfold sgs envK
  simp only [List.map_map]
  rfl
theorem ok_stFirst {f CS C : Addr} {fd : FuncData} {k : Nat} (F : Fun K "first" "Steps.first" sStFirst f fd) (T : PrTxt K mg C) (U : StTxt K mg CS) (DP : Prp P w K mg base C (k + 1) "places" (getSp C "_places")) : FnOk P w K mg base CX0 (k + 3) f fd ["self"] (spStFirst CS C) := by
  refine F.ok scStFirst (fun vs H Q E h => ?_) (fun cdv A outer st H vs Q E hr h => ?_)
  · obtain ⟨s, p, g, L, B, pl0, places, ms, es, n, rfl, _⟩ := h
    rfl
  · obtain ⟨s, p, g, L, B, pl0, places, ms, es, n, rfl, hst, G, q⟩ := h
    have hu := hu_of hr
    obtain ⟨dxs, kvs, hs, hp, hg, hlen, hcache⟩ := id hst.ob
    obtain ⟨dx, pl, mv, en, kk, h1, h2, h3, h4, h5, hne⟩ := id hp.ob
    refine ⟨_, pss_one (ps_ret (pe_tupS (pa_cons (pe_ix ix_tup (pe_prp DP T.cl hr (pe_fld (pv 0) rfl)) pe_int (fun _ _ => rfl)) (pa_cons (pe_dc (own := [("box", 1)]) (g := gName 1) (tt := tYes) (tk := tVar 1) (tv := tC (.str "")) rfl scStFirst.nd (pi_str (pe_fld (pv 0) rfl)) (blkOk_by (own := [("box", 1)]) (N := nStFirst) (sc := defScope sStFirst) (by decide +kernel))
      (fun _ _ _ _ _ => pg_name (i := 1) scStFirst.nd rfl (.inl rfl)) (fun _ _ _ _ _ => pts_nil) (fun _ _ _ _ _ => pv 1) (fun _ _ _ _ _ => pe_str)) pa_nil)))), ?_⟩
    refine ⟨_, rfl, s, CS, dxs, _, _, rfl, hs, U.cl, U.nP, sf_p _ _ _, p, dx, _, rfl, h1, p, dx, _, _, rfl, h1, fl_p _ _ _ _ _, pl, _, 0, _, rfl, rfl, SqT.of h2, atI_nat rfl, ?_⟩
    refine ⟨_, rfl, s, CS, dxs, _, _, rfl, hs, U.cl, U.nB, sf_b _ _ _, S B, rfl, fun D nD => ?_⟩
    refine dc_mapW (xs := sgs B) (fun _ => true) keyV (fun _ => V.str (Str.ofString "")) walk_str (by unfold sgs; rw [List.length_map]; rfl) (fun i H x H' y => str_item y) (fun _ _ => trivial) nD ?_ (by rw [List.filter_eq_self.mpr (fun _ _ => rfl)]; exact sgs_keys G.nB) (fun x hx H' R s' r => r) ?_ ?_ ?_
    · unfold sgs
      rw [List.length_map]
      exact small1000 (by have := G.lB; omega)
    · intro x hx _ H' R s' r'
      obtain ⟨b, hb, rfl⟩ := List.mem_map.mp hx
      exact ⟨_, rfl, r'⟩
    · intro x hx _ H' R s' r'
      exact r' H' (fun _ _ e => e)
    · intro H' s' e'
      rw [start_eq] at e'
      exact ⟨by show 2 ≤ sizeLine; decide, fun t' H3 s3 n4 e4 => q t' D H3 (s'.trans s3) nD e4 (s3 _ _ e')⟩
abbrev nStBehind : List Str := ["self", "state", "text", "place", "ropes", "letter", "found", "fillings"]
theorem scStBehind : FnScope nStBehind ["self", "state", "text"] (defScope sStBehind) := ⟨rfl, rfl, rfl, by decide +kernel, rfl, by decide +kernel, by decide +kernel⟩
def spStBehind (CS C : Addr) : Sp := fun vs H Q _ => ∃ (s p g : Addr) (L B : List Nat) (places : List (List Nat)) (ms : List Mv) (es : Fil) (n : Nat) (t : List Nat), StAt CS C H s p g L B places ms es n ∧ PgOk B ms es ∧ n + t.length < 1000000 ∧
  ((vs = [.ref s, .non, .str (S t)] ∧ Q .non H) ∨ ∃ (T d : Addr) (c : List Nat) (env : Env), vs = [.ref s, .ref T, .str (S t)] ∧ H T = some (.tup [.str (S c), .ref d]) ∧ H d = some (.dK (envK env)) ∧ env.map (·.1) = B ∧ (env.map (·.2.length)).sum + t.length * (7 * B.length) ≤ 500 ∧
    match runE ms B (c, env) t with
    | none => ∀ H', But g H H' → StAt CS C H' s p g L B places ms es (n + t.length) → Q .non H'
    | some z => ∀ T' d' H', But g H H' → StAt CS C H' s p g L B places ms es (n + t.length) → H' T' = some (.tup [.str (S z.1), .ref d']) → H' d' = some (.dK (envK z.2)) → z.2.map (·.1) = B → (z.2.map (·.2.length)).sum ≤ (env.map (·.2.length)).sum + t.length * (7 * B.length) → Q (.ref T') H')
theorem ok_stBehind {f CS C : Addr} {fd : FuncData} {k : Nat} (F : Fun K "behind" "Steps.behind" sStBehind f fd) (U : StTxt K mg CS) (DM : Mth P w K mg base CS (k + 3) "move" ["place", "letter"] (spStMove CS C)) (DF : Df P w K mg base (k + 4) "filled" ["fillings", "ropes"] spFilled) : FnOk P w K mg base CX0 (k + 5) f fd ["self", "state", "text"] (spStBehind CS C) := by
  refine F.ok scStBehind (fun vs H Q E h => ?_) (fun cdv A outer st H vs Q E hr h => ?_)
  · obtain ⟨s, p, g, L, B, places, ms, es, n, t, _, _, _, ⟨rfl, _⟩ | ⟨_, _, _, _, rfl, _⟩⟩ := h <;> rfl
  · obtain ⟨s, p, g, L, B, places, ms, es, n, t, hst, G, hn, h⟩ := h
    have hu := hu_of hr
    refine ⟨_, pss_cons (ps_if (pt_cmpR op_isN (pv 1) pe_non (nomark _)) (pss_one (ps_ret pe_non)) pss_nil)
      (pss_cons (ps_asg (pv 1) (pg_tup rfl (pgs_cons (pg_name (i := 3) scStBehind.nd rfl (.inl rfl)) (pgs_cons (pg_name (i := 4) scStBehind.nd rfl (.inl rfl)) pgs_nil))))
      (pss_cons (ps_for PassesOwn.never rfl (pi_str (pv 2)) (pg_name (i := 5) scStBehind.nd rfl (.inl rfl))
        (pss_cons (ps_set (i := 6) scStBehind.nd rfl (.inl rfl) (pe_mth DM U.cl hr (pv 0) (pa_cons (pv 3) (pa_cons (pv 5) pa_nil))))
        (pss_cons (ps_if (pt_cmpR op_isN (pv 6) pe_non (nomark _)) (pss_one (ps_ret pe_non)) pss_nil)
        (pss_cons (ps_asg (pv 6) (pg_tup rfl (pgs_cons (pg_name (i := 3) scStBehind.nd rfl (.inl rfl)) (pgs_cons (pg_name (i := 7) scStBehind.nd rfl (.inl rfl)) pgs_nil))))
        (pss_one (ps_set (i := 4) scStBehind.nd rfl (.inl rfl) (pe_df DF hr (pa_cons (pv 7) (pa_cons (pv 4) pa_nil)))))))))
      (pss_one (ps_ret (pe_tupS (pa_cons (pv 3) (pa_cons (pv 4) pa_nil))))))), ?_⟩
    rcases h with ⟨rfl, q⟩ | ⟨T, d, c, env, rfl, hT, hd, hk, hsum, q⟩
    · exact ⟨_, rfl, rfl, _, rfl, iteT q⟩
    refine ⟨_, rfl, rfl, _, rfl, iteF ⟨_, rfl, T, _, rfl, SqT.of hT, rfl, _, _, rfl, _, _, rfl, rfl, ?_⟩⟩
    refine ⟨_, rfl, S t, rfl, for_it (walk_str (z := S t)) (fun j σ H' => ∃ (c' : List Nat) (d' : Addr) (env' : Env) (v5 v6 v7 : Option V),
        σ = [some (.ref s), some (.ref T), some (.str (S t)), some (.str (S c')), some (.ref d'), v5, v6, v7] ∧ But g H H' ∧ StAt CS C H' s p g L B places ms es (n + j) ∧
        runE ms B (c, env) (t.take j) = some (c', env') ∧ H' d' = some (.dK (envK env')) ∧ env'.map (·.1) = B ∧ (env'.map (·.2.length)).sum ≤ (env.map (·.2.length)).sum + j * (7 * B.length))
      ⟨c, d, env, none, none, none, rfl, But.refl g H, hst, rfl, hd, hk, Nat.le_add_right _ _⟩ (fun _ _ _ _ _ => trivial) ?_ ?_⟩
    · rintro j x σ H3 H3' hj ⟨c', d', env', v5, v6, v7, rfl, b3, hst3, hrun, hd3, hk3, hsum3⟩ ⟨rfl, a, ha, rfl⟩
      have ha' : t[j]? = some a := by
        rw [show (S t).cps = t.toArray from rfl, List.getElem?_toArray] at ha
        exact ha
      have hjt : j < t.length := (List.getElem?_eq_some_iff.mp ha').1
      have etake : t.take (j + 1) = t.take j ++ [a] := by
        rw [List.take_add_one, ha']
        rfl
      have erun : runE ms B (c, env) (t.take (j + 1)) = stepE ms B (c', env') a := by
        rw [etake, runE_app, hrun]
        show (stepE ms B (c', env') a).bind (fun s' => some s') = _
        cases stepE ms B (c', env') a <;> rfl
      have hmul : (j + 1) * (7 * B.length) ≤ t.length * (7 * B.length) := Nat.mul_le_mul_right _ hjt
      have hmul2 : (j + 1) * (7 * B.length) = j * (7 * B.length) + 7 * B.length := Nat.succ_mul _ _
      refine ⟨_, rfl, s, ?_⟩
      obtain ⟨dxs, kvs, hs, hp, hg, hlen, hcache⟩ := id hst3.ob
      refine ⟨dxs, _, rfl, hs, sf_no _ _ _ (by decide +kernel), _, rfl, _, rfl, s, p, g, c', a, L, B, places, ms, es, n + j, rfl, hst3, G, by omega, ?_⟩
      have hd3g : d' ≠ g := ne_of hd3 hg (by intro z; cases z)
      cases hf : findM ms c' a with
      | none =>
        intro H4 b4 hst4
        refine ⟨_, rfl, rfl, _, rfl, iteT ?_⟩
        have hnone : runE ms B (c, env) t = none := by
          have e1 : t = t.take (j + 1) ++ t.drop (j + 1) := (List.take_append_drop _ _).symm
          rw [e1, runE_app, erun]
          unfold stepE
          rw [hf]
          rfl
        rw [hnone] at q
        exact q H4 (b3.trans b4) (hst4.le (by omega))
      | some m =>
        intro tt fa kv H4 b4 hst4 htt hfa hpts
        have hmm : m ∈ ms := by
          unfold findM at hf
          exact List.mem_of_find?_eq_some hf
        refine ⟨_, rfl, rfl, _, rfl, iteF ⟨_, rfl, tt, _, rfl, SqT.of htt, rfl, _, _, rfl, _, _, rfl, rfl, ?_⟩⟩
        have hst' := step_tight G hmm hk3
        refine ⟨_, rfl, _, rfl, fa, d', kv, m.fl, B, env', rfl, hfa, hpts, b4 _ _ hd3 hd3g, G.nB, by have := G.lB; omega, fun b hb => (G.fill hmm hb).1, fun b hb => ?_, fun d2 H5 s5 n5 e5 => ?_⟩
        · have := sum_le (mem_next (env := env') (fl := m.fl) hb)
          have this : (fillE env' (partsOf (fil m.fl b))).length ≤ _ := this
          omega
        · refine ⟨m.to, d2, nextE env' B m.fl, _, _, _, rfl, (b3.trans b4).trans (Same.but s5 g), (hst4.same s5).le (by omega), ?_, e5, nextE_keys _ _ _, by omega⟩
          rw [erun]
          unfold stepE
          rw [hf]
          rfl
    · rintro σ H3 ⟨c', d', env', v5, v6, v7, rfl, b3, hst3, hrun, hd3, hk3, hsum3⟩
      have lsz : (S t).cps.size = t.length := rfl
      rw [lsz] at hrun hsum3 hst3
      rw [List.take_length] at hrun
      rw [hrun] at q
      exact ⟨_, rfl, _, rfl, by show 2 ≤ sizeLine; decide, fun T' H4 s4 n4 e4 => q T' d' H4 (b3.trans (Same.but s4 g)) (hst3.same s4) e4 (s4 _ _ hd3) hk3 hsum3⟩
end
end Tb

set_option Elab.async false
set_option linter.all false
set_option maxRecDepth 100000
set_option maxHeartbeats 4000000
namespace Tb
open PySem PySem.Spec PyProof.Rows L2 TL
theorem rf_no (l : List Nat) (m : Addr) (r : List Nat) (n : Nat) : (ropeF l m r n).lookup ("pieces" : Str) = none := by
  show List.lookup _ (_ :: _ :: _ :: _ :: []) = _
  rw [List.lookup_cons, show (("pieces" : Str) == "left") = false by decide +kernel, List.lookup_cons, show (("pieces" : Str) == "middle") = false by decide +kernel, List.lookup_cons, show (("pieces" : Str) == "right") = false by decide +kernel, List.lookup_cons, show (("pieces" : Str) == "length") = false by decide +kernel]
  rfl
theorem snoc_orG {α : Type} : ∀ l : List α, l = [] ∨ ∃ a x, l = a ++ [x]
  | [] => .inl rfl
  | y :: r => .inr (by
    rcases snoc_orG r with e | ⟨a, x, e⟩
    · exact ⟨[], y, by rw [e]; rfl⟩
    · exact ⟨y :: a, x, by rw [e]; rfl⟩)
theorem paired_unsnocG {α β : Type} {F : α → β → Prop} : ∀ {a : List α} {b : List β} {x : α} {y : β}, Paired F (a ++ [x]) (b ++ [y]) → Paired F a b ∧ F x y
  | [], [], _, _, .cons h _ => ⟨.nil, h⟩
  | [], _ :: b, _, _, .cons _ t => by
    have := Paired.length t
    simp at this
  | _ :: a, [], _, _, .cons _ t => by
    have := Paired.length t
    simp at this
  | _ :: as, _ :: bs, _, _, .cons h t => ⟨.cons h (paired_unsnocG t).1, (paired_unsnocG t).2⟩
theorem paired_appG {α β : Type} {F : α → β → Prop} : ∀ {a c : List α} {b d : List β}, Paired F a b → Paired F c d → Paired F (a ++ c) (b ++ d)
  | _, _, _, _, .nil, h => h
  | _, _, _, _, .cons h t, k => .cons h (paired_appG t k)
theorem paired_revG {α β : Type} {F : α → β → Prop} : ∀ {a : List α} {b : List β}, Paired F a b → Paired F a.reverse b.reverse
  | _, _, .nil => .nil
  | _, _, .cons h t => by
    rw [List.reverse_cons, List.reverse_cons]
    exact paired_appG (paired_revG t) (.cons h .nil)
theorem sum_revG (l : List Nat) : l.reverse.sum = l.sum := List.sum_reverse l
/-- what a stack of ropes tells, its top first -/
def stkW (ps : List (List Nat × Nat)) : List Nat := (ps.reverse.map (·.1)).flatten
def stkN (ps : List (List Nat × Nat)) : Nat := (ps.map (·.2)).sum
theorem stkN_le {CR : Addr} {H : Hp} : ∀ {vs : List V} {ps : List (List Nat × Nat)}, Paired (fun v p => RpV CR H v p.1 p.2) vs ps → vs.length ≤ stkN ps
  | _, _, .nil => Nat.zero_le _
  | _, _, .cons (b := p) h t => by
    have h1 := stkN_le t
    have h2 := h.few.2.2
    unfold stkN at h1 ⊢
    rw [List.length_cons, List.map_cons, List.sum_cons]
    omega
section
variable {P : Program} {w : World} {K : PySem.W.Frag} {mg : Str → Option Value} {base : Heap}
def spWrittenG (CR : Addr) : Sp := fun vs H Q _ => ∃ (v : V) (c : List Nat) (n : Nat), vs = [v] ∧ RpV CR H v c n ∧ c.length ≤ 1000000 ∧ ∀ H', Same H H' → Q (.str (S c)) H'
theorem ok_writtenG {f CR : Addr} {fd : FuncData} {k : Nat} (F : Fun K "written" "written" sWritten f fd) (T : RpTxt K mg CR) (MP : Mth P w K mg base CR (k + 1) "pieces" [] (spRpPieces CR)) (mi : mg "isinstance" = none) (ms : mg "str" = none) : FnOk P w K mg base CX0 (k + 2) f fd ["rope"] (spWrittenG CR) := by
  refine F.ok scWritten (fun vs H Q E h => ?_) (fun cdv A outer s H vs Q E hr h => ?_)
  · obtain ⟨v, c, n, rfl, _⟩ := h
    rfl
  · obtain ⟨v, c, n, rfl, hv, hl, q⟩ := h
    refine ⟨_, pss_cons (ps_set (i := 1) scWritten.nd rfl (.inl rfl) (pe_lstS pa_nil))
      (pss_cons (ps_set (i := 2) scWritten.nd rfl (.inl rfl) (pe_lstS (pa_cons (pv 0) pa_nil)))
      (pss_cons (ps_while PassesOwn.never (pt_truth (pv 2) (fun _ => rfl))
        (pss_cons (ps_set (i := 3) scWritten.nd rfl (.inl rfl) (pe_bm0 PySem.F.plainAttrs_list PySem.F.slot_list_pop PySem.F.type_list_pop mt_pop (pv 2)))
        (pss_one (ps_if (pt_val (pe_isStr (pv 3) mi (by rfl) ms (by rfl)))
          (pss_one (ps_expr (pe_bm PySem.F.plainAttrs_list PySem.F.slot_list_append PySem.F.type_list_append mt_append (pv 1) (pa_cons (pv 3) pa_nil))))
          (pss_one (ps_expr (pe_bm PySem.F.plainAttrs_list PySem.F.slot_list_extend PySem.F.type_list_extend mt_extend (pv 2) (pa_cons (pe_revL (pe_mthZ MP T.cl hr (pv 3))) pa_nil))))))))
      (pss_one (ps_ret (pe_join pe_str (pv 1)))))), ?_⟩
    have big : (16000000 : Nat) < sizeLine := by rw [sizeLine_eq]; decide
    refine ⟨Nat.zero_le _, fun t H1 s1 n1 e1 => ⟨_, rfl, by show 1 ≤ sizeLine; omega, fun g H2 s2 n2 e2 => ?_⟩⟩
    have ntg : t ≠ g := fun z => by rw [← z, e1] at n2; cases n2
    have nHg : H g = none := s1.free n2
    have hn := hv.few.1
    show tWhile (fun σ H0 Q => tVar 2 σ H0 fun x H' => ∃ k, TruV K x H' k ∧ Q k H') _ _ [some v, some (.ref t), some (.ref g), none] H2
    refine while_W (fun m σ H' => ∃ v3, ∃ done : List (List Nat), ∃ (stk : List V) (ps : List (List Nat × Nat)), σ = [some v, some (.ref t), some (.ref g), v3] ∧ Same H H' ∧ H' t = some (.lst (txs done)) ∧ H' g = some (.lst stk) ∧ Paired (fun v p => RpV CR H' v p.1 p.2) stk ps ∧ c = done.flatten ++ stkW ps ∧ m = stkN ps ∧ done.length + stkN ps ≤ n)
      ⟨n, none, [], [v], [(c, n)], rfl, s1.trans s2, s2 _ _ e1, e2, .cons ((hv.same s1).same s2) .nil, by unfold stkW; simp, by unfold stkN; simp, by unfold stkN; simp⟩ ?_ (fun σ H Q Q' m ⟨v, e, k, t, q⟩ => ⟨v, e, k, t, m _ _ q⟩)
    rintro m σ H3 ⟨v3, done, stk, ps, rfl, s3, et, eg, hps, hc, hm, hb⟩
    have lst := stkN_le hps
    rcases snoc_orG stk with e | ⟨stk', u, e⟩
    · subst e
      have eps : ps = [] := List.eq_nil_of_length_eq_zero (Paired.length hps).symm
      subst eps
      have hc : c = done.flatten := by
        rw [hc]
        unfold stkW
        simp
      refine ⟨_, rfl, false, .inl ⟨_, SqL.of eg, rfl⟩, iteF ?_⟩
      refine ⟨⟨_, rfl⟩, _, rfl, _, t, done.map S, rfl, rfl, .inl (SqL.of (by rw [et]; unfold txs; rw [List.map_map]; rfl)), ?_, ?_⟩
      · rw [len_fil, str_empty, len_S, ← hc]
        show c.length + _ * 0 ≤ _
        omega
      · rw [str_empty, join_fil, ← hc]
        exact q H3 s3
    · subst e
      rcases snoc_orG ps with e | ⟨ps', p, e⟩
      · subst e
        have := Paired.length hps
        simp at this
      subst e
      obtain ⟨hps', hu⟩ := paired_unsnocG hps
      have eN : stkN (ps' ++ [p]) = stkN ps' + p.2 := by
        unfold stkN
        simp
      have eW : stkW (ps' ++ [p]) = p.1 ++ stkW ps' := by
        unfold stkW
        simp
      have edl : (stk' ++ [u]).dropLast = stk' := List.dropLast_concat
      refine ⟨_, rfl, true, .inl ⟨_, SqL.of eg, by simp⟩, iteT ⟨_, rfl, .inl ⟨rfl, _, SqL.of eg⟩, g, _, u, rfl, rfl, eg, by simp, ?_⟩⟩
      rw [edl]
      have s4 : Same H (upd H3 g (.lst stk')) := fun b o eb => by
        rw [upd_ne (ne_of_none eb nHg)]
        exact s3 _ _ eb
      have et4 : (upd H3 g (.lst stk')) t = some (.lst (txs done)) := by rw [upd_ne ntg]; exact et
      have eg4 : (upd H3 g (.lst stk')) g = some (.lst stk') := upd_same
      have kp : ∀ {v : V} {w : List Nat} {n : Nat}, RpV CR H3 v w n → RpV CR (upd H3 g (.lst stk')) v w n := fun z => z.keep fun b o e ho => by
        rw [upd_ne (fun c => by rw [c, eg] at e; cases e; rcases ho with ⟨_, z⟩ | ⟨_, _, z⟩ <;> cases z)]
        exact e
      have hps4 : Paired (fun v p => RpV CR (upd H3 g (.lst stk')) v p.1 p.2) stk' ps' := Paired.mono (fun v p z => kp z) hps'
      have hu4 := kp hu
      generalize upd H3 g (.lst stk') = H4 at s4 et4 eg4 hps4 hu4
      have hp1 := hu4.few.2.2
      have nHt : H t = none := n1
      rcases hu4.cases with ⟨rfl, e1'⟩ | ⟨r, dx, m', l, rt, us, qs, rfl, h1, h2, h3, h4, h5, h6, h7⟩
      · refine ⟨_, rfl, true, isi_str _, true, rfl, iteT ⟨_, rfl, .inl ⟨rfl, _, SqL.of et4⟩, _, rfl, t, _, _, rfl, rfl, et4, ?_, ?_⟩⟩
        · unfold txs
          rw [List.length_map]
          omega
        have kp5 : ∀ {v : V} {w : List Nat} {n : Nat}, RpV CR H4 v w n → RpV CR (upd H4 t (.lst (txs done ++ [V.str (S p.1)]))) v w n := fun z => z.keep fun b o e ho => by
          rw [upd_ne (fun c => by rw [c, et4] at e; cases e; rcases ho with ⟨_, z⟩ | ⟨_, _, z⟩ <;> cases z)]
          exact e
        refine ⟨stkN ps', by rw [hm, eN]; omega, _, done ++ [p.1], stk', ps', rfl, fun b o eb => ?_, ?_, ?_, Paired.mono (fun v p z => kp5 z) hps4, ?_, rfl, ?_⟩
        · rw [upd_ne (ne_of_none eb nHt)]
          exact s4 _ _ eb
        · rw [upd_same]
          unfold txs
          rw [List.map_append]
          rfl
        · rw [upd_ne ntg.symm]
          exact eg4
        · rw [hc, eW]
          simp
        · rw [List.length_append]
          show done.length + 1 + _ ≤ _
          rw [eN] at hb
          omega
      · refine ⟨_, rfl, false, T.isi h1, false, rfl, iteF ⟨_, rfl, .inl ⟨rfl, _, SqL.of eg4⟩, _, rfl, r, dx, _, rfl, h1, rf_no _ _ _ _, r, dx, m', l, rt, p.1.length, us, rfl, h1, h2, h4, fun L H5 s5 n5 e5 => ?_⟩⟩
        refine ⟨L, _, rfl, SqL.of e5, fun L2 nL2 => ?_⟩
        have s6 := same_upd (o := .lst ([V.str (S l)] ++ us ++ [V.str (S rt)]).reverse) nL2
        have e6 : (upd H5 L2 (.lst ([V.str (S l)] ++ us ++ [V.str (S rt)]).reverse)) L2 = some (.lst ([V.str (S l)] ++ us ++ [V.str (S rt)]).reverse) := upd_same
        generalize upd H5 L2 (.lst ([V.str (S l)] ++ us ++ [V.str (S rt)]).reverse) = H6 at s6 e6
        have s46 := s5.trans s6
        have eg6 := s46 _ _ eg4
        have et6 := s46 _ _ et4
        have hqs6 : Paired (fun v p => RpV CR H6 v p.1 p.2) us qs := Paired.mono (fun v p z => z.same s46) h3
        have hall : Paired (fun v p => RpV CR H6 v p.1 p.2) ([V.str (S l)] ++ us ++ [V.str (S rt)]) ([(l, 1)] ++ qs ++ [(rt, 1)]) := paired_appG (paired_appG (.cons (RpV.txt CR H6 l) .nil) hqs6) (.cons (RpV.txt CR H6 rt) .nil)
        have hstk : Paired (fun v p => RpV CR H6 v p.1 p.2) (stk' ++ ([V.str (S l)] ++ us ++ [V.str (S rt)]).reverse) (ps' ++ ([(l, 1)] ++ qs ++ [(rt, 1)]).reverse) := paired_appG (Paired.mono (fun v p z => z.same s46) hps4) (paired_revG hall)
        have eN2 : stkN (ps' ++ ([(l, 1)] ++ qs ++ [(rt, 1)]).reverse) = stkN ps' + ((qs.map (·.2)).sum + 2) := by
          unfold stkN
          rw [List.map_append, List.sum_append, List.map_reverse, sum_revG]
          simp
          omega
        have eW2 : stkW (ps' ++ ([(l, 1)] ++ qs ++ [(rt, 1)]).reverse) = p.1 ++ stkW ps' := by
          unfold stkW
          rw [List.reverse_append, List.reverse_reverse, h5]
          simp
        have lst' : stk'.length ≤ stkN ps' := stkN_le hps4
        have kp7 : ∀ {v : V} {w : List Nat} {n : Nat}, RpV CR H6 v w n → RpV CR (upd H6 g (.lst (stk' ++ ([V.str (S l)] ++ us ++ [V.str (S rt)]).reverse))) v w n := fun z => z.keep fun b o e ho => by
          rw [upd_ne (fun c => by rw [c, eg6] at e; cases e; rcases ho with ⟨_, z⟩ | ⟨_, _, z⟩ <;> cases z)]
          exact e
        rw [eN] at hb
        refine ⟨g, L2, _, _, rfl, rfl, eg6, e6, ?_, stkN ps' + ((qs.map (·.2)).sum + 2), by rw [hm, eN, h6]; omega, _, done, _, _, rfl, fun b o eb => ?_, ?_, upd_same, Paired.mono (fun v p z => kp7 z) hstk, ?_, eN2.symm, ?_⟩
        · rw [List.length_reverse, List.length_append, List.length_append]
          show _ + (1 + us.length + 1) ≤ _
          omega
        · rw [upd_ne (ne_of_none eb nHg)]
          exact s46 _ _ (s4 _ _ eb)
        · rw [upd_ne ntg]
          exact et6
        · rw [hc, eW, eW2]
        · rw [eN2]
          omega
end
end Tb

set_option Elab.async false
set_option linter.all false
set_option maxRecDepth 100000
set_option maxHeartbeats 4000000
namespace Tb
open PySem PySem.Spec PyProof.Rows L2 TL
/-! ### a rope for each box -/
def EnvP (CR : Addr) (H : Hp) (kvs : List (Key × V)) (env : Env) : Prop := Paired (fun (kv : Key × V) (q : Nat × List Nat) => kv.1 = Sum.inr (S [q.1]) ∧ ∃ n, RpV CR H kv.2 q.2 n) kvs env
def EnvAt (CR : Addr) (H : Hp) (d : Addr) (env : Env) : Prop := ∃ kvs, H d = some (.dK kvs) ∧ EnvP CR H kvs env
theorem EnvP.keep {CR : Addr} {H H' : Hp} (k : ∀ b o, H b = some o → ((∃ xs, o = .tup xs) ∨ ∃ dx fs, o = .ins CR dx fs) → H' b = some o) {kvs : List (Key × V)} {env : Env} (h : EnvP CR H kvs env) : EnvP CR H' kvs env := Paired.mono (fun kv q ⟨e, n, z⟩ => ⟨e, n, z.keep k⟩) h
theorem EnvP.same {CR : Addr} {H H' : Hp} (s : Same H H') {kvs : List (Key × V)} {env : Env} (h : EnvP CR H kvs env) : EnvP CR H' kvs env := h.keep fun b o e _ => s b o e
theorem EnvAt.same {CR : Addr} {H H' : Hp} (s : Same H H') {d : Addr} {env : Env} (h : EnvAt CR H d env) : EnvAt CR H' d env := by
  obtain ⟨kvs, e, p⟩ := h
  exact ⟨kvs, s _ _ e, p.same s⟩
theorem EnvAt.but {CR : Addr} {H H' : Hp} {g : Addr} {kk : List (List Key × V)} (hg : H g = some (.dT kk)) (s : But g H H') {d : Addr} {env : Env} (h : EnvAt CR H d env) : EnvAt CR H' d env := by
  obtain ⟨kvs, e, p⟩ := h
  exact ⟨kvs, s _ _ e (ne_of e hg (by intro z; cases z)), p.keep fun b o e ho => s _ _ e (ne_of e hg (by intro z; rcases ho with ⟨_, y⟩ | ⟨_, _, y⟩ <;> rw [y] at z <;> cases z))⟩
/-- a box's rope, or the part itself -/
theorem EnvP.piece {CR : Addr} {H : Hp} (p : List Nat) : ∀ {kvs : List (Key × V)} {env : Env}, EnvP CR H kvs env → ∃ n, RpV CR H ((valV kvs (Sum.inr (S p))).getD (.str (S p))) (pieceE env p) n
  | _, _, .nil => ⟨1, RpV.txt CR H p⟩
  | _, _, .cons (a := kv) (b := q) (l₁ := kvs) (l₂ := env) ⟨e, n, h⟩ t => by
    have ih := EnvP.piece p (show EnvP CR H kvs env from t)
    unfold pieceE getE at *
    rw [List.find?_cons]
    by_cases c : [q.1] = p
    · rw [decide_eq_true c, valV_pos (by rw [e, c])]
      exact ⟨n, h⟩
    · rw [decide_eq_false c, valV_neg (by rw [e]; exact fun z => c (key_S.mp z))]
      exact ih
theorem fillE_snoc (env : Env) (a : List (List Nat)) (p : List Nat) : fillE env (a ++ [p]) = fillE env a ++ pieceE env p := by
  unfold fillE
  simp
section
variable {te : TE} {vs : List Nat} {σ : L2.St} {H1 : Hp} {D : Addr} {Qd : Hp → Prop} {sl : Nat} {J : It} {n : Nat} {G : Hp → Prop} {Y : Nat → Hp → V → Hp → Prop}
/-- [ropes.get(part, part) for part in parts] -/
theorem lc_pieces {CR : Addr} {env : Env} {ps : List (List Nat)} (w : Walk J n G Y) (hn : n = ps.length) (hY : ∀ i H x H', Y i H x H' → H' = H ∧ (txs ps)[i]? = some x) (hG : ∀ H', Same H1 H' → G H') (nD : H1 D = none) (hl : ps.length < sizeLine)
    (he : ∀ p ∈ ps, ∀ H' (R : VK), Same H1 H' → (∀ v m, RpV CR H' v (pieceE env p) m → R v H') → te ((wipe σ vs).set sl (some (.str (S p)))) H' R)
    (hd : ∀ H' us, Same H1 H' → H' D = some (.lst us) → RpVs CR H' us (ps.map (pieceE env)) → Qd H') (hw : ∀ x, wipe ((wipe σ vs).set sl (some x)) vs = wipe σ vs := by intro _; rfl) :
    ∃ W : Nat → Nat → Hp → Prop, (∃ m, W 0 m (upd H1 D (.lst []))) ∧ ∀ i m H, W i m H →
      (J.stop i H ∧ Qd H) ∨ (J.go i H ∧ ∃ Nx : Hp → Prop, (∀ H', Nx H' → ∃ m', m' < m ∧ W (i + 1) m' H') ∧ ∀ x H', J.yld i H x H' → gName sl x (wipe σ vs) H' fun σ2 H2 => wipe σ2 vs = wipe σ vs ∧ tYes σ2 H2 fun b H3 =>
        if b = true then te σ2 H3 fun y H4 => ∃ acc, H4 D = some (.lst acc) ∧ acc.length < sizeLine ∧ Nx (upd H4 D (.lst (acc ++ [y]))) else Nx H3) := by
  refine lc_it w (fun i H => Same H1 H ∧ ∃ us, H D = some (.lst us) ∧ RpVs CR H us ((ps.take i).map (pieceE env))) ⟨same_upd nD, [], upd_same, .nil⟩ (fun i H _ h => hG H h.1) ?_ ?_
  · rintro i x H H' hi ⟨s, us, e, hus⟩ y
    obtain ⟨rfl, hx⟩ := hY _ _ _ _ y
    obtain ⟨p, hp, rfl⟩ : ∃ p, ps[i]? = some p ∧ x = .str (S p) := by
      unfold txs at hx
      rw [List.getElem?_map] at hx
      cases z : ps[i]? with
      | none => rw [z] at hx; cases hx
      | some c => rw [z] at hx; exact ⟨c, rfl, (Option.some.inj hx).symm⟩
    have et : ps.take (i + 1) = ps.take i ++ [p] := by
      rw [List.take_add_one, hp]
      rfl
    refine ⟨hw _, tYes_if (he p (List.mem_of_getElem? hp) _ _ s fun v m hv => ⟨us, e, ?_, fun b o eb => ?_, _, upd_same, ?_⟩)⟩
    · rw [Paired.length hus, List.length_map, List.length_take]
      exact Nat.lt_of_le_of_lt (Nat.min_le_right _ _) hl
    · rw [upd_ne (ne_of_none eb nD)]
      exact s _ _ eb
    · rw [et, List.map_append]
      have kp : ∀ {v : V} {c : List Nat} {n : Nat}, RpV CR H' v c n → RpV CR (upd H' D (.lst (us ++ [v]))) v c n := fun z => z.keep fun b o eb ho => by
        rw [upd_ne (fun c => by rw [c, e] at eb; cases eb; rcases ho with ⟨_, z⟩ | ⟨_, _, z⟩ <;> cases z)]
        exact eb
      have kp2 : ∀ {u : V} {c : List Nat} {n : Nat}, RpV CR H' u c n → RpV CR (upd H' D (.lst (us ++ [v]))) u c n := fun z => z.keep fun b o eb ho => by
        rw [upd_ne (fun c => by rw [c, e] at eb; cases eb; rcases ho with ⟨_, z⟩ | ⟨_, _, z⟩ <;> cases z)]
        exact eb
      exact (Paired.mono (fun u c ⟨n, z⟩ => ⟨n, kp2 z⟩) hus).snoc ⟨m, kp2 hv⟩
  · rintro H ⟨s, us, e, hus⟩
    subst hn
    rw [List.take_length] at hus
    exact hd H us s e hus
end
section
variable {P : Program} {w : World} {K : PySem.W.Frag} {mg : Str → Option Value} {base : Heap}
def spFilledG (CR : Addr) : Sp := fun vs H Q _ => ∃ (fa ra : Addr) (kvs : List (Key × V)) (fl : Fil) (B : List Nat) (env : Env), vs = [.ref fa, .ref ra] ∧ H fa = some (.dK kvs) ∧ PtsAt H kvs B fl ∧ EnvAt CR H ra env ∧ B.Nodup ∧ B.length ≤ 26 ∧ (∀ b ∈ B, (fil fl b).length ≤ 1000) ∧ (∀ b ∈ B, (fillE env (partsOf (fil fl b))).length ≤ 1000000) ∧
  ∀ d H', Same H H' → H d = none → EnvAt CR H' d (B.map fun b => (b, fillE env (partsOf (fil fl b)))) → Q (.ref d) H'
theorem ok_filledG {f CR : Addr} {fd : FuncData} {k : Nat} (F : Fun K "filled" "filled" sFilled f fd) (DR : Df P w K mg base (k + 5) "rope_of" ["ropes"] (spRopeOfG CR)) : FnOk P w K mg base CX0 (k + 6) f fd ["fillings", "ropes"] (spFilledG CR) := by
  refine F.ok scFilled (fun vs H Q E h => ?_) (fun cdv A outer s H vs Q E hr h => ?_)
  · obtain ⟨fa, ra, kvs, fl, B, env, rfl, _⟩ := h
    rfl
  · obtain ⟨fa, ra, kvs, fl, B, env, rfl, hf, hpt, ⟨kr, hra, henv⟩, nB, lB, hl, hlen, q⟩ := h
    have hu := hu_of hr
    refine ⟨_, pss_one (ps_ret (pe_lock (pe_dc (own := [("box", 2), ("parts", 3)]) (g := gTup K 2 (gCons (gName 2) (gCons (gName 3) gNil))) (tt := tYes) (tk := tVar 2) (tv := tCall (spRopeOfG CR) [] E0 (tCons (tLc (iList K (tVar 3)) (gName 4) tYes (tDGet2 (tVar 1) (tVar 4) (tVar 4)) [4]) tNil)) rfl scFilled.nd (pi_items (pv 0)) (blkOk_by (own := [("box", 2), ("parts", 3)]) (N := nFilled) (sc := defScope sFilled) (by decide +kernel))
      (fun _ _ _ _ _ => pg_tup rfl (pgs_cons (pg_name (i := 2) scFilled.nd rfl (.inl rfl)) (pgs_cons (pg_name (i := 3) scFilled.nd rfl (.inl rfl)) pgs_nil))) (fun _ _ _ _ _ => pts_nil) (fun _ _ _ _ _ => pv 2)
      (fun _ _ _ _ _ => pe_df DR hr (pa_cons (pe_lc (own := [("part", 4)]) (g := gName 4) (tt := tYes) (te := tDGet2 (tVar 1) (tVar 4) (tVar 4)) rfl scFilled.nd (pi_list (pv 3)) (blkOk_by (own := [("part", 4)]) (N := nFilled) (sc := blkF) (by decide +kernel)) (fun _ _ _ _ _ => pg_name (i := 4) scFilled.nd rfl (.inl rfl)) (fun _ _ _ _ _ => pts_nil) (fun _ _ _ _ _ => pe_dget2 hu (pv 1) (pv 4) (pv 4) ⟨rfl, rfl, rfl, rfl⟩)) pa_nil))))), ?_⟩
    refine ⟨fa, _, hf, trivial, fun od => ⟨_, rfl, fa, od, kvs, rfl, upd_same, fun D nD => ?_⟩⟩
    have nDf : D ≠ fa := fun z => by rw [z, upd_same] at nD; cases nD
    have hfl : (upd H fa (.frz od (.dK kvs))) fa = some (.frz od (.dK kvs)) := upd_same
    have bl : But fa H (upd H fa (.frz od (.dK kvs))) := But.upd fa H _
    have hpl : PtsAt (upd H fa (.frz od (.dK kvs))) kvs B fl := Paired.mono (fun _ _ ⟨e, a, e2, h⟩ => ⟨e, a, e2, bl _ _ h (ne_of h hf (by intro z; cases z))⟩) hpt
    have henvl : EnvP CR (upd H fa (.frz od (.dK kvs))) kr env := henv.keep fun b o e ho => bl _ _ e (ne_of e hf (by intro z; rcases ho with ⟨_, y⟩ | ⟨_, _, y⟩ <;> rw [y] at z <;> cases z))
    have rdr : ∀ H', Same (upd H fa (.frz od (.dK kvs))) H' → Rd H' ra (.dK kr) := fun H' s' => rd_lock hra hf s'
    generalize hHl : upd H fa (.frz od (.dK kvs)) = Hl at nD hfl hpl rdr henvl
    have lkv : kvs.length = B.length := Paired.length hpl
    refine dc_it walk_items (fun i Hc => Same Hl Hc ∧ ∃ kd, Hc D = some (.dK kd) ∧ EnvP CR Hc kd ((B.take i).map fun b => (b, fillE env (partsOf (fil fl b)))))
      ⟨same_upd nD, [], upd_same, .nil⟩ (fun i Hc _ h => h.1 _ _ hfl) ?_ ?_
    · rintro i x Hc Hc' hi ⟨sc, kd, eD, hkd⟩ ⟨T1, x1, x2, rfl, nT, rfl, hx1, hx2⟩
      have hx1 : (kvs[i]?.map fun z => kV z.1) = some x1 := hx1
      have hx2 : kvs[i]?.map Prod.snd = some x2 := hx2
      obtain ⟨kv1, hkv⟩ : ∃ z, kvs[i]? = some z := ⟨kvs[i], List.getElem?_eq_getElem hi⟩
      obtain ⟨b, hb, ek, pa, ev, hpa⟩ := paired_get2 hpl hkv
      rw [hkv] at hx1 hx2
      have e1 : x1 = .str (S [b]) := by
        have := (Option.some.inj hx1).symm
        rw [this]
        show kV kv1.1 = _
        rw [ek]
        rfl
      have e2x : x2 = .ref pa := by
        have := (Option.some.inj hx2).symm
        rw [this]
        show kv1.2 = _
        rw [ev]
      subst e1 e2x
      have hbB : b ∈ B := List.mem_of_getElem? hb
      have etb : B.take (i + 1) = B.take i ++ [b] := by
        rw [List.take_add_one, hb]
        rfl
      have hnew : b ∉ B.take i := fun z => by
        have h6 : (B.take (i + 1)).Nodup := (List.take_sublist _ _).nodup nB
        rw [etb, List.nodup_append] at h6
        exact h6.2.2 b z b (List.mem_singleton.mpr rfl) rfl
      have sm := same_upd (o := .tup [.str (S [b]), .ref pa]) nT
      have slm := sc.trans sm
      refine ⟨T1, _, rfl, SqT.of upd_same, rfl, _, _, rfl, _, _, rfl, rfl, rfl, tYes_if ⟨_, rfl, ?_⟩⟩
      have hpa' := slm _ _ hpa
      have eD1 := sm _ _ eD
      have hkd1 := hkd.same sm
      generalize upd Hc T1 (.tup [.str (S [b]), .ref pa]) = Hm at sm slm hpa' eD1 hkd1
      refine ⟨_, rfl, pa, rfl, ⟨_, SqL.of hpa'⟩, fun D2 nD2 => lc_pieces (CR := CR) (env := env) (ps := partsOf (fil fl b)) walk_list (by unfold txs; rw [List.length_map]) (fun i H x H' y => ⟨y.1, y.2⟩) (fun H' s' => SqL.of (s' _ _ hpa')) nD2 ?_ ?_ ?_⟩
      · have h6 := parts_len (fil fl b)
        have h7 := hl b hbB
        have big : (10000 : Nat) < sizeLine := by decide
        omega
      · intro p hp H' R s' r
        obtain ⟨n, hpc⟩ := (henvl.same (slm.trans s')).piece p
        exact ⟨_, rfl, ra, rfl, .inl ⟨_, (rdr _ (slm.trans s'))⟩, _, rfl, _, rfl, _, dget_rd (k := Sum.inr (S p)) (rdr _ (slm.trans s')), r _ n hpc⟩
      · intro H' us s' e' hus
        refine ⟨D2, us, _, rfl, e', hus, hlen b hbB, fun u m H2 s2 hu2 => ?_⟩
        have s12 := s'.trans s2
        have hkn : (Sum.inr (S [b]) : Key) ∉ kd.map (·.1) := fun z => by
          have ekd : ∀ {kd : List (Key × V)} {e : Env} {Hx : Hp}, EnvP CR Hx kd e → kd.map (·.1) = e.map fun q => (Sum.inr (S [q.1]) : Key) := by
            intro kd e Hx h
            unfold EnvP at h
            induction h with
            | nil => rfl
            | cons h _ ih => rw [List.map_cons, List.map_cons, h.1, ih]
          rw [ekd hkd1, List.map_map] at z
          obtain ⟨q', hq', e⟩ := List.mem_map.mp z
          have e' := key_S.mp (show (Sum.inr (S [q']) : Key) = Sum.inr (S [b]) from e)
          injection e' with e' _
          exact hnew (e' ▸ hq')
        have eD2 := s12 _ _ eD1
        refine ⟨_, Sum.inr (S [b]), rfl, eD2, ?_, fun b' o eb => ?_, _, upd_same, ?_⟩
        · rw [Paired.length hkd1, List.length_map, List.length_take]
          exact small1000 (by omega)
        · rw [upd_ne (ne_of_none eb nD)]
          exact s12 _ _ (slm _ _ eb)
        · rw [putK_end _ hkn, etb, List.map_append]
          have kp : ∀ b' o, H2 b' = some o → ((∃ xs, o = .tup xs) ∨ ∃ dx fs, o = .ins CR dx fs) → (upd H2 D (.dK (kd ++ [(Sum.inr (S [b]), u)]))) b' = some o := fun b' o eb ho => by
            rw [upd_ne (fun c => by rw [c, eD2] at eb; cases eb; rcases ho with ⟨_, z⟩ | ⟨_, _, z⟩ <;> cases z)]
            exact eb
          exact ((hkd1.same s12).keep kp).snoc ⟨rfl, m, hu2.keep kp⟩
    · rintro Hc ⟨sc, kd, eD, hkd⟩
      rw [lkv, List.take_length] at hkd
      have hcf := sc _ _ hfl
      have sH : Same H (upd Hc fa (.dK kvs)) := same_unlock hf (by rw [hHl]; exact sc)
      have nHD : H D = none := by
        rw [← hHl, upd_ne nDf] at nD
        exact nD
      refine ⟨hcf, q D _ sH nHD ⟨kd, by rw [upd_ne nDf]; exact eD, hkd.keep fun b o e ho => ?_⟩⟩
      rw [upd_ne (ne_of e hcf (by intro z; rcases ho with ⟨_, y⟩ | ⟨_, _, y⟩ <;> rw [y] at z <;> cases z))]
      exact e
end
end Tb

set_option Elab.async false
set_option linter.all false
set_option maxRecDepth 100000
set_option maxHeartbeats 4000000
namespace Tb
open PySem PySem.Spec PyProof.Rows L2 TL
theorem getC_selfB {q : Nat × List Nat} : ∀ {env : Env}, (env.map (·.1)).Nodup → q ∈ env → getC env q.1 = some q.2
  | [], _, h => nomatch h
  | x :: env, nd, h => by
    rw [List.map_cons] at nd
    have nd' := List.nodup_cons.mp nd
    rw [getC_cons]
    rcases List.mem_cons.mp h with e | e
    · rw [e, if_pos rfl]
    · rw [if_neg (fun z => nd'.1 (by rw [z]; exact List.mem_map.mpr ⟨q, e, rfl⟩))]
      exact getC_selfB nd'.2 e
def textV (env : Env) : V → V := fun v => match v with | .str x => .str (S ((getC env ((tl x).headD 0)).getD [])) | _ => .non
theorem text_eq {env : Env} {B : List Nat} (hk : env.map (·.1) = B) (nd : B.Nodup) : ((sgs B).filter fun _ => true).map (fun x => (keyV x, textV env x)) = envK env := by
  subst hk
  rw [List.filter_eq_self.mpr (fun _ _ => rfl)]
  unfold sgs envK
  simp only [List.map_map]
  refine List.map_congr_left fun q hq => ?_
  show (Sum.inr (S [q.1]), V.str (S ((getC env q.1).getD []))) = _
  rw [getC_selfB nd hq]
  rfl
section
variable {P : Program} {w : World} {K : PySem.W.Frag} {mg : Str → Option Value} {base : Heap}
abbrev nStEnded : List Str := ["self", "state", "place", "ropes", "end", "part"]
theorem scStEnded : FnScope nStEnded ["self", "state"] (defScope sStEnded) := ⟨rfl, rfl, rfl, by decide +kernel, rfl, by decide +kernel, by decide +kernel⟩
def endE (es : Fil) (c : List Nat) (env : Env) : Option (List Nat) := (getF es c).map fun f => fillE env (partsOf f)
def spStEnded (CS C : Addr) : Sp := fun vs H Q _ => ∃ (s p g : Addr) (L B : List Nat) (places : List (List Nat)) (ms : List Mv) (es : Fil) (n : Nat), StAt CS C H s p g L B places ms es n ∧ PgOk B ms es ∧
  ((vs = [.ref s, .non] ∧ Q .non H) ∨ ∃ (T d : Addr) (c : List Nat) (env : Env), vs = [.ref s, .ref T] ∧ H T = some (.tup [.str (S c), .ref d]) ∧ H d = some (.dK (envK env)) ∧ env.map (·.1) = B ∧ (env.map (·.2.length)).sum + (4 * B.length + 3) ≤ 500 ∧
    ∀ H', Same H H' → Q (optV (endE es c env)) H')
theorem ok_stEnded {f CS C : Addr} {fd : FuncData} {k : Nat} (F : Fun K "ended" "Steps.ended" sStEnded f fd) (T : PrTxt K mg C) (U : StTxt K mg CS) (DE : Mth P w K mg base C (k + 1) "end" ["place"] (spEnd C)) (DR : Df P w K mg base (k + 3) "rope_of" ["ropes"] spRopeOf) (DP : Df P w K mg base (k + 1) "parts_of" ["filling", "boxes"] spPartsOf) :
    FnOk P w K mg base CX0 (k + 4) f fd ["self", "state"] (spStEnded CS C) := by
  refine F.ok scStEnded (fun vs H Q E h => ?_) (fun cdv A outer st H vs Q E hr h => ?_)
  · obtain ⟨s, p, g, L, B, places, ms, es, n, _, _, ⟨rfl, _⟩ | ⟨_, _, _, _, rfl, _⟩⟩ := h <;> rfl
  · obtain ⟨s, p, g, L, B, places, ms, es, n, hst, G, h⟩ := h
    have hu := hu_of hr
    refine ⟨_, pss_cons (ps_if (pt_cmpR op_isN (pv 1) pe_non (nomark _)) (pss_one (ps_ret pe_non)) pss_nil)
      (pss_cons (ps_asg (pv 1) (pg_tup rfl (pgs_cons (pg_name (i := 2) scStEnded.nd rfl (.inl rfl)) (pgs_cons (pg_name (i := 3) scStEnded.nd rfl (.inr rfl)) pgs_nil))))
      (pss_cons (ps_set (i := 4) scStEnded.nd rfl (.inl rfl) (pe_mth DE T.cl hr (pe_fld (pv 0) rfl) (pa_cons (pv 2) pa_nil)))
      (pss_cons (ps_if (pt_cmpR op_isN (pv 4) pe_non (nomark _)) (pss_one (ps_ret pe_non)) pss_nil)
      (pss_one (ps_ret (pe_df DR hr (pa_cons (pe_lc (own := [("part", 5)]) (g := gName 5) (tt := tYes) (te := tDGet2 (tVar 3) (tVar 5) (tVar 5)) rfl scStEnded.nd (pi_list (pe_df DP hr (pa_cons (pv 4) (pa_cons (pe_fld (pv 0) rfl) pa_nil)))) (blkOk_by (own := [("part", 5)]) (N := nStEnded) (sc := defScope sStEnded) (by decide +kernel))
          (fun _ _ _ _ _ => pg_name (i := 5) scStEnded.nd rfl (.inl rfl)) (fun _ _ _ _ _ => pts_nil) (fun _ _ _ _ _ => pe_dget2 hu (pv 3) (pv 5) (pv 5) ⟨rfl, rfl, rfl, rfl⟩)) pa_nil))))))), ?_⟩
    rcases h with ⟨rfl, q⟩ | ⟨T', d, c, env, rfl, hT, hd, hk, hsum, q⟩
    · exact ⟨_, rfl, rfl, _, rfl, iteT q⟩
    obtain ⟨dxs, kvs, hs, hp, hg, hlen, hcache⟩ := id hst.ob
    obtain ⟨dx, pl, mv, en, kk, h1, h2, h3, h4, h5, hne⟩ := id hp.ob
    refine ⟨_, rfl, rfl, _, rfl, iteF ⟨_, rfl, T', _, rfl, SqT.of hT, rfl, _, _, rfl, _, _, rfl, rfl, ?_⟩⟩
    refine ⟨_, rfl, s, CS, dxs, _, _, rfl, hs, U.cl, U.nP, sf_p _ _ _, p, dx, _, rfl, h1, fl_no _ _ _ _ _ (by decide +kernel), _, rfl, p, c, L, B, places, ms, es, rfl, hp.at, ?_⟩
    unfold endE at q
    cases hg : getF es c with
    | none =>
      rw [hg] at q
      exact ⟨_, rfl, rfl, _, rfl, iteT (q H (fun _ _ e => e))⟩
    | some f =>
      rw [hg] at q
      have hen := G.en _ _ hg
      have het := end_tight G hg hk
      have heti := G.eti _ _ hg
      refine ⟨_, rfl, rfl, _, rfl, iteF ⟨_, rfl, _, rfl, s, CS, dxs, _, _, rfl, hs, U.cl, U.nB, sf_b _ _ _, f, B, rfl, hen.1, by have := G.lB; omega, G.nB, G.cB, G.esg _ _ hg, hen.2, fun pa H1 s1 n1 e1 => ?_⟩⟩
      refine ⟨pa, rfl, ⟨_, SqL.of e1⟩, fun D2 nD2 => lc_mapW (xs := txs (partsOf f)) (pieceEV env) walk_list rfl (fun i H x H' y => ⟨y.1, y.2⟩) (fun H' s' => SqL.of (s' _ _ e1)) nD2 ?_ ?_ ?_⟩
      · unfold txs
        rw [List.length_map]
        have h6 := parts_len f
        have h7 := hen.1
        have big : (10000 : Nat) < sizeLine := by decide
        omega
      · intro x hx H' R s' r
        obtain ⟨p', hpm, rfl⟩ := List.mem_map.mp hx
        refine ⟨_, rfl, d, rfl, .inl ⟨_, .inl (s' _ _ (s1 _ _ hd))⟩, _, rfl, _, rfl, _, DGet.k (k := Sum.inr (S p')) (s' _ _ (s1 _ _ hd)), ?_⟩
        rw [val_envKL]
        have r' := r H' (fun _ _ e => e)
        have e1 : pieceEV env (.str (S p')) = ((getE env p').map fun x => V.str (S x)).getD (.str (S p')) := by
          show V.str (S ((getE env p').getD p')) = _
          cases getE env p' <;> rfl
        rw [e1] at r'
        exact r'
      · intro H' s' e'
        rw [pieces_txs] at e'
        exact ⟨D2, _, rfl, e', by show (fillE env (partsOf f)).length ≤ 500; omega, q H' (s1.trans s')⟩
abbrev nStTold : List Str := ["self", "state", "rope"]
theorem scStTold : FnScope nStTold ["self", "state"] (defScope sStTold) := ⟨rfl, rfl, rfl, by decide +kernel, rfl, by decide +kernel, by decide +kernel⟩
theorem ok_stTold {f CS C : Addr} {fd : FuncData} {k : Nat} (F : Fun K "told" "Steps.told" sStTold f fd) (U : StTxt K mg CS) (DE : Mth P w K mg base CS (k + 4) "ended" ["state"] (spStEnded CS C)) (DW : Df P w K mg base (k + 1) "written" ["rope"] spWritten) : FnOk P w K mg base CX0 (k + 5) f fd ["self", "state"] (spStEnded CS C) := by
  refine F.ok scStTold (fun vs H Q E h => ?_) (fun cdv A outer st H vs Q E hr h => ?_)
  · obtain ⟨s, p, g, L, B, places, ms, es, n, _, _, ⟨rfl, _⟩ | ⟨_, _, _, _, rfl, _⟩⟩ := h <;> rfl
  · obtain ⟨s, p, g, L, B, places, ms, es, n, hst, G, h⟩ := h
    refine ⟨_, pss_cons (ps_set (i := 2) scStTold.nd rfl (.inl rfl) (pe_mth DE U.cl hr (pv 0) (pa_cons (pv 1) pa_nil)))
      (pss_one (ps_ret (pe_ifExp (pt_cmpR op_isN (pv 2) pe_non (nomark _)) pe_non (pe_df DW hr (pa_cons (pv 2) pa_nil))))), ?_⟩
    obtain ⟨dxs, kvs, hs, hp, hg, hlen, hcache⟩ := id hst.ob
    rcases h with ⟨rfl, q⟩ | ⟨T', d, c, env, rfl, hT, hd, hk, hsum, q⟩
    · exact ⟨_, rfl, s, dxs, _, rfl, hs, sf_no _ _ _ (by decide +kernel), _, rfl, s, p, g, L, B, places, ms, es, n, hst, G, .inl ⟨rfl, _, rfl, rfl, _, rfl, iteT q⟩⟩
    refine ⟨_, rfl, s, dxs, _, rfl, hs, sf_no _ _ _ (by decide +kernel), _, rfl, s, p, g, L, B, places, ms, es, n, hst, G, .inr ⟨T', d, c, env, rfl, hT, hd, hk, hsum, fun H1 s1 => ?_⟩⟩
    have het : ∀ x, endE es c env = some x → x.length ≤ 500 := fun x e => by
      unfold endE at e
      cases hg : getF es c with
      | none => rw [hg] at e; cases e
      | some f =>
        rw [hg] at e
        have e : fillE env (partsOf f) = x := Option.some.inj e
        have h1 := end_tight G hg hk
        have h2 := G.eti _ _ hg
        rw [← e]
        omega
    cases e : endE es c env with
    | none =>
      rw [e] at q
      exact ⟨_, rfl, rfl, _, rfl, iteT (q H1 s1)⟩
    | some x =>
      rw [e] at q
      refine ⟨_, rfl, rfl, _, rfl, iteF ⟨_, rfl, x, rfl, by have := het x e; omega, fun H2 s2 => q H2 (s1.trans s2)⟩⟩
/-! ### Steps(program) -/
abbrev psSt : List Str := ["self", "program"]
structure MkS (P : Program) (w : World) (K : PySem.W.Frag) (mg : Str → Option Value) (base : Heap) (CS C : Addr) (k : Nat) : Prop where
  ex : ∃ f fd, Mk K CS f ∧ FnOk P w K mg base CX0 k f fd psSt (spStInit CS C) ∧ Binds K fd psSt []
def tSteps (CS C : Addr) (t : TA) : TE := fun σ H Q => t σ H fun vs H1 => ∃ (p : Addr) (L B : List Nat) (places : List (List Nat)) (ms : List Mv) (es : Fil), vs = [.ref p] ∧ PrAt C H1 p L B places ms es ∧
  ∀ s g H', Same H1 H' → H1 s = none → H1 g = none → StAt CS C H' s p g L B places ms es 0 → Q (.ref s) H'
theorem pe_steps {X : Cx} {CS C : Addr} {k j : Nat} {e : Expr} {es : List Expr} {t : TA} {p pos : Pos} (D : MkS X.prog X.w X.K X.mg X.base CS C k) (hr : Room j X.A) (hm : X.mg "Steps" = some (.ref CS)) (ha : PA X (e :: es) t) (hk : k + 1 ≤ j := by omega) (hg : Gl X "Steps" := by rfl)
    (he : starEach (e :: es) X.env = (false, eval e X.env) :: starEach es X.env := by rfl) (hpl : (backTo pos (starEach es X.env)).any (·.1) = false := by rfl) :
    PE X (.Call (.Name "Steps" p) (e :: es) [] pos) (tSteps CS C t) := by
  obtain ⟨f, fd, M, F, b⟩ := D.ex
  refine PE.weak (pe_make M F (hr.mono hk) hg hm b .nil pass0 (PA.mono ha) (by decide) he hpl) fun σ H Q z => ⟨_, z, fun vs H1 ⟨p, L, B, places, ms, es, ev, hp, q⟩ x dx nx ndx ne => ?_⟩
  subst ev
  have s1 : Same H1 (upd (upd H1 dx (.own x)) x (.ins CS dx [])) := fun b o eb => by
    rw [upd_ne (ne_of_none eb nx), upd_ne (ne_of_none eb ndx)]
    exact eb
  exact ⟨x, dx, p, L, B, places, ms, es, rfl, upd_same, hp.same s1, fun g H' hb hg0 hst => ⟨rfl, q x g H' (fun b o eb => hb b o (s1 b o eb) (ne_of_none eb nx)) nx (s1.free hg0) hst⟩⟩
abbrev nTold : List Str := ["program", "text", "steps"]
theorem scTold : FnScope nTold ["program", "text"] (defScope sTold) := ⟨rfl, rfl, rfl, by decide +kernel, rfl, by decide +kernel, by decide +kernel⟩
def spTold (C : Addr) : Sp := fun vs H Q _ => ∃ (p : Addr) (t L B pl0 : List Nat) (places : List (List Nat)) (ms : List Mv) (es : Fil), vs = [.ref p, .str (S t)] ∧ PrAt C H p L B (pl0 :: places) ms es ∧ PgOk B ms es ∧ (∀ c ∈ t, c ∈ L) ∧ t.length * (7 * B.length) + (4 * B.length + 3) ≤ 500 ∧ t.length ≤ 300 ∧ ∀ H', Same H H' → Q (optV (toldE ms B es pl0 t)) H'
theorem start_keys (B : List Nat) : (B.map fun b => (b, ([] : List Nat))).map (·.1) = B := by
  rw [List.map_map]
  exact List.map_id _
theorem start_sum (B : List Nat) : ((B.map fun b => (b, ([] : List Nat))).map (·.2.length)).sum = 0 := by
  induction B with
  | nil => rfl
  | cons b B ih =>
    rw [List.map_cons, List.map_cons, List.sum_cons, ih]
    rfl
theorem ok_told {f CS C : Addr} {fd : FuncData} {k : Nat} (F : Fun K "told" "told" sTold f fd) (U : StTxt K mg CS) (DC : Df P w K mg base (k + 3) "check_text" ["program", "text"] (spCheck C)) (MS : MkS P w K mg base CS C (k + 3)) (D1 : Mth P w K mg base CS (k + 3) "first" [] (spStFirst CS C)) (D2 : Mth P w K mg base CS (k + 5) "behind" ["state", "text"] (spStBehind CS C)) (D3 : Mth P w K mg base CS (k + 5) "told" ["state"] (spStEnded CS C)) :
    FnOk P w K mg base CX0 (k + 6) f fd ["program", "text"] (spTold C) := by
  refine F.ok scTold (fun vs H Q E h => ?_) (fun cdv A outer st H vs Q E hr h => ?_)
  · obtain ⟨p, t, L, B, pl0, places, ms, es, rfl, _⟩ := h
    rfl
  · obtain ⟨p, t, L, B, pl0, places, ms, es, rfl, hp, G, htL, h500, h300, q⟩ := h
    refine ⟨_, pss_cons (ps_expr (pe_df DC hr (pa_cons (pv 0) (pa_cons (pv 1) pa_nil))))
      (pss_cons (ps_set (i := 2) scTold.nd rfl (.inl rfl) (pe_steps MS hr U.mgC (pa_cons (pv 0) pa_nil)))
      (pss_one (ps_ret (pe_mth D3 U.cl hr (pv 2) (pa_cons (pe_mth D2 U.cl hr (pv 2) (pa_cons (pe_mthZ D1 U.cl hr (pv 2)) (pa_cons (pv 1) pa_nil))) pa_nil))))), ?_⟩
    refine ⟨_, rfl, _, rfl, p, t, L, B, _, ms, es, rfl, hp, htL, ?_⟩
    refine ⟨_, rfl, p, L, B, _, ms, es, rfl, hp, fun s g H1 s1 ns ng hst => ?_⟩
    obtain ⟨dxs, kvs, hs, _, hg, _, _⟩ := id hst.ob
    refine ⟨_, rfl, s, dxs, _, rfl, hs, sf_no _ _ _ (by decide +kernel), ?_⟩
    refine ⟨_, rfl, s, dxs, _, rfl, hs, sf_no _ _ _ (by decide +kernel), ?_⟩
    refine ⟨_, rfl, s, dxs, _, rfl, hs, sf_no _ _ _ (by decide +kernel), s, p, g, L, B, pl0, places, ms, es, 0, rfl, hst, G, fun T d H2 s2 nd eT ed => ?_⟩
    refine ⟨_, rfl, s, p, g, L, B, _, ms, es, 0, t, hst.same s2, G, by omega, .inr ⟨T, d, pl0, _, rfl, eT, ed, start_keys B, by rw [start_sum]; omega, ?_⟩⟩
    unfold toldE at q
    have fr : ∀ {H3 : Hp}, But g H2 H3 → Same H H3 := fun b3 b o eb => b3 b o (s2 _ _ (s1 _ _ eb)) (ne_of_none eb ng)
    cases hrun : runE ms B (pl0, B.map fun b => (b, [])) t with
    | none =>
      rw [hrun] at q
      intro H3 b3 hst3
      exact ⟨s, p, g, L, B, _, ms, es, _, hst3, G, .inl ⟨rfl, q H3 (fr b3)⟩⟩
    | some z =>
      rw [hrun] at q
      intro T' d' H3 b3 hst3 eT' ed' hk hsum
      rw [start_sum] at hsum
      exact ⟨s, p, g, L, B, _, ms, es, _, hst3, G, .inr ⟨T', d', z.1, z.2, rfl, eT', ed', hk, by omega, fun H4 s4 => q H4 (fun b o eb => s4 _ _ (fr b3 b o eb))⟩⟩
def spBehind (C : Addr) : Sp := fun vs H Q _ => ∃ (p : Addr) (t L B pl0 : List Nat) (places : List (List Nat)) (ms : List Mv) (es : Fil), vs = [.ref p, .str (S t)] ∧ PrAt C H p L B (pl0 :: places) ms es ∧ PgOk B ms es ∧ (∀ c ∈ t, c ∈ L) ∧ t.length * (7 * B.length) + (4 * B.length + 3) ≤ 500 ∧ t.length ≤ 300 ∧
  match runE ms B (pl0, B.map fun b => (b, [])) t with
  | none => ∀ H', Same H H' → Q .non H'
  | some st => ∀ T d H', Same H H' → H' T = some (.tup [.str (S st.1), .ref d]) → H' d = some (.dK (envK st.2)) → Q (.ref T) H'
end
end Tb

set_option Elab.async false
set_option linter.all false
set_option maxRecDepth 100000
set_option maxHeartbeats 4000000
namespace Tb
open PySem PySem.Spec PyProof.Rows L2 TL
theorem EnvAt.ofK {CR : Addr} {H : Hp} {d : Addr} {env : Env} (h : H d = some (.dK (envK env))) : EnvAt CR H d env := by
  refine ⟨_, h, ?_⟩
  clear h
  unfold envK
  induction env with
  | nil => exact .nil
  | cons q r ih => exact .cons ⟨rfl, 1, RpV.txt CR H q.2⟩ ih
section
variable {P : Program} {w : World} {K : PySem.W.Frag} {mg : Str → Option Value} {base : Heap}
def spStBehindG (CR CS C : Addr) : Sp := fun vs H Q _ => ∃ (s p g : Addr) (L B : List Nat) (places : List (List Nat)) (ms : List Mv) (es : Fil) (n : Nat) (t : List Nat), StAt CS C H s p g L B places ms es n ∧ PgOk B ms es ∧ n + t.length < 1000000 ∧
  ((vs = [.ref s, .non, .str (S t)] ∧ Q .non H) ∨ ∃ (T d : Addr) (c : List Nat) (env : Env), vs = [.ref s, .ref T, .str (S t)] ∧ H T = some (.tup [.str (S c), .ref d]) ∧ EnvAt CR H d env ∧ env.map (·.1) = B ∧ (env.map (·.2.length)).sum + t.length * (7 * B.length) ≤ 1000000 ∧
    match runE ms B (c, env) t with
    | none => ∀ H', But g H H' → StAt CS C H' s p g L B places ms es (n + t.length) → Q .non H'
    | some z => ∀ T' d' H', But g H H' → StAt CS C H' s p g L B places ms es (n + t.length) → H' T' = some (.tup [.str (S z.1), .ref d']) → EnvAt CR H' d' z.2 → z.2.map (·.1) = B → (z.2.map (·.2.length)).sum ≤ (env.map (·.2.length)).sum + t.length * (7 * B.length) → Q (.ref T') H')
theorem ok_stBehindG {f CR CS C : Addr} {fd : FuncData} {k : Nat} (F : Fun K "behind" "Steps.behind" sStBehind f fd) (U : StTxt K mg CS) (DM : Mth P w K mg base CS (k + 3) "move" ["place", "letter"] (spStMove CS C)) (DF : Df P w K mg base (k + 6) "filled" ["fillings", "ropes"] (spFilledG CR)) : FnOk P w K mg base CX0 (k + 7) f fd ["self", "state", "text"] (spStBehindG CR CS C) := by
  refine F.ok scStBehind (fun vs H Q E h => ?_) (fun cdv A outer st H vs Q E hr h => ?_)
  · obtain ⟨s, p, g, L, B, places, ms, es, n, t, _, _, _, ⟨rfl, _⟩ | ⟨_, _, _, _, rfl, _⟩⟩ := h <;> rfl
  · obtain ⟨s, p, g, L, B, places, ms, es, n, t, hst, G, hn, h⟩ := h
    have hu := hu_of hr
    refine ⟨_, pss_cons (ps_if (pt_cmpR op_isN (pv 1) pe_non (nomark _)) (pss_one (ps_ret pe_non)) pss_nil)
      (pss_cons (ps_asg (pv 1) (pg_tup rfl (pgs_cons (pg_name (i := 3) scStBehind.nd rfl (.inl rfl)) (pgs_cons (pg_name (i := 4) scStBehind.nd rfl (.inl rfl)) pgs_nil))))
      (pss_cons (ps_for PassesOwn.never rfl (pi_str (pv 2)) (pg_name (i := 5) scStBehind.nd rfl (.inl rfl))
        (pss_cons (ps_set (i := 6) scStBehind.nd rfl (.inl rfl) (pe_mth DM U.cl hr (pv 0) (pa_cons (pv 3) (pa_cons (pv 5) pa_nil))))
        (pss_cons (ps_if (pt_cmpR op_isN (pv 6) pe_non (nomark _)) (pss_one (ps_ret pe_non)) pss_nil)
        (pss_cons (ps_asg (pv 6) (pg_tup rfl (pgs_cons (pg_name (i := 3) scStBehind.nd rfl (.inl rfl)) (pgs_cons (pg_name (i := 7) scStBehind.nd rfl (.inl rfl)) pgs_nil))))
        (pss_one (ps_set (i := 4) scStBehind.nd rfl (.inl rfl) (pe_df DF hr (pa_cons (pv 7) (pa_cons (pv 4) pa_nil)))))))))
      (pss_one (ps_ret (pe_tupS (pa_cons (pv 3) (pa_cons (pv 4) pa_nil))))))), ?_⟩
    rcases h with ⟨rfl, q⟩ | ⟨T, d, c, env, rfl, hT, hd, hk, hsum, q⟩
    · exact ⟨_, rfl, rfl, _, rfl, iteT q⟩
    refine ⟨_, rfl, rfl, _, rfl, iteF ⟨_, rfl, T, _, rfl, SqT.of hT, rfl, _, _, rfl, _, _, rfl, rfl, ?_⟩⟩
    refine ⟨_, rfl, S t, rfl, for_it (walk_str (z := S t)) (fun j σ H' => ∃ (c' : List Nat) (d' : Addr) (env' : Env) (v5 v6 v7 : Option V),
        σ = [some (.ref s), some (.ref T), some (.str (S t)), some (.str (S c')), some (.ref d'), v5, v6, v7] ∧ But g H H' ∧ StAt CS C H' s p g L B places ms es (n + j) ∧
        runE ms B (c, env) (t.take j) = some (c', env') ∧ EnvAt CR H' d' env' ∧ env'.map (·.1) = B ∧ (env'.map (·.2.length)).sum ≤ (env.map (·.2.length)).sum + j * (7 * B.length))
      ⟨c, d, env, none, none, none, rfl, But.refl g H, hst, rfl, hd, hk, Nat.le_add_right _ _⟩ (fun _ _ _ _ _ => trivial) ?_ ?_⟩
    · rintro j x σ H3 H3' hj ⟨c', d', env', v5, v6, v7, rfl, b3, hst3, hrun, hd3, hk3, hsum3⟩ ⟨rfl, a, ha, rfl⟩
      have ha' : t[j]? = some a := by
        rw [show (S t).cps = t.toArray from rfl, List.getElem?_toArray] at ha
        exact ha
      have hjt : j < t.length := (List.getElem?_eq_some_iff.mp ha').1
      have etake : t.take (j + 1) = t.take j ++ [a] := by
        rw [List.take_add_one, ha']
        rfl
      have erun : runE ms B (c, env) (t.take (j + 1)) = stepE ms B (c', env') a := by
        rw [etake, runE_app, hrun]
        show (stepE ms B (c', env') a).bind (fun s' => some s') = _
        cases stepE ms B (c', env') a <;> rfl
      have hmul : (j + 1) * (7 * B.length) ≤ t.length * (7 * B.length) := Nat.mul_le_mul_right _ hjt
      have hmul2 : (j + 1) * (7 * B.length) = j * (7 * B.length) + 7 * B.length := Nat.succ_mul _ _
      refine ⟨_, rfl, s, ?_⟩
      obtain ⟨dxs, kvs, hs, hp, hg, hlen, hcache⟩ := id hst3.ob
      refine ⟨dxs, _, rfl, hs, sf_no _ _ _ (by decide +kernel), _, rfl, _, rfl, s, p, g, c', a, L, B, places, ms, es, n + j, rfl, hst3, G, by omega, ?_⟩
      cases hf : findM ms c' a with
      | none =>
        intro H4 b4 hst4
        refine ⟨_, rfl, rfl, _, rfl, iteT ?_⟩
        have hnone : runE ms B (c, env) t = none := by
          have e1 : t = t.take (j + 1) ++ t.drop (j + 1) := (List.take_append_drop _ _).symm
          rw [e1, runE_app, erun]
          unfold stepE
          rw [hf]
          rfl
        rw [hnone] at q
        exact q H4 (b3.trans b4) (hst4.le (by omega))
      | some m =>
        intro tt fa kv H4 b4 hst4 htt hfa hpts
        have hmm : m ∈ ms := by
          unfold findM at hf
          exact List.mem_of_find?_eq_some hf
        refine ⟨_, rfl, rfl, _, rfl, iteF ⟨_, rfl, tt, _, rfl, SqT.of htt, rfl, _, _, rfl, _, _, rfl, rfl, ?_⟩⟩
        have hst' := step_tight G hmm hk3
        refine ⟨_, rfl, _, rfl, fa, d', kv, m.fl, B, env', rfl, hfa, hpts, hd3.but hg b4, G.nB, by have := G.lB; omega, fun b hb => (G.fill hmm hb).1, fun b hb => ?_, fun d2 H5 s5 n5 e5 => ?_⟩
        · have := sum_le (mem_next (env := env') (fl := m.fl) hb)
          have this : (fillE env' (partsOf (fil m.fl b))).length ≤ _ := this
          omega
        · refine ⟨m.to, d2, nextE env' B m.fl, _, _, _, rfl, (b3.trans b4).trans (Same.but s5 g), (hst4.same s5).le (by omega), ?_, e5, nextE_keys _ _ _, by omega⟩
          rw [erun]
          unfold stepE
          rw [hf]
          rfl
    · rintro σ H3 ⟨c', d', env', v5, v6, v7, rfl, b3, hst3, hrun, hd3, hk3, hsum3⟩
      have lsz : (S t).cps.size = t.length := rfl
      rw [lsz] at hrun hsum3 hst3
      rw [List.take_length] at hrun
      rw [hrun] at q
      exact ⟨_, rfl, _, rfl, by show 2 ≤ sizeLine; decide, fun T' H4 s4 n4 e4 => q T' d' H4 (b3.trans (Same.but s4 g)) (hst3.same s4) e4 (hd3.same s4) hk3 hsum3⟩
def spStEndedG (CR CS C : Addr) : Sp := fun vs H Q _ => ∃ (s p g : Addr) (L B : List Nat) (places : List (List Nat)) (ms : List Mv) (es : Fil) (n : Nat), StAt CS C H s p g L B places ms es n ∧ PgOk B ms es ∧
  ((vs = [.ref s, .non] ∧ Q .non H) ∨ ∃ (T d : Addr) (c : List Nat) (env : Env), vs = [.ref s, .ref T] ∧ H T = some (.tup [.str (S c), .ref d]) ∧ EnvAt CR H d env ∧ env.map (·.1) = B ∧ (env.map (·.2.length)).sum + (4 * B.length + 3) ≤ 1000000 ∧
    match endE es c env with
    | none => ∀ H', Same H H' → Q .non H'
    | some x => ∀ v m H', Same H H' → RpV CR H' v x m → Q v H')
theorem ok_stEndedG {f CR CS C : Addr} {fd : FuncData} {k : Nat} (F : Fun K "ended" "Steps.ended" sStEnded f fd) (T : PrTxt K mg C) (U : StTxt K mg CS) (DE : Mth P w K mg base C (k + 1) "end" ["place"] (spEnd C)) (DR : Df P w K mg base (k + 5) "rope_of" ["ropes"] (spRopeOfG CR)) (DP : Df P w K mg base (k + 1) "parts_of" ["filling", "boxes"] spPartsOf) :
    FnOk P w K mg base CX0 (k + 6) f fd ["self", "state"] (spStEndedG CR CS C) := by
  refine F.ok scStEnded (fun vs H Q E h => ?_) (fun cdv A outer st H vs Q E hr h => ?_)
  · obtain ⟨s, p, g, L, B, places, ms, es, n, _, _, ⟨rfl, _⟩ | ⟨_, _, _, _, rfl, _⟩⟩ := h <;> rfl
  · obtain ⟨s, p, g, L, B, places, ms, es, n, hst, G, h⟩ := h
    have hu := hu_of hr
    refine ⟨_, pss_cons (ps_if (pt_cmpR op_isN (pv 1) pe_non (nomark _)) (pss_one (ps_ret pe_non)) pss_nil)
      (pss_cons (ps_asg (pv 1) (pg_tup rfl (pgs_cons (pg_name (i := 2) scStEnded.nd rfl (.inl rfl)) (pgs_cons (pg_name (i := 3) scStEnded.nd rfl (.inr rfl)) pgs_nil))))
      (pss_cons (ps_set (i := 4) scStEnded.nd rfl (.inl rfl) (pe_mth DE T.cl hr (pe_fld (pv 0) rfl) (pa_cons (pv 2) pa_nil)))
      (pss_cons (ps_if (pt_cmpR op_isN (pv 4) pe_non (nomark _)) (pss_one (ps_ret pe_non)) pss_nil)
      (pss_one (ps_ret (pe_df DR hr (pa_cons (pe_lc (own := [("part", 5)]) (g := gName 5) (tt := tYes) (te := tDGet2 (tVar 3) (tVar 5) (tVar 5)) rfl scStEnded.nd (pi_list (pe_df DP hr (pa_cons (pv 4) (pa_cons (pe_fld (pv 0) rfl) pa_nil)))) (blkOk_by (own := [("part", 5)]) (N := nStEnded) (sc := defScope sStEnded) (by decide +kernel))
          (fun _ _ _ _ _ => pg_name (i := 5) scStEnded.nd rfl (.inl rfl)) (fun _ _ _ _ _ => pts_nil) (fun _ _ _ _ _ => pe_dget2 hu (pv 3) (pv 5) (pv 5) ⟨rfl, rfl, rfl, rfl⟩)) pa_nil))))))), ?_⟩
    rcases h with ⟨rfl, q⟩ | ⟨T', d, c, env, rfl, hT, hd, hk, hsum, q⟩
    · exact ⟨_, rfl, rfl, _, rfl, iteT q⟩
    obtain ⟨dxs, kvs, hs, hp, hg, hlen, hcache⟩ := id hst.ob
    obtain ⟨dx, pl, mv, en, kk, h1, h2, h3, h4, h5, hne⟩ := id hp.ob
    refine ⟨_, rfl, rfl, _, rfl, iteF ⟨_, rfl, T', _, rfl, SqT.of hT, rfl, _, _, rfl, _, _, rfl, rfl, ?_⟩⟩
    refine ⟨_, rfl, s, CS, dxs, _, _, rfl, hs, U.cl, U.nP, sf_p _ _ _, p, dx, _, rfl, h1, fl_no _ _ _ _ _ (by decide +kernel), _, rfl, p, c, L, B, places, ms, es, rfl, hp.at, ?_⟩
    unfold endE at q
    cases hg : getF es c with
    | none =>
      rw [hg] at q
      exact ⟨_, rfl, rfl, _, rfl, iteT (q H (fun _ _ e => e))⟩
    | some f =>
      rw [hg] at q
      have hen := G.en _ _ hg
      have het := end_tight G hg hk
      have heti := G.eti _ _ hg
      refine ⟨_, rfl, rfl, _, rfl, iteF ⟨_, rfl, _, rfl, s, CS, dxs, _, _, rfl, hs, U.cl, U.nB, sf_b _ _ _, f, B, rfl, hen.1, by have := G.lB; omega, G.nB, G.cB, G.esg _ _ hg, hen.2, fun pa H1 s1 n1 e1 => ?_⟩⟩
      obtain ⟨kr, hd2, henv⟩ := hd
      refine ⟨pa, rfl, ⟨_, SqL.of e1⟩, fun D2 nD2 => lc_pieces (CR := CR) (env := env) (ps := partsOf f) walk_list (by unfold txs; rw [List.length_map]) (fun i H x H' y => ⟨y.1, y.2⟩) (fun H' s' => SqL.of (s' _ _ e1)) nD2 ?_ ?_ ?_⟩
      · have h6 := parts_len f
        have h7 := hen.1
        have big : (10000 : Nat) < sizeLine := by decide
        omega
      · intro p' hp' H' R s' r
        obtain ⟨n', hpc⟩ := ((henv.same s1).same s').piece p'
        exact ⟨_, rfl, d, rfl, .inl ⟨_, .inl (s' _ _ (s1 _ _ hd2))⟩, _, rfl, _, rfl, _, DGet.k (k := Sum.inr (S p')) (s' _ _ (s1 _ _ hd2)), r _ n' hpc⟩
      · intro H' us s' e' hus
        exact ⟨D2, us, _, rfl, e', hus, by show (fillE env (partsOf f)).length ≤ 1000000; omega, fun v m H2 s2 hv => q v m H2 ((s1.trans s').trans s2) hv⟩
def spStToldG (CR CS C : Addr) : Sp := fun vs H Q _ => ∃ (s p g : Addr) (L B : List Nat) (places : List (List Nat)) (ms : List Mv) (es : Fil) (n : Nat), StAt CS C H s p g L B places ms es n ∧ PgOk B ms es ∧
  ((vs = [.ref s, .non] ∧ Q .non H) ∨ ∃ (T d : Addr) (c : List Nat) (env : Env), vs = [.ref s, .ref T] ∧ H T = some (.tup [.str (S c), .ref d]) ∧ EnvAt CR H d env ∧ env.map (·.1) = B ∧ (env.map (·.2.length)).sum + (4 * B.length + 3) ≤ 1000000 ∧
    ∀ H', Same H H' → Q (optV (endE es c env)) H')
theorem ok_stToldG {f CR CS C : Addr} {fd : FuncData} {k : Nat} (F : Fun K "told" "Steps.told" sStTold f fd) (U : StTxt K mg CS) (DE : Mth P w K mg base CS (k + 6) "ended" ["state"] (spStEndedG CR CS C)) (DW : Df P w K mg base (k + 2) "written" ["rope"] (spWrittenG CR)) : FnOk P w K mg base CX0 (k + 7) f fd ["self", "state"] (spStToldG CR CS C) := by
  refine F.ok scStTold (fun vs H Q E h => ?_) (fun cdv A outer st H vs Q E hr h => ?_)
  · obtain ⟨s, p, g, L, B, places, ms, es, n, _, _, ⟨rfl, _⟩ | ⟨_, _, _, _, rfl, _⟩⟩ := h <;> rfl
  · obtain ⟨s, p, g, L, B, places, ms, es, n, hst, G, h⟩ := h
    refine ⟨_, pss_cons (ps_set (i := 2) scStTold.nd rfl (.inl rfl) (pe_mth DE U.cl hr (pv 0) (pa_cons (pv 1) pa_nil)))
      (pss_one (ps_ret (pe_ifExp (pt_cmpR op_isN (pv 2) pe_non (nomark _)) pe_non (pe_df DW hr (pa_cons (pv 2) pa_nil))))), ?_⟩
    obtain ⟨dxs, kvs, hs, hp, hg, hlen, hcache⟩ := id hst.ob
    rcases h with ⟨rfl, q⟩ | ⟨T', d, c, env, rfl, hT, hd, hk, hsum, q⟩
    · exact ⟨_, rfl, s, dxs, _, rfl, hs, sf_no _ _ _ (by decide +kernel), _, rfl, s, p, g, L, B, places, ms, es, n, hst, G, .inl ⟨rfl, _, rfl, rfl, _, rfl, iteT q⟩⟩
    refine ⟨_, rfl, s, dxs, _, rfl, hs, sf_no _ _ _ (by decide +kernel), _, rfl, s, p, g, L, B, places, ms, es, n, hst, G, .inr ⟨T', d, c, env, rfl, hT, hd, hk, hsum, ?_⟩⟩
    have het : ∀ x, endE es c env = some x → x.length ≤ 1000000 := fun x e => by
      unfold endE at e
      cases hg : getF es c with
      | none => rw [hg] at e; cases e
      | some f =>
        rw [hg] at e
        have e : fillE env (partsOf f) = x := Option.some.inj e
        have h1 := end_tight G hg hk
        have h2 := G.eti _ _ hg
        rw [← e]
        omega
    cases e : endE es c env with
    | none =>
      rw [e] at q
      exact fun H1 s1 => ⟨_, rfl, rfl, _, rfl, iteT (q H1 s1)⟩
    | some x =>
      rw [e] at q
      intro v m H1 s1 hv
      have hx := het x e
      rcases hv.cases with ⟨rfl, rfl⟩ | ⟨r, dx, m', l, rt, us, ps, rfl, _⟩
      · exact ⟨_, rfl, rfl, _, rfl, iteF ⟨_, rfl, _, x, _, rfl, hv, hx, fun H2 s2 => q H2 (s1.trans s2)⟩⟩
      · exact ⟨_, rfl, rfl, _, rfl, iteF ⟨_, rfl, _, x, _, rfl, hv, hx, fun H2 s2 => q H2 (s1.trans s2)⟩⟩
def spToldG (C : Addr) : Sp := fun vs H Q _ => ∃ (p : Addr) (t L B pl0 : List Nat) (places : List (List Nat)) (ms : List Mv) (es : Fil), vs = [.ref p, .str (S t)] ∧ PrAt C H p L B (pl0 :: places) ms es ∧ PgOk B ms es ∧ (∀ c ∈ t, c ∈ L) ∧ t.length * (7 * B.length) + (4 * B.length + 3) ≤ 1000000 ∧ t.length ≤ 100000 ∧ ∀ H', Same H H' → Q (optV (toldE ms B es pl0 t)) H'
theorem ok_toldG {f CR CS C : Addr} {fd : FuncData} {k : Nat} (F : Fun K "told" "told" sTold f fd) (U : StTxt K mg CS) (DC : Df P w K mg base (k + 3) "check_text" ["program", "text"] (spCheck C)) (MS : MkS P w K mg base CS C (k + 3)) (D1 : Mth P w K mg base CS (k + 3) "first" [] (spStFirst CS C)) (D2 : Mth P w K mg base CS (k + 7) "behind" ["state", "text"] (spStBehindG CR CS C)) (D3 : Mth P w K mg base CS (k + 7) "told" ["state"] (spStToldG CR CS C)) :
    FnOk P w K mg base CX0 (k + 8) f fd ["program", "text"] (spToldG C) := by
  refine F.ok scTold (fun vs H Q E h => ?_) (fun cdv A outer st H vs Q E hr h => ?_)
  · obtain ⟨p, t, L, B, pl0, places, ms, es, rfl, _⟩ := h
    rfl
  · obtain ⟨p, t, L, B, pl0, places, ms, es, rfl, hp, G, htL, h500, h300, q⟩ := h
    refine ⟨_, pss_cons (ps_expr (pe_df DC hr (pa_cons (pv 0) (pa_cons (pv 1) pa_nil))))
      (pss_cons (ps_set (i := 2) scTold.nd rfl (.inl rfl) (pe_steps MS hr U.mgC (pa_cons (pv 0) pa_nil)))
      (pss_one (ps_ret (pe_mth D3 U.cl hr (pv 2) (pa_cons (pe_mth D2 U.cl hr (pv 2) (pa_cons (pe_mthZ D1 U.cl hr (pv 2)) (pa_cons (pv 1) pa_nil))) pa_nil))))), ?_⟩
    refine ⟨_, rfl, _, rfl, p, t, L, B, _, ms, es, rfl, hp, htL, ?_⟩
    refine ⟨_, rfl, p, L, B, _, ms, es, rfl, hp, fun s g H1 s1 ns ng hst => ?_⟩
    obtain ⟨dxs, kvs, hs, _, hg, _, _⟩ := id hst.ob
    refine ⟨_, rfl, s, dxs, _, rfl, hs, sf_no _ _ _ (by decide +kernel), ?_⟩
    refine ⟨_, rfl, s, dxs, _, rfl, hs, sf_no _ _ _ (by decide +kernel), ?_⟩
    refine ⟨_, rfl, s, dxs, _, rfl, hs, sf_no _ _ _ (by decide +kernel), s, p, g, L, B, pl0, places, ms, es, 0, rfl, hst, G, fun T d H2 s2 nd eT ed => ?_⟩
    refine ⟨_, rfl, s, p, g, L, B, _, ms, es, 0, t, hst.same s2, G, by omega, .inr ⟨T, d, pl0, _, rfl, eT, EnvAt.ofK ed, start_keys B, by rw [start_sum]; omega, ?_⟩⟩
    unfold toldE at q
    have fr : ∀ {H3 : Hp}, But g H2 H3 → Same H H3 := fun b3 b o eb => b3 b o (s2 _ _ (s1 _ _ eb)) (ne_of_none eb ng)
    cases hrun : runE ms B (pl0, B.map fun b => (b, [])) t with
    | none =>
      rw [hrun] at q
      intro H3 b3 hst3
      exact ⟨s, p, g, L, B, _, ms, es, _, hst3, G, .inl ⟨rfl, q H3 (fr b3)⟩⟩
    | some z =>
      rw [hrun] at q
      intro T' d' H3 b3 hst3 eT' ed' hk hsum
      rw [start_sum] at hsum
      exact ⟨s, p, g, L, B, _, ms, es, _, hst3, G, .inr ⟨T', d', z.1, z.2, rfl, eT', ed', hk, by omega, fun H4 s4 => q H4 (fun b o eb => s4 _ _ (fr b3 b o eb))⟩⟩
end
end Tb

set_option Elab.async false
set_option linter.all false
set_option maxRecDepth 100000
set_option maxHeartbeats 4000000
/-! {k: v for ..} whose keys are tuples; d.setdefault(t, v), t a tuple -/
namespace Tb
open PySem PySem.Spec PyProof.Rows L2 TL
/-- one pair more in a dict with tuples as keys -/
theorem more_T {X : Cx} {pins : List (Addr × Obj)} {σ : L2.St} {H : Hp} {s : Shared} {err : Value → Shared → Prop} {D b : Addr} {kvs : List (List Key × V)} {k : List Key} {z : V} {r : Value} {Q : Unit → Shared → Prop} (hu : X.A.units < cLine) (I : Inv X pins σ H s)
    (hD : H D = some (.dT kvs)) (hb : H b = some (.tup (k.map kV))) (hl : kvs.length < sizeLine) (rz : RelV z r) (q : ∀ s', Inv X pins σ (upd H D (.dT (putK kvs k z))) s' → Q () s') : wpAny (model X.prog X.w) X.A (dictSet D (.ref b) r) Q err s := by
  obtain ⟨l1, sm, xs, rel, dd⟩ := dt_of I.hok hD
  have l2 : xs.length ≤ sizeLine := Paired.length rel ▸ l1
  have l3 : (putK kvs k z).length ≤ sizeLine := Nat.le_trans (length_putK kvs k z) hl
  refine wpAny_dictSet_heap (hsz := l2) hu (key_of I.hok hb) dd fun h' ⟨o, es, ep, p1, p2, p3, p4, _, p5⟩ bs => q _ ?_
  refine d_write I (by rw [hD]; exact True.intro) bs ⟨o, p1⟩ ⟨l3, sm, _, (rel.put k hb rz).keeps fun c ys ec => ?_, o, es, ep, p1, p2, p3, p4, p5⟩
  rwa [upd_ne (ne_of ec hD nofun)]
section
variable {X : Cx}
def tDcT (wi : TI) (g : TG) (tt : TT) (tk tv : TE) (vs : List Nat) : TE := fun σ H Q => wi σ H fun J H1 => ∀ D, H1 D = none → ∃ W : Nat → Nat → Hp → Prop, (∃ m, W 0 m (upd H1 D (.dT []))) ∧ ∀ i m H, W i m H →
  (J.stop i H ∧ Q (.ref D) H) ∨ (J.go i H ∧ ∃ Nx : Hp → Prop, (∀ H', Nx H' → ∃ m', m' < m ∧ W (i + 1) m' H') ∧ ∀ x H', J.yld i H x H' → g x (wipe σ vs) H' fun σ2 H2 => wipe σ2 vs = wipe σ vs ∧ tt σ2 H2 fun b H3 =>
    if b = true then tk σ2 H3 fun y H4 => tv σ2 H4 fun z H5 => ∃ kvs k kt, y = .ref kt ∧ H5 kt = some (.tup (k.map kV)) ∧ H5 D = some (.dT kvs) ∧ kvs.length < sizeLine ∧ Nx (upd H5 D (.dT (putK kvs k z))) else Nx H3)
/-- what a block's parts are, for every state in which it may start -/
structure Blk (X : Cx) (scope : Scope) (tg : Expr) (ifs : List Expr) (kx vx : Expr) (g : TG) (tt : TT) (tk tv : TE) : Prop where
  pg : ∀ s H C cl fp, PG (X.blk s H scope (compEnvC scope cl C X.env) fp) tg g
  pt : ∀ s H C cl fp, PTs (X.blk s H scope (compEnvC scope cl C X.env) fp) ifs tt
  pk : ∀ s H C cl fp, PE (X.blk s H scope (compEnvC scope cl C X.env) fp) kx tk
  pv : ∀ s H C cl fp, PE (X.blk s H scope (compEnvC scope cl C X.env) fp) vx tv
theorem dcT_run {pins : List (Addr × Obj)} {s : Shared} {σ : L2.St} {H : Hp} {Q : VK} {kx vx tg iter : Expr} {ifs : List Expr} {scope : Scope} {own : List (Str × Nat)} {p1 p2 : Pos} {wi : TI} {g : TG} {tt : TT} {tk tv : TE} {use : Option (Value → Sem Unit)} {Qf : Value → Shared → Prop}
    (hu : X.A.units < cLine) (calm : X.calm = true) (nd : X.N.Nodup) (I : Inv X pins σ H s) (pit : PI X tg iter wi) (ok : BlkOk X.N X.env.scope scope own) (B : Blk X scope tg ifs kx vx g tt tk tv) (fold : ∀ x, foldedSetIterable iter X.env x = pure x)
    (z : tDcT wi g tt tk tv (own.map (·.2)) σ H Q)
    (out : ∀ D C s' m H', Inv X pins σ H' s' → Q (.ref D) H' → s'.heap.Ns C m → FpOk X pins H' C → compPost (model X.prog X.w) X.A X.xe use Qf (.ref D) C (.ok .next) s') :
    wpAny (model X.prog X.w) X.A (comprehension (.DictComp kx vx [⟨tg, iter, ifs, 0⟩] scope p1) scope X.env p2 newDict false (eval iter X.env) use) Qf X.xe s := by
  have fr : ∀ y ∈ scope.names, y.2 = .free → ∃ c, X.env.cells.lookup y.1 = some c := fun y hy e => (ok.free y hy e).elim (fun k => I.ok.has _ (.inl k)) fun k => I.ok.has _ (.inr k)
  refine wpAny_comprehension_free (use := use) rfl fold (closure_ok fr) ok.kind (fun y hy e => by rw [ok.uniq y hy, e]) (thn (pit.run pins s σ H _ I z) fun _ _ it0 => thn it0 fun _ t ⟨it, fp, tn, J, Hi, ei, Ii, T, sti, fpi, zi⟩ => ?_)
  subst ei
  refine wpAny_newObj_type (newEnv_comp ?_)
  obtain ⟨D, eD⟩ : ∃ D, D = t.heap.objs.size := ⟨_, rfl⟩
  obtain ⟨W, ⟨m0, w0⟩, turn⟩ := zi D (Ii.hok.fresh (by rw [eD]; exact Nat.le_refl _))
  obtain ⟨u, eu⟩ : ∃ u : Shared, u = { t with heap := t.heap.push { cls := .type "dict", data := .dict #[] } } := ⟨_, rfl⟩
  have hpu : u.heap = t.heap.push { cls := .type "dict", data := .dict #[] } := by rw [eu]
  obtain ⟨Hd, eHd⟩ : ∃ Hd, Hd = upd Hi D (.dT []) := ⟨_, rfl⟩
  have Iu : Inv X pins σ Hd u := by
    rw [eu, eHd, eD]
    exact Ii.laid (t' := t.toks) (fun b o e => Heap.get?_push_of_some _ e) (Nat.le_refl _) (dt_empty t.heap Ii.big)
  have fpu : ∀ b ∈ fp, FpOk X pins Hd b ∧ b < u.heap.objs.size := fun b hb => by
    obtain ⟨o, eo, _⟩ := T.obj _ _ sti b hb
    have lt := Heap.lt_size eo
    refine ⟨⟨?_, (fpi b hb).2⟩, by rw [hpu, Heap.size_push]; exact Nat.lt_succ_of_lt lt⟩
    rw [eHd, upd_ne (show b ≠ D by rw [eD]; exact Nat.ne_of_lt lt)]
    exact (fpi b hb).1
  have stu : tn 0 u.heap := T.keep _ _ _ sti fun b _ o e => by rw [hpu]; exact Heap.get?_push_of_some _ e
  have Ib := block_start Iu ok nd fpu
  obtain ⟨C, eC⟩ : ∃ C, C = u.heap.objs.size := ⟨_, rfl⟩
  obtain ⟨ce, ece⟩ : ∃ ce, ce = compEnvC scope (cellsFrom (u.heap.objs.size + 1) scope.names (cloFrom X.env.cells scope.names [])) u.heap.objs.size X.env := ⟨_, rfl⟩
  have locC : ce.locals = C := by rw [ece, eC]; rfl
  have bg := B.pg u Hd u.heap.objs.size (cellsFrom (u.heap.objs.size + 1) scope.names (cloFrom X.env.cells scope.names [])) fp
  have bt := B.pt u Hd u.heap.objs.size (cellsFrom (u.heap.objs.size + 1) scope.names (cloFrom X.env.cells scope.names [])) fp
  have bk := B.pk u Hd u.heap.objs.size (cellsFrom (u.heap.objs.size + 1) scope.names (cloFrom X.env.cells scope.names [])) fp
  have bv := B.pv u Hd u.heap.objs.size (cellsFrom (u.heap.objs.size + 1) scope.names (cloFrom X.env.cells scope.names [])) fp
  rw [← ece] at Ib bg bt bk bv
  obtain ⟨s4, es4⟩ : ∃ s4 : Shared, s4 = { u with heap := pushCells (u.heap.push { cls := .type "dict", data := .dict #[] }) scope.names } := ⟨_, rfl⟩
  rw [← es4] at Ib
  have goal : codeAny (model X.prog X.w) X.A (.compStart (.DictComp kx vx [⟨tg, iter, ifs, 0⟩] scope p1) 0 (.ref it) (.ref D) ce) (compPost (model X.prog X.w) X.A X.xe use Qf (.ref D) C) s4 := by
    have st4 : tn 0 s4.heap := T.keep _ _ _ stu fun b _ o e => by rw [es4]; exact pushCells_keeps _ _ _ _ (Heap.get?_push_of_some _ e)
    have nofp : ∀ b ∈ fp, Hd b = none := fun b hb => (fpu b hb).1.1
    rw [← eHd] at w0
    have still : ∀ {σ' : L2.St} {H' : Hp} {s' : Shared}, Inv (X.blk u Hd scope ce fp) [] σ' H' s' → (∀ b ∈ fp, H' b = none) → ∀ b ∈ fp, FpOk (X.blk u Hd scope ce fp) [] H' b := fun {_ _ _} J' hn b hb =>
      ⟨hn b hb, (J'.ok.exf b hb).1, J'.ok.exfs b hb, .inl hb, fun x c e => (J'.ok.exf b hb).2 x c e, fun p hp => (List.not_mem_nil (show p ∈ ([] : List (Addr × Obj)) from hp)).elim⟩
    have lp : codeAny (model X.prog X.w) X.A (.compLoop (.DictComp kx vx [⟨tg, iter, ifs, 0⟩] scope p1) 0 (.ref it) (.ref D) ce) (compPost (model X.prog X.w) X.A X.xe use Qf (.ref D) C) s4 := by
      refine compLoop_anyD (fun m s' => ∃ i H', Inv (X.blk u Hd scope ce fp) [] (wipe σ (own.map (·.2))) H' s' ∧ tn i s'.heap ∧ (∀ b ∈ fp, H' b = none) ∧ W i m H') ?_ m0 ⟨0, Hd, Ib, st4, nofp, w0⟩
      rintro m s5 ⟨i, H5, I5, st5, n5, w5⟩
      cases turn i m H5 w5 with
      | inl fin =>
        refine thnF (T.done (X.blk u Hd scope ce fp) rfl rfl rfl calm i [] s5 _ H5 (fun _ _ => False) I5 (still I5 n5) st5 fin.1) fun r s6 ⟨er, I6⟩ => ?_
        subst er
        have back : Inv X pins σ H5 s6 := Iu.call' (ch := fp) I6.os I6.base I6.hok I6.bare fun b hb => by
          obtain ⟨q1, _⟩ := fpu b hb
          exact ⟨q1.2.2.2.1, q1.2.1, q1.2.2.2.2.1, q1.2.2.2.2.2⟩
        obtain ⟨mm, hns, _⟩ := I6.loc
        have hns' : s6.heap.Ns C mm := locC ▸ hns
        have gone : H5 C = none := locC ▸ (show H5 ce.locals = none from I6.free)
        exact out D C s6 mm H5 back fin.2 hns' (eC ▸ Iu.fpOk (Nat.le_refl _) (eC ▸ gone))
      | inr more =>
        obtain ⟨go, Nx, hNx, step⟩ := more
        refine thnF (T.item (X.blk u Hd scope ce fp) rfl rfl rfl calm i [] s5 _ H5 (fun _ _ => False) I5 (still I5 n5) st5 go) fun r s6 ⟨v, er, h6⟩ => ?_
        subst er
        refine thnF h6 fun _ s7 ⟨x, H7, I7, r7, y7, st7, n7⟩ => ?_
        have I7p := I7.pinned (still I7 n7) (T.obj _ _ st7)
        refine thnF (bg.run _ s7 _ H7 x v _ I7p r7 (step x H7 y7)) fun _ s8 ⟨σ8, H8, I8, ew, q8⟩ => thnF (bt.run _ s8 σ8 H8 _ I8 q8) fun b s9 ⟨H9, I9, q9⟩ => ?_
        have next : ∀ {s' : Shared} {H' : Hp}, Inv (X.blk u Hd scope ce fp) ([] ++ pinsAt fp s7.heap) σ8 H' s' → Nx H' → ∃ m', m' < m ∧ ∃ i' H'', Inv (X.blk u Hd scope ce fp) [] (wipe σ (own.map (·.2))) H'' s' ∧ tn i' s'.heap ∧ (∀ b ∈ fp, H'' b = none) ∧ W i' m' H'' := fun {s' H'} J' nx => by
          obtain ⟨m', lt, w'⟩ := hNx H' nx
          have pinned : ∀ b ∈ fp, ∀ o, s7.heap.get? b = some o → s'.heap.get? b = some o ∧ H' b = none := fun b hb o e => by
            have z := J'.pin (b, o) (List.mem_append_right _ (List.mem_append_right _ (mem_pinsAt hb e)))
            exact ⟨z.1, z.2.1⟩
          refine ⟨m', lt, i + 1, H', (J'.unpinned (pins := [])).weak (by rw [← ew, wipe_length]) (fun j vv e => by rw [← ew] at e; exact (wipe_some e).1), T.keep _ _ _ st7 fun b hb o e => (pinned b hb o e).1, fun b hb => ?_, w'⟩
          obtain ⟨o, e, _⟩ := T.obj _ _ st7 b hb
          exact (pinned b hb o e).2
        cases b with
        | false => exact next I9 (by simpa using q9)
        | true =>
          simp only [if_true] at q9 ⊢
          refine thnF (bk.run _ s9 σ8 H9 _ I9 q9) fun kv s10 ⟨yk, H10, I10, r10, q10⟩ => thnF (bv.run _ s10 σ8 H10 _ I10 q10) fun vv s11 ⟨yv, H11, I11, r11, kvs, k, kt, ek, hkt, hD, hl, nx⟩ => ?_
          subst ek
          obtain rfl : kv = Value.ref kt := r10
          exact more_T (X := X.blk u Hd scope ce fp) hu I11 hD hkt hl r11 fun s12 I12 => next I12 nx
    exact codeAny_compStart_dict lp (T.self X.A 0 _ _ _ st4 lp)
  rw [es4, ece, eC, eD] at goal
  rw [eu] at goal
  exact goal
/-- {k: v for ..} as a value -/
theorem pe_dcT {kx vx tg iter : Expr} {ifs : List Expr} {scope : Scope} {own : List (Str × Nat)} {pos : Pos} {wi : TI} {g : TG} {tt : TT} {tk tv : TE} (hu : X.A.units < cLine) (calm : X.calm = true) (nd : X.N.Nodup) (pit : PI X tg iter wi) (ok : BlkOk X.N X.env.scope scope own)
    (B : Blk X scope tg ifs kx vx g tt tk tv) (fold : ∀ x, foldedSetIterable iter X.env x = pure x := by intro _; rfl) : PE X (.DictComp kx vx [⟨tg, iter, ifs, 0⟩] scope pos) (tDcT wi g tt tk tv (own.map (·.2))) :=
  ⟨fun pins s σ H Q I z => by
    rw [arm_eval_DictComp]
    refine dcT_run hu calm nd I pit ok B fold z fun D C s' m H' J q hn ⟨f0, f1, f2, f3, f4, f5⟩ => ⟨m, hn, fun h2 sb => ?_⟩
    exact ⟨.ref D, H', J.turned (t' := s'.toks) (fun b o hb e => (sb.2 b hb).trans e) f0 f1 f3 f4 f5, rfl, q⟩⟩
/-- y = {k: v for ..}, y a local of a def -/
theorem ps_setDcT {i : Nat} {y : Str} {py : Pos} {kx vx tg iter : Expr} {ifs : List Expr} {scope : Scope} {own : List (Str × Nat)} {pos spos : Pos} {wi : TI} {g : TG} {tt : TT} {tk tv : TE} (hu : X.A.units < cLine) (calm : X.calm = true) (nd : X.N.Nodup) (hy : X.N[i]? = some y)
    (hyl : X.env.scope.names.lookup y = some .local) (hsw : swapsWith (.DictComp kx vx [⟨tg, iter, ifs, 0⟩] scope pos) (some (.Name y py)) spos.line X.env = pure true) (pit : PI X tg iter wi) (ok : BlkOk X.N X.env.scope scope own)
    (B : Blk X scope tg ifs kx vx g tt tk tv) (fold : ∀ x, foldedSetIterable iter X.env x = pure x := by intro _; rfl) : PS X (.Assign [.Name y py] (.DictComp kx vx [⟨tg, iter, ifs, 0⟩] scope pos) spos) (tAsg (tDcT wi g tt tk tv (own.map (·.2))) (gName i)) :=
  ⟨fun pins s σ H D I z => by
    rw [exec_Assign_Name_used _ _ _ _ hsw]
    refine wpAny_bind (wpAny_standAt (wpAny_bind ?_))
    have z : tDcT wi g tt tk tv (own.map (·.2)) σ H (fun x H1 => gName i x σ H1 D.nx) := z
    show wpAny _ X.A (do let _ ← comprehension (.DictComp kx vx [⟨tg, iter, ifs, 0⟩] scope pos) scope X.env (firstIterPos [⟨tg, iter, ifs, 0⟩] pos) newDict false (eval iter X.env) (some (assign (.Name y py) X.env))) _ _ s
    refine wpAny_bind (thn (dcT_run (Qf := fun _ s' => SP X pins D .next s') hu calm nd I pit ok B fold z fun L C s' m H' J q hn fo => ?_) fun _ s' hq => wpAny_pure (wpAny_pure hq))
    show wpAny _ _ (assign (.Name y py) X.env (.ref L)) _ _ _
    refine wpAny_assign_Name (store_ok2 (v := V.ref L) J nd hy (.inl hyl) rfl (fun s2 J2 ⟨a, sb, ha⟩ => ?_) (.inr hyl))
    obtain ⟨g0, g1, g2, g3, g4, g5⟩ := fo
    have ne : C ≠ a := ha.elim (fun z => z ▸ g1) fun z e => g4 y a z e.symm
    refine ⟨m, hn.sameBut sb ne, fun h3 sb3 => ⟨_, H', J2.turned (t' := s2.toks) (fun b o hb e => (sb3.2 b hb).trans e) g0 g1 g3 g4 g5, q⟩⟩⟩
end
section
variable {tk tv : TE} {tt : TT} {g : TG} {vs : List Nat} {σ : L2.St} {H1 : Hp} {D : Addr} {Qd : Hp → Prop} {J : It} {n : Nat} {G : Hp → Prop} {Y : Nat → Hp → V → Hp → Prop}
theorem dcT_it (w : Walk J n G Y) (Pv : Nat → Hp → Prop) (h0 : Pv 0 (upd H1 D (.dT []))) (hG : ∀ i H, i ≤ n → Pv i H → G H)
    (hs : ∀ i x H H', i < n → Pv i H → Y i H x H' → g x (wipe σ vs) H' fun σ2 H2 => wipe σ2 vs = wipe σ vs ∧ tt σ2 H2 fun b H3 =>
      if b = true then tk σ2 H3 fun y H4 => tv σ2 H4 fun z H5 => ∃ kvs k kt, y = .ref kt ∧ H5 kt = some (.tup (k.map kV)) ∧ H5 D = some (.dT kvs) ∧ kvs.length < sizeLine ∧ Pv (i + 1) (upd H5 D (.dT (putK kvs k z))) else Pv (i + 1) H3) (hd : ∀ H, Pv n H → Qd H) :
    ∃ W : Nat → Nat → Hp → Prop, (∃ m, W 0 m (upd H1 D (.dT []))) ∧ ∀ i m H, W i m H →
      (J.stop i H ∧ Qd H) ∨ (J.go i H ∧ ∃ Nx : Hp → Prop, (∀ H', Nx H' → ∃ m', m' < m ∧ W (i + 1) m' H') ∧ ∀ x H', J.yld i H x H' → g x (wipe σ vs) H' fun σ2 H2 => wipe σ2 vs = wipe σ vs ∧ tt σ2 H2 fun b H3 =>
        if b = true then tk σ2 H3 fun y H4 => tv σ2 H4 fun z H5 => ∃ kvs k kt, y = .ref kt ∧ H5 kt = some (.tup (k.map kV)) ∧ H5 D = some (.dT kvs) ∧ kvs.length < sizeLine ∧ Nx (upd H5 D (.dT (putK kvs k z))) else Nx H3) := by
  refine ⟨fun i m H => m = n - i ∧ i ≤ n ∧ Pv i H, ⟨n, rfl, Nat.zero_le _, h0⟩, fun i m H ⟨em, hi, p⟩ => ?_⟩
  subst em
  rcases Nat.lt_or_ge i n with hlt | hge
  · exact .inr ⟨w.goes i H hlt (hG i H hi p), Pv (i + 1), fun H' p' => ⟨n - (i + 1), by omega, rfl, hlt, p'⟩, fun x H' y => hs i x H H' hlt p (w.yields i H x H' hlt (hG i H hi p) y)⟩
  · obtain rfl : i = n := Nat.le_antisymm hi hge
    exact .inl ⟨w.stops H (hG i H hi p), hd H p⟩
end
/-! ### d.setdefault(t, v), t a tuple -/
section
variable {prog : Program} {w : World} {κ : Type} [DecidableEq κ]
theorem meets_sdT (knd : HeapKind prog w κ) {k : κ} {d a : Addr} (hd : (d == sysModules) = false) (v : Value) :
    MeetsIn prog w (Builtin.«dict.setdefault» ⟨[.ref d, .ref a, v], []⟩) (fun A R s => knd.room A.in1 ∧ knd.is s.heap k a ∧ ∃ xs, s.heap.DictOfH knd d xs ∧ xs.length ≤ sizeLine ∧ (∀ p, atKey xs k = some p → R (.ok (.ret p.2)) { s with toks := s.toks + knd.draws k }) ∧
      (atKey xs k = none → ∀ h', h'.DictOfH knd d (storedH xs k a v) → Heap.SameBut d s.heap h' → R (.ok (.ret v)) { s with heap := h', toks := s.toks + knd.draws k })) :=
  .of_wp fun A R s ⟨hr, hk, xs, dd, hz, h1, h2⟩ => by
    unfold Builtin.«dict.setdefault»
    refine wpAny_bind ?_
    unfold Builtin.Dict.keyAndDefault
    refine wpAny_bind (wpAny_notOrdered_dict dd.typeIs ?_)
    show wpAny _ _ (pure (d, Value.ref a, some v)) _ _ s
    refine wpAny_pure ?_
    show wpAny _ _ (if (d == sysModules) = true then _ else (dictSetDefault d (.ref a) v >>= _)) _ _ s
    rw [if_neg (by rw [hd]; exact Bool.false_ne_true)]
    exact wpAny_bind (wpAny_dictSetDefault_heap (hsz := hz) hr hk dd (fun p hp => wpAny_pure ⟨p.2, rfl, h1 p hp⟩) fun hn h' dd' bs => wpAny_pure ⟨v, rfl, h2 hn h' dd' bs⟩)
end
section
variable {X : Cx} {o e f : Expr} {td ty tx : TE} {apos cpos : Pos}
def tSdT (td ty tx : TE) : TE := fun σ H Q => td σ H fun x H1 => ∃ a, x = .ref a ∧ (∃ ks, H1 a = some (.dT ks)) ∧ ty σ H1 fun y H2 => tx σ H2 fun z H3 => ∃ kvs k kt, H3 a = some (.dT kvs) ∧ y = .ref kt ∧ H3 kt = some (.tup (k.map kV)) ∧ kvs.length < sizeLine ∧
  (∀ v, valV kvs k = some v → Q v H3) ∧ (valV kvs k = none → Q z (upd H3 a (.dT (putK kvs k z))))
theorem pe_sdT (hu : X.A.units + 1 < cLine) (ho : PE X o td) (he : PE X e ty) (hf : PE X f tx) (m : M2 X o "setdefault" apos e f cpos) : PE X (.Call (.Attribute o "setdefault" apos) [e, f] [] cpos) (tSdT td ty tx) :=
  ⟨fun pins s σ H Q I z => by
    refine wpAny_Call_method m.base m.few m.line PySem.F.plainAttrs_dict PySem.F.slot_dict_setdefault PySem.F.type_dict_setdefault (thn (ho.run pins s σ H _ I z) fun u s1 ⟨x, H1, I1, rx, a, ex, ⟨ks, hks⟩, z1⟩ => ?_)
    subst ex
    obtain rfl : u = Value.ref a := rx
    obtain ⟨t1, t2, _⟩ := isD_at I1 (.inr ⟨ks, .inl hks⟩)
    refine ⟨t1, t2, ?_⟩
    rw [m.trees]
    refine Calls.callWith_builtin rfl (Calls.evalArgs_plain (Calls.spliced_cons (thn (he.run pins s1 σ H1 _ I1 z1) fun kv s2 ⟨y, H2, I2, ry, z2⟩ =>
      Calls.spliced_cons (thn (hf.run pins s2 σ H2 _ I2 z2) fun vv s3 ⟨vz, H3, I3, rz, kvs, k, kt, ha, ey, hkt, hl, q1, q2⟩ => Calls.spliced_nil ?_))))
    subst ey
    obtain rfl : kv = Value.ref kt := ry
    obtain ⟨l1, sm, xs, rel, dd⟩ := dt_of I3.hok ha
    have l2 : xs.length ≤ sizeLine := Paired.length rel ▸ l1
    refine call_meetsIn PySem.F.slot_dict_setdefault dd.typeIs PySem.F.entry_dict_setdefault (PySem.F.args_dict_setdefault_3 _ _ _) (meets_sdT (tupleKind (mixKind X.prog X.w)) (k := k) (a := kt) sm vv) ⟨hu, key_of I3.hok hkt, xs, dd, l2, fun p hp => ?_, fun hn h' dd' bs => ?_⟩
    · have rr := rel.val k
      rw [hp] at rr
      cases q0 : valV kvs k with
      | none => rw [q0] at rr; exact (show False from rr).elim
      | some v0 => rw [q0] at rr; exact ⟨v0, H3, I3.tok _, rr, q1 v0 q0⟩
    · have rr := rel.val k
      rw [hn] at rr
      cases q0 : valV kvs k with
      | some v0 => rw [q0] at rr; exact (show False from rr).elim
      | none =>
        have l3 : (putK kvs k vz).length ≤ sizeLine := Nat.le_trans (length_putK kvs k vz) hl
        obtain ⟨ob, es, ep, p1, p2, p3, p4, _, p5⟩ := dd'
        refine ⟨vz, upd H3 a (.dT (putK kvs k vz)), d_write (ob := .dT (putK kvs k vz)) (t' := s3.toks + (tupleKind (mixKind X.prog X.w)).draws k) I3 (by rw [ha]; exact True.intro) bs ⟨ob, p1⟩ ⟨l3, sm, _, (rel.put k hkt rz).keeps fun c ys ec => ?_, ob, es, ep, p1, p2, p3, p4, p5⟩, rz, q2 q0⟩
        rwa [upd_ne (ne_of ec ha nofun)]⟩
end
end Tb

set_option Elab.async false
set_option linter.all false
set_option maxRecDepth 100000
set_option maxHeartbeats 4000000
namespace Tb
open PySem PySem.Spec PyProof.Rows L2 TL
/-! ### the six known programs -/
abbrev sPlain : Stmt := topS 33
abbrev sBackward : Stmt := topS 34
abbrev sExch : Stmt := topS 35
abbrev sSorting : Stmt := topS 36
abbrev sHalving : Stmt := topS 37
abbrev sLate : Stmt := topS 38
def nOn : List Nat := [111, 110]
theorem st_on : Str.ofString "on" = S nOn := by decide +kernel
theorem st_X : Str.ofString "X" = S [88] := by decide +kernel
theorem st_Y : Str.ofString "Y" = S [89] := by decide +kernel
/-- the moves that stand in a dict that is being filled -/
def KmAt (H0 H : Hp) (D : Addr) (ms : List Mv) : Prop := ∃ kk, H D = some (.dT kk) ∧ Paired (MvNew H0 H) kk ms
theorem mvNew_keep {H0 H H' : Hp} {kv : List Key × V} {m : Mv} (k : ∀ b o, H b = some o → (∀ kvs, o ≠ .dT kvs) → H' b = some o) (h : MvNew H0 H kv m) : MvNew H0 H' kv m := by
  obtain ⟨e, t, d, a, b, c, n⟩ := h
  exact ⟨e, t, d, a, k _ _ b (by intro _ z; cases z), k _ _ c (by intro _ z; cases z), n⟩
theorem KmAt.same {H0 H H' : Hp} {D : Addr} {ms : List Mv} (s : Same H H') (h : KmAt H0 H D ms) : KmAt H0 H' D ms := by
  obtain ⟨kk, e, p⟩ := h
  exact ⟨kk, s _ _ e, Paired.mono (fun kv m z => mvNew_keep (fun b o e _ => s b o e) z) p⟩
theorem kmKeys {H0 H : Hp} : ∀ {kk : List (List Key × V)} {ms : List Mv}, Paired (MvNew H0 H) kk ms → kk.map (·.1) = ms.map Mv.key
  | _, _, .nil => rfl
  | _, _, .cons h t => by rw [List.map_cons, List.map_cons, h.1, kmKeys t]
/-- one more move under a key that was not there -/
theorem KmAt.put {H0 H : Hp} {D t d : Addr} {ms : List Mv} {m : Mv} (h : KmAt H0 H D ms) (hn : m.key ∉ ms.map Mv.key) (ht : H t = some (.tup [.str (S m.to), .ref d])) (hd : H d = some (.dK (fkv m.fl))) (nd : H0 d = none) :
    ∀ kk, H D = some (.dT kk) → KmAt H0 (upd H D (.dT (putK kk m.key (.ref t)))) D (ms ++ [m]) := by
  obtain ⟨kk, e, p⟩ := h
  intro kk' e'
  rw [e] at e'
  cases e'
  have kp : ∀ b o, H b = some o → (∀ kvs, o ≠ .dT kvs) → (upd H D (.dT (putK kk m.key (.ref t)))) b = some o := fun b o e1 no => by
    rw [upd_ne (ne_of e1 e (no _))]
    exact e1
  have hk : m.key ∉ kk.map (·.1) := by rw [kmKeys p]; exact hn
  refine ⟨_, upd_same, ?_⟩
  rw [putK_end _ hk]
  rw [putK_end _ hk] at kp
  exact (Paired.mono (fun kv m z => mvNew_keep kp z) p).snoc ⟨rfl, t, d, rfl, kp _ _ ht (by intro _ z; cases z), kp _ _ hd (by intro _ z; cases z), nd⟩
theorem low_of {cs : List Nat} (h : okLetters cs = true) : (∀ c ∈ cs, isLow c = true) ∧ 1 ≤ cs.length ∧ cs.length ≤ 5 ∧ cs.Nodup := by
  unfold okLetters at h
  simp only [Bool.and_eq_true, decide_eq_true_eq, List.all_eq_true] at h
  exact ⟨h.1, h.2.1, h.2.2.1, h.2.2.2⟩
def plP (cs : List Nat) : Pt := ⟨cs, [88], [nOn], cs.map fun a => ⟨nOn, a, nOn, [([88], [88, a])]⟩, [(nOn, [88])]⟩
def baP (cs : List Nat) : Pt := ⟨cs, [88], [nOn], cs.map fun a => ⟨nOn, a, nOn, [([88], [a, 88])]⟩, [(nOn, [88])]⟩
theorem caps_low {c : Nat} (h : isLow c = true) (r : List Nat) : caps (c :: r) = caps r := by
  unfold caps
  rw [List.filter_cons, h]
  rfl
theorem one_parts {cs : List Nat} (h : okLetters cs = true) {f : Nat → List Nat} (hf : ∀ a ∈ cs, caps (f a) = [88] ∧ (f a).length ≤ 1000) : PartsQ ⟨cs, [88], [nOn], cs.map fun a => ⟨nOn, a, nOn, [([88], f a)]⟩, [(nOn, [88])]⟩ := by
  obtain ⟨h1, h2, h3, h4⟩ := low_of h
  have k1 : okBoxes [88] = true := by decide +kernel
  have k2 : okPlaces [nOn] = true := by decide +kernel
  have k3 : (([(nOn, [88])] : List (List Nat × List Nat)).map (·.1)).Nodup := by decide +kernel
  refine ⟨h, k1, k2, ?_, fun m hm => ?_, k3, fun q hq => ?_⟩
  · show ((cs.map fun a => (⟨nOn, a, nOn, [([88], f a)]⟩ : Mv)).map fun m => (m.pl, m.lt)).Nodup
    rw [List.map_map]
    exact List.Pairwise.map _ (fun a b hab z => hab (by injection z)) h4
  · obtain ⟨a, ha, rfl⟩ := List.mem_map.mp hm
    obtain ⟨g1, g2⟩ := hf a ha
    refine ⟨List.mem_singleton.mpr rfl, ha, List.mem_singleton.mpr rfl, ⟨by simp, ?_, by simpa using g2⟩⟩
    unfold okFils okKeys
    rw [Bool.and_eq_true]
    refine ⟨(show (([[88]] : List (List Nat)).all fun c => decide (c ∈ ([88] : List Nat).map fun b => [b])) = true by decide +kernel), isFill_iff.mpr ?_⟩
    have : ([([88], f a)].map (·.2)).flatten = f a := by simp
    show (caps ([(([88] : List Nat), f a)].map (·.2)).flatten).Nodup ∧ _
    rw [this, g1]
    exact ⟨List.pairwise_singleton _ _, fun c hc => hc⟩
  · rw [List.mem_singleton.mp hq]
    exact ⟨List.mem_singleton.mpr rfl, (by decide +kernel : isFill [88] [88] = true), (by decide : ([88] : List Nat).length ≤ 1000)⟩
theorem plP_parts {cs : List Nat} (h : okLetters cs = true) : PartsQ (plP cs) := one_parts h fun a ha => ⟨by
  have := (low_of h).1 a ha
  show caps [88, a] = [88]
  unfold caps
  rw [List.filter_cons, List.filter_cons, this]
  rfl, by show 2 ≤ 1000; decide⟩
theorem baP_parts {cs : List Nat} (h : okLetters cs = true) : PartsQ (baP cs) := one_parts h fun a ha => ⟨by
  have := (low_of h).1 a ha
  show caps [a, 88] = [88]
  rw [caps_low this]
  rfl, by show 2 ≤ 1000; decide⟩
section
variable {P : Program} {w : World} {K : PySem.W.Frag} {mg : Str → Option Value} {base : Heap}
abbrev nPlain : List Str := ["letters", "moves", "letter"]
theorem scPlain : FnScope nPlain ["letters"] (defScope sPlain) := ⟨rfl, rfl, rfl, by decide +kernel, rfl, by decide +kernel, by decide +kernel⟩
def spKnown1 (C : Addr) (pt : List Nat → Pt) : Sp := fun vs H Q _ => ∃ cs : List Nat, vs = [.str (S cs)] ∧ okLetters cs = true ∧ ∀ p H', Same H H' → H p = none → PrNew C H H' p (sortN (pt cs).letters) (sortN (pt cs).boxes) (pt cs).places ((pt cs).moves.map keptM) (pt cs).ends → Q (.ref p) H'
theorem ok_plain {f C : Addr} {fd : FuncData} {k : Nat} (F : Fun K "plain" "plain" sPlain f fd) (T : PrTxt K mg C) (DK : Mkr P w K mg base C k) : FnOk P w K mg base CX0 (k + 2) f fd ["letters"] (spKnown1 C plP) := by
  refine F.ok scPlain (fun vs H Q E h => ?_) (fun cdv A outer s H vs Q E hr h => ?_)
  · obtain ⟨cs, rfl, _⟩ := h
    rfl
  · obtain ⟨cs, rfl, hc, q⟩ := h
    have hu := hu_of hr
    have hu0 := Nat.lt_of_succ_lt hu
    refine ⟨_, pss_cons (ps_setDcT (i := 1) (own := [("letter", 2)]) (g := gName 2) (tt := tYes) (tk := tTupS (tCons (tC (.str "on")) (tCons (tVar 2) tNil))) (tv := tTupS (tCons (tC (.str "on")) (tCons (tDisp [(tC (.str "X"), tOp (fun x y H Q => ∃ i j, x = .str i ∧ y = .str j ∧ i.length + j.length ≤ sizeLine ∧ Q (.str (i ++ j)) H) (tC (.str "X")) (tVar 2))]) tNil))) hu0 rfl scPlain.nd rfl rfl (sw_trueD rfl rfl rfl (by decide +kernel)) (pi_str (pv 0))
          (blkOk_by (own := [("letter", 2)]) (N := nPlain) (sc := defScope sPlain) (by decide +kernel)) ⟨fun _ _ _ _ _ => pg_name (i := 2) scPlain.nd rfl (.inl rfl), fun _ _ _ _ _ => pts_nil, fun _ _ _ _ _ => pe_tupS (pa_cons pe_str (pa_cons (pv 2) pa_nil)), fun _ _ _ _ _ => pe_tupS (pa_cons pe_str (pa_cons (pe_disp (pps_cons pe_str (pe_op op_add_str pe_str (pv 2)) pps_nil) rfl rfl (by simp) (by show 1 ≤ 15; decide)) pa_nil))⟩)
      (pss_one (ps_ret (pe_prog DK hr T.mgC (pa_cons (pv 0) (pa_cons pe_str (pa_cons (pe_lstS (pa_cons pe_str pa_nil)) (pa_cons (pv 1) (pa_cons (pe_disp (pps_cons pe_str pe_str pps_nil) rfl rfl (by simp) (by show 1 ≤ 15; decide)) pa_nil)))))))), ?_⟩
    obtain ⟨c1, c2, c3, c4⟩ := low_of hc
    have big : (10000 : Nat) < sizeLine := by decide
    refine ⟨_, rfl, S cs, rfl, fun D nD => ?_⟩
    refine dcT_it walk_str (fun i H' => Same H H' ∧ KmAt H H' D ((cs.take i).map fun a => (⟨nOn, a, nOn, [([88], [88, a])]⟩ : Mv))) ⟨same_upd nD, [], upd_same, .nil⟩ (fun _ _ _ _ => trivial) ?_ ?_
    · rintro i x H2 H2' hi ⟨s2, hkm⟩ ⟨rfl, a, ha, rfl⟩
      have ha' : cs[i]? = some a := by
        rw [show (S cs).cps = cs.toArray from rfl, List.getElem?_toArray] at ha
        exact ha
      have et : cs.take (i + 1) = cs.take i ++ [a] := by
        rw [List.take_add_one, ha']
        rfl
      refine ⟨rfl, tYes_if ⟨_, rfl, by show 2 ≤ sizeLine; omega, fun kt H3 s3 n3 e3 => ?_⟩⟩
      intro Df nDf
      refine ⟨_, rfl, _, _, rfl, rfl, ?_, upd_same, fkv [([88], [88, a])], ?_, (by show 1 ≤ 15; decide), ?_⟩
      · rw [st_X, len_S]
        show 1 + 1 ≤ _
        omega
      · rw [st_X]
        rfl
      rw [merge_new _ [] (by show ([(Sum.inr (S [88]) : Key)]).Nodup; simp), List.nil_append]
      have sC : Same H3 (upd (upd H3 Df (.dK [])) Df (.dK (fkv [([88], [88, a])]))) := fun b o e => by
        rw [upd_ne (ne_of_none e nDf), upd_ne (ne_of_none e nDf)]
        exact e
      have eDf : (upd (upd H3 Df (.dK [])) Df (.dK (fkv [([88], [88, a])]))) Df = some (.dK (fkv [([88], [88, a])])) := upd_same
      generalize upd (upd H3 Df (.dK [])) Df (.dK (fkv [([88], [88, a])])) = H4 at sC eDf
      refine ⟨by show 2 ≤ sizeLine; omega, fun t H5 s5 n5 e5 => ?_⟩
      have s25 := (s3.trans sC).trans s5
      have hkm5 := hkm.same s25
      obtain ⟨kk, eD, hkk⟩ := id hkm5
      have hnew : (⟨nOn, a, nOn, [([88], [88, a])]⟩ : Mv).key ∉ ((cs.take i).map fun a => (⟨nOn, a, nOn, [([88], [88, a])]⟩ : Mv)).map Mv.key := fun z => by
        rw [List.map_map] at z
        obtain ⟨b, hb, e⟩ := List.mem_map.mp z
        have e : mkey nOn b = mkey nOn a := e
        have h6 : (cs.take (i + 1)).Nodup := (List.take_sublist _ _).nodup c4
        rw [et, List.nodup_append] at h6
        exact h6.2.2 b hb a (List.mem_singleton.mpr rfl) (mkey_inj e).2
      have hput := hkm5.put (m := ⟨nOn, a, nOn, [([88], [88, a])]⟩) hnew (t := t) (d := Df) (by rw [e5, st_on]) (s5 _ _ eDf) (s2.free (s3.free nDf)) kk eD
      refine ⟨kk, mkey nOn a, kt, rfl, ?_, eD, ?_, fun b o eb => ?_, ?_⟩
      · rw [s5 _ _ (sC _ _ e3), st_on]
        rfl
      · rw [Paired.length hkk, List.length_map, List.length_take]
        omega
      · rw [upd_ne (ne_of_none eb nD)]
        exact s25 _ _ (s2 _ _ eb)
      · rw [et, List.map_append]
        exact hput
    rintro H2 ⟨s2, hkm⟩
    rw [show (S cs).cps.size = cs.length from len_S _, List.take_length] at hkm
    refine ⟨_, rfl, by show 1 ≤ sizeLine; omega, fun La H3 s3 n3 e3 => ?_⟩
    refine ⟨_, rfl, ?_⟩
    intro De nDe
    refine ⟨upd_same, fkv [(nOn, [88])], ?_, by decide, ?_⟩
    · rw [st_on, st_X]
      rfl
    rw [merge_new _ [] (by show ([(Sum.inr (S nOn) : Key)]).Nodup; simp), List.nil_append]
    have sE : Same H3 (upd (upd H3 De (.dK [])) De (.dK (fkv [(nOn, [88])]))) := fun b o e => by
      rw [upd_ne (ne_of_none e nDe), upd_ne (ne_of_none e nDe)]
      exact e
    have eDe : (upd (upd H3 De (.dK [])) De (.dK (fkv [(nOn, [88])]))) De = some (.dK (fkv [(nOn, [88])])) := upd_same
    generalize upd (upd H3 De (.dK [])) De (.dK (fkv [(nOn, [88])])) = H4 at sE eDe
    have s24 := s3.trans sE
    obtain ⟨kk, eD, hkk⟩ := hkm.same s24
    refine ⟨La, D, De, plP cs, ?_, ⟨.inl (by rw [sE _ _ e3, st_on]; rfl), ⟨kk, eD, Paired.mono (fun kv m z => (MvNew.at z).to_in) hkk⟩, eDe⟩, plP_parts hc, fun p H5 s5 n5 hp => ?_⟩
    · rw [st_X]
      rfl
    · exact q p H5 ((s2.trans s24).trans s5) ((s2.trans s24).free n5) (hp.old fun x hx => (s2.trans s24).free hx)
end
end Tb

set_option Elab.async false
set_option linter.all false
set_option maxRecDepth 100000
set_option maxHeartbeats 4000000
namespace Tb
open PySem PySem.Spec PyProof.Rows L2 TL
section
variable {P : Program} {w : World} {K : PySem.W.Frag} {mg : Str → Option Value} {base : Heap}
abbrev nBackward : List Str := ["letters", "moves", "letter"]
theorem scBackward : FnScope nBackward ["letters"] (defScope sBackward) := ⟨rfl, rfl, rfl, by decide +kernel, rfl, by decide +kernel, by decide +kernel⟩
theorem ok_backward {f C : Addr} {fd : FuncData} {k : Nat} (F : Fun K "backward" "backward" sBackward f fd) (T : PrTxt K mg C) (DK : Mkr P w K mg base C k) : FnOk P w K mg base CX0 (k + 2) f fd ["letters"] (spKnown1 C baP) := by
  refine F.ok scBackward (fun vs H Q E h => ?_) (fun cdv A outer s H vs Q E hr h => ?_)
  · obtain ⟨cs, rfl, _⟩ := h
    rfl
  · obtain ⟨cs, rfl, hc, q⟩ := h
    have hu := hu_of hr
    have hu0 := Nat.lt_of_succ_lt hu
    refine ⟨_, pss_cons (ps_setDcT (i := 1) (own := [("letter", 2)]) (g := gName 2) (tt := tYes) (tk := tTupS (tCons (tC (.str "on")) (tCons (tVar 2) tNil))) (tv := tTupS (tCons (tC (.str "on")) (tCons (tDisp [(tC (.str "X"), tOp (fun x y H Q => ∃ i j, x = .str i ∧ y = .str j ∧ i.length + j.length ≤ sizeLine ∧ Q (.str (i ++ j)) H) (tVar 2) (tC (.str "X")))]) tNil))) hu0 rfl scBackward.nd rfl rfl (sw_trueD rfl rfl rfl (by decide +kernel)) (pi_str (pv 0))
          (blkOk_by (own := [("letter", 2)]) (N := nBackward) (sc := defScope sBackward) (by decide +kernel)) ⟨fun _ _ _ _ _ => pg_name (i := 2) scBackward.nd rfl (.inl rfl), fun _ _ _ _ _ => pts_nil, fun _ _ _ _ _ => pe_tupS (pa_cons pe_str (pa_cons (pv 2) pa_nil)), fun _ _ _ _ _ => pe_tupS (pa_cons pe_str (pa_cons (pe_disp (pps_cons pe_str (pe_op op_add_str (pv 2) pe_str) pps_nil) rfl rfl (by simp) (by show 1 ≤ 15; decide)) pa_nil))⟩)
      (pss_one (ps_ret (pe_prog DK hr T.mgC (pa_cons (pv 0) (pa_cons pe_str (pa_cons (pe_lstS (pa_cons pe_str pa_nil)) (pa_cons (pv 1) (pa_cons (pe_disp (pps_cons pe_str pe_str pps_nil) rfl rfl (by simp) (by show 1 ≤ 15; decide)) pa_nil)))))))), ?_⟩
    obtain ⟨c1, c2, c3, c4⟩ := low_of hc
    have big : (10000 : Nat) < sizeLine := by decide
    refine ⟨_, rfl, S cs, rfl, fun D nD => ?_⟩
    refine dcT_it walk_str (fun i H' => Same H H' ∧ KmAt H H' D ((cs.take i).map fun a => (⟨nOn, a, nOn, [([88], [a, 88])]⟩ : Mv))) ⟨same_upd nD, [], upd_same, .nil⟩ (fun _ _ _ _ => trivial) ?_ ?_
    · rintro i x H2 H2' hi ⟨s2, hkm⟩ ⟨rfl, a, ha, rfl⟩
      have ha' : cs[i]? = some a := by
        rw [show (S cs).cps = cs.toArray from rfl, List.getElem?_toArray] at ha
        exact ha
      have et : cs.take (i + 1) = cs.take i ++ [a] := by
        rw [List.take_add_one, ha']
        rfl
      refine ⟨rfl, tYes_if ⟨_, rfl, by show 2 ≤ sizeLine; omega, fun kt H3 s3 n3 e3 => ?_⟩⟩
      intro Df nDf
      refine ⟨_, rfl, _, _, rfl, rfl, ?_, upd_same, fkv [([88], [a, 88])], ?_, (by show 1 ≤ 15; decide), ?_⟩
      · rw [st_X, len_S]
        show 1 + 1 ≤ _
        omega
      · rw [st_X]
        rfl
      rw [merge_new _ [] (by show ([(Sum.inr (S [88]) : Key)]).Nodup; simp), List.nil_append]
      have sC : Same H3 (upd (upd H3 Df (.dK [])) Df (.dK (fkv [([88], [a, 88])]))) := fun b o e => by
        rw [upd_ne (ne_of_none e nDf), upd_ne (ne_of_none e nDf)]
        exact e
      have eDf : (upd (upd H3 Df (.dK [])) Df (.dK (fkv [([88], [a, 88])]))) Df = some (.dK (fkv [([88], [a, 88])])) := upd_same
      generalize upd (upd H3 Df (.dK [])) Df (.dK (fkv [([88], [a, 88])])) = H4 at sC eDf
      refine ⟨by show 2 ≤ sizeLine; omega, fun t H5 s5 n5 e5 => ?_⟩
      have s25 := (s3.trans sC).trans s5
      have hkm5 := hkm.same s25
      obtain ⟨kk, eD, hkk⟩ := id hkm5
      have hnew : (⟨nOn, a, nOn, [([88], [a, 88])]⟩ : Mv).key ∉ ((cs.take i).map fun a => (⟨nOn, a, nOn, [([88], [a, 88])]⟩ : Mv)).map Mv.key := fun z => by
        rw [List.map_map] at z
        obtain ⟨b, hb, e⟩ := List.mem_map.mp z
        have e : mkey nOn b = mkey nOn a := e
        have h6 : (cs.take (i + 1)).Nodup := (List.take_sublist _ _).nodup c4
        rw [et, List.nodup_append] at h6
        exact h6.2.2 b hb a (List.mem_singleton.mpr rfl) (mkey_inj e).2
      have hput := hkm5.put (m := ⟨nOn, a, nOn, [([88], [a, 88])]⟩) hnew (t := t) (d := Df) (by rw [e5, st_on]) (s5 _ _ eDf) (s2.free (s3.free nDf)) kk eD
      refine ⟨kk, mkey nOn a, kt, rfl, ?_, eD, ?_, fun b o eb => ?_, ?_⟩
      · rw [s5 _ _ (sC _ _ e3), st_on]
        rfl
      · rw [Paired.length hkk, List.length_map, List.length_take]
        omega
      · rw [upd_ne (ne_of_none eb nD)]
        exact s25 _ _ (s2 _ _ eb)
      · rw [et, List.map_append]
        exact hput
    rintro H2 ⟨s2, hkm⟩
    rw [show (S cs).cps.size = cs.length from len_S _, List.take_length] at hkm
    refine ⟨_, rfl, by show 1 ≤ sizeLine; omega, fun La H3 s3 n3 e3 => ?_⟩
    refine ⟨_, rfl, ?_⟩
    intro De nDe
    refine ⟨upd_same, fkv [(nOn, [88])], ?_, by decide, ?_⟩
    · rw [st_on, st_X]
      rfl
    rw [merge_new _ [] (by show ([(Sum.inr (S nOn) : Key)]).Nodup; simp), List.nil_append]
    have sE : Same H3 (upd (upd H3 De (.dK [])) De (.dK (fkv [(nOn, [88])]))) := fun b o e => by
      rw [upd_ne (ne_of_none e nDe), upd_ne (ne_of_none e nDe)]
      exact e
    have eDe : (upd (upd H3 De (.dK [])) De (.dK (fkv [(nOn, [88])]))) De = some (.dK (fkv [(nOn, [88])])) := upd_same
    generalize upd (upd H3 De (.dK [])) De (.dK (fkv [(nOn, [88])])) = H4 at sE eDe
    have s24 := s3.trans sE
    obtain ⟨kk, eD, hkk⟩ := hkm.same s24
    refine ⟨La, D, De, baP cs, ?_, ⟨.inl (by rw [sE _ _ e3, st_on]; rfl), ⟨kk, eD, Paired.mono (fun kv m z => (MvNew.at z).to_in) hkk⟩, eDe⟩, baP_parts hc, fun p H5 s5 n5 hp => ?_⟩
    · rw [st_X]
      rfl
    · exact q p H5 ((s2.trans s24).trans s5) ((s2.trans s24).free n5) (hp.old fun x hx => (s2.trans s24).free hx)
end
end Tb

set_option Elab.async false
set_option linter.all false
set_option maxRecDepth 100000
set_option maxHeartbeats 4000000
namespace Tb
open PySem PySem.Spec PyProof.Rows L2 TL
theorem paired_map2 {α β γ δ : Type} {R : α → β → Prop} {R' : γ → δ → Prop} {f : α → γ} {g : β → δ} (h : ∀ a b, R a b → R' (f a) (g b)) : ∀ {l : List α} {m : List β}, Paired R l m → Paired R' (l.map f) (m.map g)
  | _, _, .nil => .nil
  | _, _, .cons x t => .cons (h _ _ x) (paired_map2 h t)
/-- another move under a key that was there -/
theorem KmAt.over {H0 H : Hp} {D t d : Addr} {ms : List Mv} {m : Mv} (h : KmAt H0 H D ms) (hn : m.key ∈ ms.map Mv.key) (ht : H t = some (.tup [.str (S m.to), .ref d])) (hd : H d = some (.dK (fkv m.fl))) (nd : H0 d = none) :
    ∀ kk, H D = some (.dT kk) → KmAt H0 (upd H D (.dT (putK kk m.key (.ref t)))) D (ms.map fun x => if x.key = m.key then m else x) := by
  obtain ⟨kk, e, p⟩ := h
  intro kk' e'
  rw [e] at e'
  cases e'
  have kp : ∀ b o, H b = some o → (∀ kvs, o ≠ .dT kvs) → (upd H D (.dT (putK kk m.key (.ref t)))) b = some o := fun b o e1 no => by
    rw [upd_ne (ne_of e1 e (no _))]
    exact e1
  have hk : (kk.any fun kv => decide (kv.1 = m.key)) = true := by
    rw [← kmKeys p] at hn
    obtain ⟨kv, h1, h2⟩ := List.mem_map.mp hn
    exact List.any_eq_true.mpr ⟨kv, h1, decide_eq_true h2⟩
  refine ⟨_, upd_same, ?_⟩
  generalize upd H D (.dT (putK kk m.key (.ref t))) = H9 at kp ⊢
  unfold putK
  rw [if_pos hk]
  refine paired_map2 (fun kv x z => ?_) p
  have z1 := z.1
  by_cases h1 : kv.1 = m.key
  · rw [if_pos h1, if_pos (z1 ▸ h1)]
    exact ⟨h1, t, d, rfl, kp _ _ ht (by intro _ z; cases z), kp _ _ hd (by intro _ z; cases z), nd⟩
  · rw [if_neg h1, if_neg (z1 ▸ h1)]
    exact mvNew_keep kp z
/-- moves out of one place, letter for letter -/
def rowP (pl : List Nat) (to : Nat → List Nat) (f : Nat → Fil) (cs : List Nat) : List Mv := cs.map fun a => ⟨pl, a, to a, f a⟩
theorem rowP_keys (pl : List Nat) (to : Nat → List Nat) (f : Nat → Fil) (cs : List Nat) : (rowP pl to f cs).map Mv.key = cs.map (mkey pl) := by
  unfold rowP
  rw [List.map_map]
  rfl
theorem rowP_new {pl : List Nat} {to : Nat → List Nat} {f : Nat → Fil} {cs : List Nat} {i a : Nat} (h : cs[i]? = some a) (nd : cs.Nodup) : mkey pl a ∉ (rowP pl to f (cs.take i)).map Mv.key := fun z => by
  rw [rowP_keys] at z
  obtain ⟨b, hb, e⟩ := List.mem_map.mp z
  have et : cs.take (i + 1) = cs.take i ++ [a] := by
    rw [List.take_add_one, h]
    rfl
  have h6 : (cs.take (i + 1)).Nodup := (List.take_sublist _ _).nodup nd
  rw [et, List.nodup_append] at h6
  exact h6.2.2 b hb a (List.mem_singleton.mpr rfl) (mkey_inj e).2
theorem rowP_over {pl : List Nat} {to : Nat → List Nat} {f : Nat → Fil} {cs : List Nat} {s : Nat} {t : List Nat} {g : Fil} : ((rowP pl to f cs).map fun x => if x.key = mkey pl s then (⟨pl, s, t, g⟩ : Mv) else x) = rowP pl (fun a => if a = s then t else to a) (fun a => if a = s then g else f a) cs := by
  unfold rowP
  rw [List.map_map]
  refine List.map_congr_left fun a _ => ?_
  show (if mkey pl a = mkey pl s then (⟨pl, s, t, g⟩ : Mv) else ⟨pl, a, to a, f a⟩) = ⟨pl, a, if a = s then t else to a, if a = s then g else f a⟩
  by_cases e : a = s
  · subst e
    rw [if_pos rfl, if_pos rfl, if_pos rfl]
  · rw [if_neg fun z => e (mkey_inj z).2, if_neg e, if_neg e]
theorem st_XY : Str.ofString "XY" = S [88, 89] := by decide +kernel
/-! sorting -/
def fX (a : Nat) : Fil := [([88], [88]), ([89], [89, a])]
def fY (s : Nat) : Fil := [([88], [88, s]), ([89], [89])]
def srM (s : Nat) (cs : List Nat) : List Mv := rowP nOn (fun a => if a = s then nOn else nOn) (fun a => if a = s then fY s else fX a) cs
def srP (cs : List Nat) (s : Nat) : Pt := ⟨cs, [88, 89], [nOn], srM s cs, [(nOn, [88, 89])]⟩
theorem filX {a : Nat} (h : isLow a = true) : FilQ [88, 89] (fX a) := by
  have e : ((fX a).map (·.2)).flatten = [88, 89, a] := rfl
  refine ⟨(show ([[88], [89]] : List (List Nat)).Nodup by decide +kernel), ?_, ?_⟩
  · unfold okFils okKeys
    rw [Bool.and_eq_true, e]
    refine ⟨(show (([[88], [89]] : List (List Nat)).all fun c => decide (c ∈ ([88, 89] : List Nat).map fun b => [b])) = true by decide +kernel), isFill_iff.mpr ?_⟩
    have e2 : caps [88, 89, a] = [88, 89] := by
      unfold caps
      rw [List.filter_cons, List.filter_cons, List.filter_cons, h]
      rfl
    rw [e2]
    exact ⟨by decide, fun c hc => hc⟩
  · rw [e]
    show 3 ≤ 1000
    decide
theorem filY {s : Nat} (h : isLow s = true) : FilQ [88, 89] (fY s) := by
  have e : ((fY s).map (·.2)).flatten = [88, s, 89] := rfl
  refine ⟨(show ([[88], [89]] : List (List Nat)).Nodup by decide +kernel), ?_, ?_⟩
  · unfold okFils okKeys
    rw [Bool.and_eq_true, e]
    refine ⟨(show (([[88], [89]] : List (List Nat)).all fun c => decide (c ∈ ([88, 89] : List Nat).map fun b => [b])) = true by decide +kernel), isFill_iff.mpr ?_⟩
    have e2 : caps [88, s, 89] = [88, 89] := by
      unfold caps
      rw [List.filter_cons, List.filter_cons, List.filter_cons, h]
      rfl
    rw [e2]
    exact ⟨by decide, fun c hc => hc⟩
  · rw [e]
    show 3 ≤ 1000
    decide
theorem srP_parts {cs : List Nat} {s : Nat} (h : okLetters cs = true) (hs : s ∈ cs) : PartsQ (srP cs s) := by
  obtain ⟨h1, h2, h3, h4⟩ := low_of h
  have k1 : okBoxes [88, 89] = true := by decide +kernel
  have k2 : okPlaces [nOn] = true := by decide +kernel
  have k3 : (([(nOn, [88, 89])] : List (List Nat × List Nat)).map (·.1)).Nodup := by decide +kernel
  refine ⟨h, k1, k2, ?_, fun m hm => ?_, k3, fun q hq => ?_⟩
  · show ((srM s cs).map fun m : Mv => (m.pl, m.lt)).Nodup
    unfold srM rowP
    rw [List.map_map]
    exact List.Pairwise.map _ (fun a b hab z => hab (by injection z)) h4
  · obtain ⟨a, ha, rfl⟩ := List.mem_map.mp hm
    refine ⟨List.mem_singleton.mpr rfl, ha, List.mem_singleton.mpr (by show (if a = s then nOn else nOn) = nOn; split <;> rfl), ?_⟩
    show FilQ [88, 89] (if a = s then fY s else fX a)
    split
    · exact filY (h1 _ hs)
    · exact filX (h1 _ ha)
  · rw [List.mem_singleton.mp hq]
    exact ⟨List.mem_singleton.mpr rfl, (by decide +kernel : isFill [88, 89] [88, 89] = true), (by decide : ([88, 89] : List Nat).length ≤ 1000)⟩
section
variable {P : Program} {w : World} {K : PySem.W.Frag} {mg : Str → Option Value} {base : Heap}
abbrev nSorting : List Str := ["letters", "sign", "moves", "letter"]
theorem scSorting : FnScope nSorting ["letters", "sign"] (defScope sSorting) := ⟨rfl, rfl, rfl, by decide +kernel, rfl, by decide +kernel, by decide +kernel⟩
def spKnown2 (C : Addr) (pt : List Nat → Nat → Pt) : Sp := fun vs H Q _ => ∃ (cs : List Nat) (s : Nat), vs = [.str (S cs), .str (S [s])] ∧ okLetters cs = true ∧ s ∈ cs ∧ ∀ p H', Same H H' → H p = none → PrNew C H H' p (sortN (pt cs s).letters) (sortN (pt cs s).boxes) (pt cs s).places ((pt cs s).moves.map keptM) (pt cs s).ends → Q (.ref p) H'
theorem ok_sorting {f C : Addr} {fd : FuncData} {k : Nat} (F : Fun K "sorting" "sorting" sSorting f fd) (T : PrTxt K mg C) (DK : Mkr P w K mg base C k) : FnOk P w K mg base CX0 (k + 2) f fd ["letters", "sign"] (spKnown2 C srP) := by
  refine F.ok scSorting (fun vs H Q E h => ?_) (fun cdv A outer s0 H vs Q E hr h => ?_)
  · obtain ⟨cs, s, rfl, _⟩ := h
    rfl
  · obtain ⟨cs, s, rfl, hc, hs, q⟩ := h
    have hu := hu_of hr
    have hu0 := Nat.lt_of_succ_lt hu
    refine ⟨_, pss_cons (ps_setDcT (i := 2) (own := [("letter", 3)]) (g := gName 3) (tt := tYes) (tk := tTupS (tCons (tC (.str "on")) (tCons (tVar 3) tNil))) (tv := tTupS (tCons (tC (.str "on")) (tCons (tDisp [(tC (.str "X"), tC (.str "X")), (tC (.str "Y"), tOp (fun x y H Q => ∃ i j, x = .str i ∧ y = .str j ∧ i.length + j.length ≤ sizeLine ∧ Q (.str (i ++ j)) H) (tC (.str "Y")) (tVar 3))]) tNil))) hu0 rfl scSorting.nd rfl rfl (sw_trueD rfl rfl rfl (by decide +kernel)) (pi_str (pv 0))
          (blkOk_by (own := [("letter", 3)]) (N := nSorting) (sc := defScope sSorting) (by decide +kernel)) ⟨fun _ _ _ _ _ => pg_name (i := 3) scSorting.nd rfl (.inl rfl), fun _ _ _ _ _ => pts_nil, fun _ _ _ _ _ => pe_tupS (pa_cons pe_str (pa_cons (pv 3) pa_nil)), fun _ _ _ _ _ => pe_tupS (pa_cons pe_str (pa_cons (pe_disp (pps_cons pe_str pe_str (pps_cons pe_str (pe_op op_add_str pe_str (pv 3)) pps_nil)) rfl rfl (by simp) (by show 2 ≤ 15; decide)) pa_nil))⟩)
      (pss_cons (ps_dput hu (pv 2) (pe_tupS (pa_cons pe_str (pa_cons (pv 1) pa_nil))) (pe_tupS (pa_cons pe_str (pa_cons (pe_disp (pps_cons pe_str (pe_op op_add_str pe_str (pv 1)) (pps_cons pe_str pe_str pps_nil)) rfl rfl (by simp) (by show 2 ≤ 15; decide)) pa_nil))) rfl)
      (pss_one (ps_ret (pe_prog DK hr T.mgC (pa_cons (pv 0) (pa_cons pe_str (pa_cons (pe_lstS (pa_cons pe_str pa_nil)) (pa_cons (pv 2) (pa_cons (pe_disp (pps_cons pe_str pe_str pps_nil) rfl rfl (by simp) (by show 1 ≤ 15; decide)) pa_nil))))))))), ?_⟩
    obtain ⟨c1, c2, c3, c4⟩ := low_of hc
    have big : (10000 : Nat) < sizeLine := by decide
    refine ⟨_, rfl, S cs, rfl, fun D nD => ?_⟩
    refine dcT_it walk_str (fun i H' => Same H H' ∧ KmAt H H' D (rowP nOn (fun _ => nOn) fX (cs.take i))) ⟨same_upd nD, [], upd_same, .nil⟩ (fun _ _ _ _ => trivial) ?_ ?_
    · rintro i x H2 H2' hi ⟨s2, hkm⟩ ⟨rfl, a, ha, rfl⟩
      have ha' : cs[i]? = some a := by
        rw [show (S cs).cps = cs.toArray from rfl, List.getElem?_toArray] at ha
        exact ha
      have et : cs.take (i + 1) = cs.take i ++ [a] := by
        rw [List.take_add_one, ha']
        rfl
      refine ⟨rfl, tYes_if ⟨_, rfl, by show 2 ≤ sizeLine; omega, fun kt H3 s3 n3 e3 => ?_⟩⟩
      intro Df nDf
      refine ⟨_, rfl, _, _, rfl, rfl, ?_, upd_same, fkv (fX a), ?_, (by show 2 ≤ 15; decide), ?_⟩
      · rw [st_Y, len_S]
        show 1 + 1 ≤ _
        omega
      · rw [st_X, st_Y]
        rfl
      rw [merge_new _ [] (by show ([(Sum.inr (S [88]) : Key), Sum.inr (S [89])]).Nodup; decide +kernel), List.nil_append]
      have sC : Same H3 (upd (upd H3 Df (.dK [])) Df (.dK (fkv (fX a)))) := fun b o e => by
        rw [upd_ne (ne_of_none e nDf), upd_ne (ne_of_none e nDf)]
        exact e
      have eDf : (upd (upd H3 Df (.dK [])) Df (.dK (fkv (fX a)))) Df = some (.dK (fkv (fX a))) := upd_same
      generalize upd (upd H3 Df (.dK [])) Df (.dK (fkv (fX a))) = H4 at sC eDf
      refine ⟨by show 2 ≤ sizeLine; omega, fun t H5 s5 n5 e5 => ?_⟩
      have s25 := (s3.trans sC).trans s5
      have hkm5 := hkm.same s25
      obtain ⟨kk, eD, hkk⟩ := id hkm5
      have hput := hkm5.put (m := ⟨nOn, a, nOn, fX a⟩) (rowP_new ha' c4) (t := t) (d := Df) (by rw [e5, st_on]) (s5 _ _ eDf) (s2.free (s3.free nDf)) kk eD
      refine ⟨kk, mkey nOn a, kt, rfl, ?_, eD, ?_, fun b o eb => ?_, ?_⟩
      · rw [s5 _ _ (sC _ _ e3), st_on]
        rfl
      · rw [Paired.length hkk, rowP, List.length_map, List.length_take]
        omega
      · rw [upd_ne (ne_of_none eb nD)]
        exact s25 _ _ (s2 _ _ eb)
      · rw [et, rowP, List.map_append]
        exact hput
    rintro H2 ⟨s2, hkm⟩
    rw [show (S cs).cps.size = cs.length from len_S _, List.take_length] at hkm
    intro Df nDf
    refine ⟨_, rfl, _, _, rfl, rfl, ?_, upd_same, fkv (fY s), ?_, (by show 2 ≤ 15; decide), ?_⟩
    · rw [st_X, len_S]
      show 1 + 1 ≤ _
      omega
    · rw [st_X, st_Y]
      rfl
    rw [merge_new _ [] (by show ([(Sum.inr (S [88]) : Key), Sum.inr (S [89])]).Nodup; decide +kernel), List.nil_append]
    have sC : Same H2 (upd (upd H2 Df (.dK [])) Df (.dK (fkv (fY s)))) := fun b o e => by
      rw [upd_ne (ne_of_none e nDf), upd_ne (ne_of_none e nDf)]
      exact e
    have eDf : (upd (upd H2 Df (.dK [])) Df (.dK (fkv (fY s)))) Df = some (.dK (fkv (fY s))) := upd_same
    generalize upd (upd H2 Df (.dK [])) Df (.dK (fkv (fY s))) = H4 at sC eDf
    refine ⟨by show 2 ≤ sizeLine; omega, fun t H5 s5 n5 e5 => ?_⟩
    refine ⟨_, rfl, _, rfl, by show 2 ≤ sizeLine; omega, fun kt H6 s6 n6 e6 => ?_⟩
    have s26 := (sC.trans s5).trans s6
    have hkm6 := hkm.same s26
    obtain ⟨kk0, eD0, hkk0⟩ := id hkm6
    have hov := hkm6.over (m := ⟨nOn, s, nOn, fY s⟩) (by rw [rowP_keys]; exact List.mem_map.mpr ⟨s, hs, rfl⟩) (t := t) (d := Df) (by rw [s6 _ _ e5, st_on]) (s6 _ _ (s5 _ _ eDf)) (s2.free nDf) kk0 eD0
    refine ⟨D, _, rfl, DPut.t (k := mkey nOn s) eD0 (by rw [e6, st_on]; rfl) ?_, ?_⟩
    · rw [Paired.length hkk0, rowP, List.length_map]
      omega
    have hov := (show _ = srM s cs from rowP_over) ▸ hov
    have s7 : Same H (upd H6 D (.dT (putK kk0 (mkey nOn s) (.ref t)))) := fun b o eb => by
      rw [upd_ne (ne_of_none eb nD)]
      exact s26 _ _ (s2 _ _ eb)
    have hov : KmAt H (upd H6 D (.dT (putK kk0 (mkey nOn s) (.ref t)))) D (srM s cs) := hov
    generalize upd H6 D (.dT (putK kk0 (mkey nOn s) (.ref t))) = H7 at s7 hov ⊢
    refine ⟨_, rfl, by show 1 ≤ sizeLine; omega, fun La H3 s3 n3 e3 => ?_⟩
    refine ⟨_, rfl, ?_⟩
    intro De nDe
    refine ⟨upd_same, fkv [(nOn, [88, 89])], ?_, by decide, ?_⟩
    · rw [st_on, st_XY]
      rfl
    rw [merge_new _ [] (by show ([(Sum.inr (S nOn) : Key)]).Nodup; simp), List.nil_append]
    have sE : Same H3 (upd (upd H3 De (.dK [])) De (.dK (fkv [(nOn, [88, 89])]))) := fun b o e => by
      rw [upd_ne (ne_of_none e nDe), upd_ne (ne_of_none e nDe)]
      exact e
    have eDe : (upd (upd H3 De (.dK [])) De (.dK (fkv [(nOn, [88, 89])]))) De = some (.dK (fkv [(nOn, [88, 89])])) := upd_same
    generalize upd (upd H3 De (.dK [])) De (.dK (fkv [(nOn, [88, 89])])) = H8 at sE eDe
    have s24 := s3.trans sE
    obtain ⟨kk, eD, hkk⟩ := hov.same s24
    refine ⟨La, D, De, srP cs s, ?_, ⟨.inl (by rw [sE _ _ e3, st_on]; rfl), ⟨kk, eD, Paired.mono (fun kv m z => (MvNew.at z).to_in) hkk⟩, eDe⟩, srP_parts hc hs, fun p H5 s5 n5 hp => ?_⟩
    · rw [st_XY]
      rfl
    · exact q p H5 ((s7.trans s24).trans s5) ((s7.trans s24).free n5) (hp.old fun x hx => (s7.trans s24).free hx)
end
end Tb

set_option Elab.async false
set_option linter.all false
set_option maxRecDepth 100000
set_option maxHeartbeats 4000000
namespace Tb
open PySem PySem.Spec PyProof.Rows L2 TL
/-- for every letter a move out of one place and one out of another -/
def two (p q : List Nat) (tp tq : Nat → List Nat) (fp fq : Nat → Fil) (cs : List Nat) : List Mv := cs.flatMap fun a => [⟨p, a, tp a, fp a⟩, ⟨q, a, tq a, fq a⟩]
section
variable {p q : List Nat} {tp tq : Nat → List Nat} {fp fq : Nat → Fil} {cs : List Nat}
theorem two_mem {x : Mv} (h : x ∈ two p q tp tq fp fq cs) : ∃ b ∈ cs, x = ⟨p, b, tp b, fp b⟩ ∨ x = ⟨q, b, tq b, fq b⟩ := by
  obtain ⟨b, hb, h2⟩ := List.mem_flatMap.mp h
  refine ⟨b, hb, ?_⟩
  rcases List.mem_cons.mp h2 with h3 | h3
  · exact .inl h3
  · exact .inr (List.mem_singleton.mp h3)
theorem two_nd (pq : p ≠ q) (nd : cs.Nodup) : ((two p q tp tq fp fq cs).map fun m : Mv => (m.pl, m.lt)).Nodup := by
  induction cs with
  | nil => exact .nil
  | cons a cs ih =>
    obtain ⟨n1, n2⟩ := List.nodup_cons.mp nd
    have out : ∀ r, (r, a) ∉ (two p q tp tq fp fq cs).map fun m : Mv => (m.pl, m.lt) := fun r z => by
      obtain ⟨m, hm, e⟩ := List.mem_map.mp z
      obtain ⟨b, hb, h | h⟩ := two_mem hm
      all_goals
        subst h
        injection e with e1 e2
        exact n1 (e2 ▸ hb)
    show ((p, a) :: (q, a) :: (two p q tp tq fp fq cs).map fun m : Mv => (m.pl, m.lt)).Nodup
    refine List.nodup_cons.mpr ⟨fun z => ?_, List.nodup_cons.mpr ⟨out q, ih n2⟩⟩
    rcases List.mem_cons.mp z with z | z
    · injection z with z1 z2
      exact pq z1
    · exact out p z
theorem two_out {i a : Nat} (h : cs[i]? = some a) (nd : cs.Nodup) (r : List Nat) : mkey r a ∉ (two p q tp tq fp fq (cs.take i)).map Mv.key := fun z => by
  obtain ⟨m, hm, e⟩ := List.mem_map.mp z
  have et : cs.take (i + 1) = cs.take i ++ [a] := by
    rw [List.take_add_one, h]
    rfl
  have h6 : (cs.take (i + 1)).Nodup := (List.take_sublist _ _).nodup nd
  rw [et, List.nodup_append] at h6
  obtain ⟨b, hb, h | h⟩ := two_mem hm
  all_goals
    subst h
    exact h6.2.2 b hb a (List.mem_singleton.mpr rfl) (mkey_inj (show mkey _ b = mkey r a from e)).2
theorem two_len : (two p q tp tq fp fq cs).length = 2 * cs.length := by
  induction cs with
  | nil => rfl
  | cons a cs ih =>
    show (two p q tp tq fp fq cs).length + 1 + 1 = 2 * (cs.length + 1)
    omega
theorem two_snoc {a : Nat} : two p q tp tq fp fq (cs ++ [a]) = two p q tp tq fp fq cs ++ [⟨p, a, tp a, fp a⟩] ++ [⟨q, a, tq a, fq a⟩] := by
  unfold two
  rw [List.flatMap_append, List.append_assoc]
  rfl
end
/-! halving -/
def nTake : List Nat := [116, 97, 107, 101]
def nLeave : List Nat := [108, 101, 97, 118, 101]
theorem st_take : Str.ofString "take" = S nTake := by decide +kernel
theorem st_leave : Str.ofString "leave" = S nLeave := by decide +kernel
def f1 (a : Nat) : Fil := [([88], [88, a])]
def f0 : Fil := [([88], [88])]
def hvM (cs : List Nat) : List Mv := two nTake nLeave (fun _ => nLeave) (fun _ => nTake) f1 (fun _ => f0) cs
def hvP (cs : List Nat) : Pt := ⟨cs, [88], [nTake, nLeave], hvM cs, [(nTake, [88]), (nLeave, [88])]⟩
theorem fil1 {a : Nat} (h : isLow a = true) : FilQ [88] (f1 a) := by
  have e : ((f1 a).map (·.2)).flatten = [88, a] := rfl
  refine ⟨(show ([[88]] : List (List Nat)).Nodup by decide +kernel), ?_, ?_⟩
  · unfold okFils okKeys
    rw [Bool.and_eq_true, e]
    refine ⟨(show (([[88]] : List (List Nat)).all fun c => decide (c ∈ ([88] : List Nat).map fun b => [b])) = true by decide +kernel), isFill_iff.mpr ?_⟩
    have e2 : caps [88, a] = [88] := by
      unfold caps
      rw [List.filter_cons, List.filter_cons, h]
      rfl
    rw [e2]
    exact ⟨by decide, fun c hc => hc⟩
  · rw [e]
    show 2 ≤ 1000
    decide
theorem fil0 : FilQ [88] f0 := ⟨by decide +kernel, by decide +kernel, by decide +kernel⟩
theorem hvP_parts {cs : List Nat} (h : okLetters cs = true) : PartsQ (hvP cs) := by
  obtain ⟨h1, h2, h3, h4⟩ := low_of h
  have k1 : okBoxes [88] = true := by decide +kernel
  have k2 : okPlaces [nTake, nLeave] = true := by decide +kernel
  have k3 : (([(nTake, [88]), (nLeave, [88])] : List (List Nat × List Nat)).map (·.1)).Nodup := by decide +kernel
  have mT : nTake ∈ [nTake, nLeave] := by simp
  have mL : nLeave ∈ [nTake, nLeave] := by simp
  refine ⟨h, k1, k2, two_nd (by decide) h4, fun m hm => ?_, k3, fun q hq => ?_⟩
  · obtain ⟨b, hb, e | e⟩ := two_mem hm
    · subst e
      exact ⟨mT, hb, mL, fil1 (h1 _ hb)⟩
    · subst e
      exact ⟨mL, hb, mT, fil0⟩
  · have h9 : q = (nTake, [88]) ∨ q = (nLeave, [88]) := by simpa [hvP] using hq
    rcases h9 with h9 | h9 <;> subst h9
    · exact ⟨mT, (by decide +kernel : isFill [88] [88] = true), (by decide : ([88] : List Nat).length ≤ 1000)⟩
    · exact ⟨mL, (by decide +kernel : isFill [88] [88] = true), (by decide : ([88] : List Nat).length ≤ 1000)⟩
section
variable {P : Program} {w : World} {K : PySem.W.Frag} {mg : Str → Option Value} {base : Heap}
abbrev nHalving : List Str := ["letters", "moves", "letter"]
theorem scHalving : FnScope nHalving ["letters"] (defScope sHalving) := ⟨rfl, rfl, rfl, by decide +kernel, rfl, by decide +kernel, by decide +kernel⟩
theorem ok_halving {f C : Addr} {fd : FuncData} {k : Nat} (F : Fun K "halving" "halving" sHalving f fd) (T : PrTxt K mg C) (DK : Mkr P w K mg base C k) : FnOk P w K mg base CX0 (k + 2) f fd ["letters"] (spKnown1 C hvP) := by
  refine F.ok scHalving (fun vs H Q E h => ?_) (fun cdv A outer s0 H vs Q E hr h => ?_)
  · obtain ⟨cs, rfl, _⟩ := h
    rfl
  · obtain ⟨cs, rfl, hc, q⟩ := h
    have hu := hu_of hr
    refine ⟨_, pss_cons (ps_set (i := 1) scHalving.nd rfl (.inl rfl) pe_newT)
      (pss_cons (ps_for PassesOwn.never rfl (pi_str (pv 0)) (pg_name (i := 2) scHalving.nd rfl (.inl rfl))
        (pss_cons (ps_dput hu (pv 1) (pe_tupS (pa_cons pe_str (pa_cons (pv 2) pa_nil))) (pe_tupS (pa_cons pe_str (pa_cons (pe_disp (pps_cons pe_str (pe_op op_add_str pe_str (pv 2)) pps_nil) rfl rfl (by simp) (by show 1 ≤ 15; decide)) pa_nil))) rfl)
        (pss_one (ps_dput hu (pv 1) (pe_tupS (pa_cons pe_str (pa_cons (pv 2) pa_nil))) (pe_tupS (pa_cons pe_str (pa_cons (pe_disp (pps_cons pe_str pe_str pps_nil) rfl rfl (by simp) (by show 1 ≤ 15; decide)) pa_nil))) rfl))))
      (pss_one (ps_ret (pe_prog DK hr T.mgC (pa_cons (pv 0) (pa_cons pe_str (pa_cons (pe_lstS (pa_cons pe_str (pa_cons pe_str pa_nil))) (pa_cons (pv 1) (pa_cons (pe_disp (pps_cons pe_str pe_str (pps_cons pe_str pe_str pps_nil)) rfl rfl (by simp) (by show 2 ≤ 15; decide)) pa_nil))))))))), ?_⟩
    obtain ⟨c1, c2, c3, c4⟩ := low_of hc
    have big : (10000 : Nat) < sizeLine := by decide
    intro D H1 s1 nD e1
    refine ⟨_, rfl, S cs, rfl, for_it (walk_str (z := S cs)) (fun i σ H' => ∃ v2, σ = [some (.str (S cs)), some (.ref D), v2] ∧ Same H H' ∧ KmAt H H' D (hvM (cs.take i))) ⟨none, rfl, s1, [], e1, .nil⟩ (fun _ _ _ _ _ => trivial) ?_ ?_⟩
    · rintro i x σ H2' H2 hi ⟨v2, rfl, s2, hkm⟩ ⟨rfl, a, ha, rfl⟩
      have ha' : cs[i]? = some a := by
        rw [show (S cs).cps = cs.toArray from rfl, List.getElem?_toArray] at ha
        exact ha
      have et : cs.take (i + 1) = cs.take i ++ [a] := by
        rw [List.take_add_one, ha']
        rfl
      have hlen : (hvM (cs.take i)).length ≤ 10 := by
        unfold hvM
        rw [two_len, List.length_take]
        omega
      intro Df nDf
      refine ⟨_, rfl, _, _, rfl, rfl, ?_, upd_same, fkv (f1 a), ?_, (by show 1 ≤ 15; decide), ?_⟩
      · rw [st_X, len_S]
        show 1 + 1 ≤ _
        omega
      · rw [st_X]
        rfl
      rw [merge_new _ [] (by show ([(Sum.inr (S [88]) : Key)]).Nodup; decide +kernel), List.nil_append]
      have sC : Same H2 (upd (upd H2 Df (.dK [])) Df (.dK (fkv (f1 a)))) := fun b o e => by
        rw [upd_ne (ne_of_none e nDf), upd_ne (ne_of_none e nDf)]
        exact e
      have eDf : (upd (upd H2 Df (.dK [])) Df (.dK (fkv (f1 a)))) Df = some (.dK (fkv (f1 a))) := upd_same
      generalize upd (upd H2 Df (.dK [])) Df (.dK (fkv (f1 a))) = H4 at sC eDf
      refine ⟨by show 2 ≤ sizeLine; omega, fun t H5 s5 n5 e5 => ?_⟩
      refine ⟨_, rfl, _, rfl, by show 2 ≤ sizeLine; omega, fun kt H6 s6 n6 e6 => ?_⟩
      have s26 := (sC.trans s5).trans s6
      have hkm6 := hkm.same s26
      obtain ⟨kk0, eD0, hkk0⟩ := id hkm6
      have hput := hkm6.put (m := ⟨nTake, a, nLeave, f1 a⟩) (two_out ha' c4 nTake) (t := t) (d := Df) (by rw [s6 _ _ e5, st_leave]) (s6 _ _ (s5 _ _ eDf)) (s2.free nDf) kk0 eD0
      refine ⟨D, _, rfl, DPut.t (k := mkey nTake a) eD0 (by rw [e6, st_take]; rfl) ?_, ?_⟩
      · rw [Paired.length hkk0]
        omega
      have s7 : Same H (upd H6 D (.dT (putK kk0 (mkey nTake a) (.ref t)))) := fun b o eb => by
        rw [upd_ne (ne_of_none eb nD)]
        exact s26 _ _ (s2 _ _ eb)
      have hput : KmAt H (upd H6 D (.dT (putK kk0 (mkey nTake a) (.ref t)))) D (hvM (cs.take i) ++ [⟨nTake, a, nLeave, f1 a⟩]) := hput
      generalize upd H6 D (.dT (putK kk0 (mkey nTake a) (.ref t))) = H7 at s7 hput ⊢
      intro Dg nDg
      refine ⟨upd_same, fkv f0, ?_, (by show 1 ≤ 15; decide), ?_⟩
      · rw [st_X]
        rfl
      rw [merge_new _ [] (by show ([(Sum.inr (S [88]) : Key)]).Nodup; decide +kernel), List.nil_append]
      have sC2 : Same H7 (upd (upd H7 Dg (.dK [])) Dg (.dK (fkv f0))) := fun b o e => by
        rw [upd_ne (ne_of_none e nDg), upd_ne (ne_of_none e nDg)]
        exact e
      have eDg : (upd (upd H7 Dg (.dK [])) Dg (.dK (fkv f0))) Dg = some (.dK (fkv f0)) := upd_same
      generalize upd (upd H7 Dg (.dK [])) Dg (.dK (fkv f0)) = H8 at sC2 eDg
      refine ⟨by show 2 ≤ sizeLine; omega, fun t2 H9 s9 n9 e9 => ?_⟩
      refine ⟨_, rfl, _, rfl, by show 2 ≤ sizeLine; omega, fun kt2 H10 s10 n10 e10 => ?_⟩
      have s710 := (sC2.trans s9).trans s10
      have hkm10 := hput.same s710
      obtain ⟨kk1, eD1, hkk1⟩ := id hkm10
      have hput2 := hkm10.put (m := ⟨nLeave, a, nTake, f0⟩) (fun z => by
        rw [List.map_append] at z
        rcases List.mem_append.mp z with z | z
        · exact two_out ha' c4 nLeave z
        · have z := List.mem_singleton.mp z
          have z := (mkey_inj (show mkey nLeave a = mkey nTake a from z)).1
          revert z
          decide) (t := t2) (d := Dg) (by rw [s10 _ _ e9, st_take]) (s10 _ _ (s9 _ _ eDg)) (s7.free nDg) kk1 eD1
      refine ⟨D, _, rfl, DPut.t (k := mkey nLeave a) eD1 (by rw [e10, st_leave]; rfl) ?_, ?_⟩
      · rw [Paired.length hkk1, List.length_append]
        show _ + 1 < _
        omega
      refine ⟨_, rfl, fun b o eb => ?_, ?_⟩
      · rw [upd_ne (ne_of_none eb nD)]
        exact s710 _ _ (s7 _ _ eb)
      · rw [et]
        unfold hvM
        rw [two_snoc]
        exact hput2
    · rintro σ H2 ⟨v2, rfl, s7, hkm⟩
      rw [show (S cs).cps.size = cs.length from len_S _, List.take_length] at hkm
      refine ⟨_, rfl, by show 2 ≤ sizeLine; omega, fun La H3 s3 n3 e3 => ?_⟩
      refine ⟨_, rfl, ?_⟩
      intro De nDe
      refine ⟨upd_same, fkv [(nTake, [88]), (nLeave, [88])], ?_, by decide, ?_⟩
      · rw [st_take, st_leave, st_X]
        rfl
      rw [merge_new _ [] (by show ([(Sum.inr (S nTake) : Key), Sum.inr (S nLeave)]).Nodup; decide +kernel), List.nil_append]
      have sE : Same H3 (upd (upd H3 De (.dK [])) De (.dK (fkv [(nTake, [88]), (nLeave, [88])]))) := fun b o e => by
        rw [upd_ne (ne_of_none e nDe), upd_ne (ne_of_none e nDe)]
        exact e
      have eDe : (upd (upd H3 De (.dK [])) De (.dK (fkv [(nTake, [88]), (nLeave, [88])]))) De = some (.dK (fkv [(nTake, [88]), (nLeave, [88])])) := upd_same
      generalize upd (upd H3 De (.dK [])) De (.dK (fkv [(nTake, [88]), (nLeave, [88])])) = H8 at sE eDe
      have s24 := s3.trans sE
      obtain ⟨kk, eD, hkk⟩ := hkm.same s24
      refine ⟨La, D, De, hvP cs, ?_, ⟨.inl (by rw [sE _ _ e3, st_take, st_leave]; rfl), ⟨kk, eD, Paired.mono (fun kv m z => (MvNew.at z).to_in) hkk⟩, eDe⟩, hvP_parts hc, fun p H5 s5 n5 hp => ?_⟩
      · rw [st_X]
        rfl
      · exact q p H5 ((s7.trans s24).trans s5) ((s7.trans s24).free n5) (hp.old fun x hx => (s7.trans s24).free hx)
end
end Tb

set_option Elab.async false
set_option linter.all false
set_option maxRecDepth 100000
set_option maxHeartbeats 4000000
namespace Tb
open PySem PySem.Spec PyProof.Rows L2 TL
/-! exchanging -/
def nAhead : List Nat := [97, 104, 101, 97, 100]
def nBehind : List Nat := [98, 101, 104, 105, 110, 100]
theorem st_ahead : Str.ofString "ahead" = S nAhead := by decide +kernel
theorem st_behind : Str.ofString "behind" = S nBehind := by decide +kernel
theorem two_over {p q : List Nat} {tp tq : Nat → List Nat} {fp fq : Nat → Fil} {cs : List Nat} {s : Nat} {t : List Nat} {g : Fil} (pq : p ≠ q) : ((two p q tp tq fp fq cs).map fun x => if x.key = mkey p s then (⟨p, s, t, g⟩ : Mv) else x) = two p q (fun a => if a = s then t else tp a) tq (fun a => if a = s then g else fp a) fq cs := by
  induction cs with
  | nil => rfl
  | cons a cs ih =>
    show (if mkey p a = mkey p s then (⟨p, s, t, g⟩ : Mv) else ⟨p, a, tp a, fp a⟩) :: (if mkey q a = mkey p s then (⟨p, s, t, g⟩ : Mv) else ⟨q, a, tq a, fq a⟩) :: _ = ⟨p, a, if a = s then t else tp a, if a = s then g else fp a⟩ :: ⟨q, a, tq a, fq a⟩ :: two p q _ tq _ fq cs
    rw [if_neg fun z => pq (mkey_inj z).1.symm]
    refine congr (congrArg List.cons ?_) (congrArg _ ih)
    by_cases e : a = s
    · subst e
      rw [if_pos rfl, if_pos rfl, if_pos rfl]
    · rw [if_neg fun z => e (mkey_inj z).2, if_neg e, if_neg e]
def xcM0 (cs : List Nat) : List Mv := two nAhead nBehind (fun _ => nAhead) (fun _ => nBehind) f1 fX cs
def xcM (s : Nat) (cs : List Nat) : List Mv := two nAhead nBehind (fun a => if a = s then nBehind else nAhead) (fun _ => nBehind) (fun a => if a = s then f0 else f1 a) fX cs
def xcP (cs : List Nat) (s : Nat) : Pt := ⟨cs, [88, 89], [nAhead, nBehind], xcM s cs, [(nBehind, [89, s, 88])]⟩
theorem fil1y {a : Nat} (h : isLow a = true) : FilQ [88, 89] (f1 a) := by
  have e : ((f1 a).map (·.2)).flatten = [88, a] := rfl
  refine ⟨(show ([[88]] : List (List Nat)).Nodup by decide +kernel), ?_, ?_⟩
  · unfold okFils okKeys
    rw [Bool.and_eq_true, e]
    refine ⟨(show (([[88]] : List (List Nat)).all fun c => decide (c ∈ ([88, 89] : List Nat).map fun b => [b])) = true by decide +kernel), isFill_iff.mpr ?_⟩
    have e2 : caps [88, a] = [88] := by
      unfold caps
      rw [List.filter_cons, List.filter_cons, h]
      rfl
    rw [e2]
    exact ⟨by decide, fun c hc => List.mem_cons.mpr (.inl (List.mem_singleton.mp hc))⟩
  · rw [e]
    show 2 ≤ 1000
    decide
theorem fil0y : FilQ [88, 89] f0 := ⟨by decide +kernel, by decide +kernel, by decide +kernel⟩
theorem xcP_parts {cs : List Nat} {s : Nat} (h : okLetters cs = true) (hs : s ∈ cs) : PartsQ (xcP cs s) := by
  obtain ⟨h1, h2, h3, h4⟩ := low_of h
  have k1 : okBoxes [88, 89] = true := by decide +kernel
  have k2 : okPlaces [nAhead, nBehind] = true := by decide +kernel
  have k3 : (([(nBehind, [89, s, 88])] : List (List Nat × List Nat)).map (·.1)).Nodup := List.pairwise_singleton _ _
  have mT : nAhead ∈ [nAhead, nBehind] := by simp
  have mL : nBehind ∈ [nAhead, nBehind] := by simp
  refine ⟨h, k1, k2, two_nd (by decide) h4, fun m hm => ?_, k3, fun q hq => ?_⟩
  · obtain ⟨b, hb, e | e⟩ := two_mem hm
    · subst e
      refine ⟨mT, hb, ?_, ?_⟩
      · show (if b = s then nBehind else nAhead) ∈ _
        split
        · exact mL
        · exact mT
      · show FilQ [88, 89] (if b = s then f0 else f1 b)
        split
        · exact fil0y
        · exact fil1y (h1 _ hb)
    · subst e
      exact ⟨mL, hb, mL, filX (h1 _ hb)⟩
  · have hq := List.mem_singleton.mp hq
    subst hq
    refine ⟨mL, isFill_iff.mpr ?_, (by show 3 ≤ 1000; decide)⟩
    have e2 : caps [89, s, 88] = [89, 88] := by
      unfold caps
      rw [List.filter_cons, List.filter_cons, List.filter_cons, h1 _ hs]
      rfl
    show (caps [89, s, 88]).Nodup ∧ ∀ c ∈ caps [89, s, 88], c ∈ [88, 89]
    rw [e2]
    exact ⟨by decide, by decide⟩
section
variable {P : Program} {w : World} {K : PySem.W.Frag} {mg : Str → Option Value} {base : Heap}
abbrev nExch : List Str := ["letters", "sign", "moves", "letter"]
theorem scExch : FnScope nExch ["letters", "sign"] (defScope sExch) := ⟨rfl, rfl, rfl, by decide +kernel, rfl, by decide +kernel, by decide +kernel⟩
theorem ok_exch {f C : Addr} {fd : FuncData} {k : Nat} (F : Fun K "exchanging" "exchanging" sExch f fd) (T : PrTxt K mg C) (DK : Mkr P w K mg base C k) : FnOk P w K mg base CX0 (k + 2) f fd ["letters", "sign"] (spKnown2 C xcP) := by
  refine F.ok scExch (fun vs H Q E h => ?_) (fun cdv A outer s0 H vs Q E hr h => ?_)
  · obtain ⟨cs, s, rfl, _⟩ := h
    rfl
  · obtain ⟨cs, s, rfl, hc, hs, q⟩ := h
    have hu := hu_of hr
    refine ⟨_, pss_cons (ps_set (i := 2) scExch.nd rfl (.inl rfl) pe_newT)
      (pss_cons (ps_for PassesOwn.never rfl (pi_str (pv 0)) (pg_name (i := 3) scExch.nd rfl (.inl rfl))
        (pss_cons (ps_dput hu (pv 2) (pe_tupS (pa_cons pe_str (pa_cons (pv 3) pa_nil))) (pe_tupS (pa_cons pe_str (pa_cons (pe_disp (pps_cons pe_str (pe_op op_add_str pe_str (pv 3)) pps_nil) rfl rfl (by simp) (by show 1 ≤ 15; decide)) pa_nil))) rfl)
        (pss_one (ps_dput hu (pv 2) (pe_tupS (pa_cons pe_str (pa_cons (pv 3) pa_nil))) (pe_tupS (pa_cons pe_str (pa_cons (pe_disp (pps_cons pe_str pe_str (pps_cons pe_str (pe_op op_add_str pe_str (pv 3)) pps_nil)) rfl rfl (by simp) (by show 2 ≤ 15; decide)) pa_nil))) rfl))))
      (pss_cons (ps_dput hu (pv 2) (pe_tupS (pa_cons pe_str (pa_cons (pv 1) pa_nil))) (pe_tupS (pa_cons pe_str (pa_cons (pe_disp (pps_cons pe_str pe_str pps_nil) rfl rfl (by simp) (by show 1 ≤ 15; decide)) pa_nil))) rfl)
      (pss_one (ps_ret (pe_prog DK hr T.mgC (pa_cons (pv 0) (pa_cons pe_str (pa_cons (pe_lstS (pa_cons pe_str (pa_cons pe_str pa_nil))) (pa_cons (pv 2) (pa_cons (pe_disp (pps_cons pe_str (pe_op op_add_str (pe_op op_add_str pe_str (pv 1)) pe_str) pps_nil) rfl rfl (by simp) (by show 1 ≤ 15; decide)) pa_nil)))))))))), ?_⟩
    obtain ⟨c1, c2, c3, c4⟩ := low_of hc
    have big : (10000 : Nat) < sizeLine := by decide
    intro D H1 s1 nD e1
    refine ⟨_, rfl, S cs, rfl, for_it (walk_str (z := S cs)) (fun i σ H' => ∃ v2, σ = [some (.str (S cs)), some (.str (S [s])), some (.ref D), v2] ∧ Same H H' ∧ KmAt H H' D (xcM0 (cs.take i))) ⟨none, rfl, s1, [], e1, .nil⟩ (fun _ _ _ _ _ => trivial) ?_ ?_⟩
    · rintro i x σ H2' H2 hi ⟨v2, rfl, s2, hkm⟩ ⟨rfl, a, ha, rfl⟩
      have ha' : cs[i]? = some a := by
        rw [show (S cs).cps = cs.toArray from rfl, List.getElem?_toArray] at ha
        exact ha
      have et : cs.take (i + 1) = cs.take i ++ [a] := by
        rw [List.take_add_one, ha']
        rfl
      have hlen : (xcM0 (cs.take i)).length ≤ 10 := by
        unfold xcM0
        rw [two_len, List.length_take]
        omega
      intro Df nDf
      refine ⟨_, rfl, _, _, rfl, rfl, ?_, upd_same, fkv (f1 a), ?_, (by show 1 ≤ 15; decide), ?_⟩
      · rw [st_X, len_S]
        show 1 + 1 ≤ _
        omega
      · rw [st_X]
        rfl
      rw [merge_new _ [] (by show ([(Sum.inr (S [88]) : Key)]).Nodup; decide +kernel), List.nil_append]
      have sC : Same H2 (upd (upd H2 Df (.dK [])) Df (.dK (fkv (f1 a)))) := fun b o e => by
        rw [upd_ne (ne_of_none e nDf), upd_ne (ne_of_none e nDf)]
        exact e
      have eDf : (upd (upd H2 Df (.dK [])) Df (.dK (fkv (f1 a)))) Df = some (.dK (fkv (f1 a))) := upd_same
      generalize upd (upd H2 Df (.dK [])) Df (.dK (fkv (f1 a))) = H4 at sC eDf
      refine ⟨by show 2 ≤ sizeLine; omega, fun t H5 s5 n5 e5 => ?_⟩
      refine ⟨_, rfl, _, rfl, by show 2 ≤ sizeLine; omega, fun kt H6 s6 n6 e6 => ?_⟩
      have s26 := (sC.trans s5).trans s6
      have hkm6 := hkm.same s26
      obtain ⟨kk0, eD0, hkk0⟩ := id hkm6
      have hput := hkm6.put (m := ⟨nAhead, a, nAhead, f1 a⟩) (two_out ha' c4 nAhead) (t := t) (d := Df) (by rw [s6 _ _ e5, st_ahead]) (s6 _ _ (s5 _ _ eDf)) (s2.free nDf) kk0 eD0
      refine ⟨D, _, rfl, DPut.t (k := mkey nAhead a) eD0 (by rw [e6, st_ahead]; rfl) ?_, ?_⟩
      · rw [Paired.length hkk0]
        omega
      have s7 : Same H (upd H6 D (.dT (putK kk0 (mkey nAhead a) (.ref t)))) := fun b o eb => by
        rw [upd_ne (ne_of_none eb nD)]
        exact s26 _ _ (s2 _ _ eb)
      have hput : KmAt H (upd H6 D (.dT (putK kk0 (mkey nAhead a) (.ref t)))) D (xcM0 (cs.take i) ++ [⟨nAhead, a, nAhead, f1 a⟩]) := hput
      generalize upd H6 D (.dT (putK kk0 (mkey nAhead a) (.ref t))) = H7 at s7 hput ⊢
      intro Dg nDg
      refine ⟨_, rfl, _, _, rfl, rfl, ?_, upd_same, fkv (fX a), ?_, (by show 2 ≤ 15; decide), ?_⟩
      · rw [st_Y, len_S]
        show 1 + 1 ≤ _
        omega
      · rw [st_X, st_Y]
        rfl
      rw [merge_new _ [] (by show ([(Sum.inr (S [88]) : Key), Sum.inr (S [89])]).Nodup; decide +kernel), List.nil_append]
      have sC2 : Same H7 (upd (upd H7 Dg (.dK [])) Dg (.dK (fkv (fX a)))) := fun b o e => by
        rw [upd_ne (ne_of_none e nDg), upd_ne (ne_of_none e nDg)]
        exact e
      have eDg : (upd (upd H7 Dg (.dK [])) Dg (.dK (fkv (fX a)))) Dg = some (.dK (fkv (fX a))) := upd_same
      generalize upd (upd H7 Dg (.dK [])) Dg (.dK (fkv (fX a))) = H8 at sC2 eDg
      refine ⟨by show 2 ≤ sizeLine; omega, fun t2 H9 s9 n9 e9 => ?_⟩
      refine ⟨_, rfl, _, rfl, by show 2 ≤ sizeLine; omega, fun kt2 H10 s10 n10 e10 => ?_⟩
      have s710 := (sC2.trans s9).trans s10
      have hkm10 := hput.same s710
      obtain ⟨kk1, eD1, hkk1⟩ := id hkm10
      have hput2 := hkm10.put (m := ⟨nBehind, a, nBehind, fX a⟩) (fun z => by
        rw [List.map_append] at z
        rcases List.mem_append.mp z with z | z
        · exact two_out ha' c4 nBehind z
        · have z := List.mem_singleton.mp z
          have z := (mkey_inj (show mkey nBehind a = mkey nAhead a from z)).1
          revert z
          decide) (t := t2) (d := Dg) (by rw [s10 _ _ e9, st_behind]) (s10 _ _ (s9 _ _ eDg)) (s7.free nDg) kk1 eD1
      refine ⟨D, _, rfl, DPut.t (k := mkey nBehind a) eD1 (by rw [e10, st_behind]; rfl) ?_, ?_⟩
      · rw [Paired.length hkk1, List.length_append]
        show _ + 1 < _
        omega
      refine ⟨_, rfl, fun b o eb => ?_, ?_⟩
      · rw [upd_ne (ne_of_none eb nD)]
        exact s710 _ _ (s7 _ _ eb)
      · rw [et]
        unfold xcM0
        rw [two_snoc]
        exact hput2
    · rintro σ H2 ⟨v2, rfl, s2, hkm⟩
      rw [show (S cs).cps.size = cs.length from len_S _, List.take_length] at hkm
      intro Df nDf
      refine ⟨upd_same, fkv f0, ?_, (by show 1 ≤ 15; decide), ?_⟩
      · rw [st_X]
        rfl
      rw [merge_new _ [] (by show ([(Sum.inr (S [88]) : Key)]).Nodup; decide +kernel), List.nil_append]
      have sC : Same H2 (upd (upd H2 Df (.dK [])) Df (.dK (fkv f0))) := fun b o e => by
        rw [upd_ne (ne_of_none e nDf), upd_ne (ne_of_none e nDf)]
        exact e
      have eDf : (upd (upd H2 Df (.dK [])) Df (.dK (fkv f0))) Df = some (.dK (fkv f0)) := upd_same
      generalize upd (upd H2 Df (.dK [])) Df (.dK (fkv f0)) = H4 at sC eDf
      refine ⟨by show 2 ≤ sizeLine; omega, fun t H5 s5 n5 e5 => ?_⟩
      refine ⟨_, rfl, _, rfl, by show 2 ≤ sizeLine; omega, fun kt H6 s6 n6 e6 => ?_⟩
      have s26 := (sC.trans s5).trans s6
      have hkm6 := hkm.same s26
      obtain ⟨kk0, eD0, hkk0⟩ := id hkm6
      have hmem : mkey nAhead s ∈ (xcM0 cs).map Mv.key := List.mem_map.mpr ⟨⟨nAhead, s, nAhead, f1 s⟩, List.mem_flatMap.mpr ⟨s, hs, List.mem_cons_self ..⟩, rfl⟩
      have hov := hkm6.over (m := ⟨nAhead, s, nBehind, f0⟩) hmem (t := t) (d := Df) (by rw [s6 _ _ e5, st_behind]) (s6 _ _ (s5 _ _ eDf)) (s2.free nDf) kk0 eD0
      refine ⟨D, _, rfl, DPut.t (k := mkey nAhead s) eD0 (by rw [e6, st_ahead]; rfl) ?_, ?_⟩
      · rw [Paired.length hkk0]
        unfold xcM0
        rw [two_len]
        omega
      have hov : KmAt H (upd H6 D (.dT (putK kk0 (mkey nAhead s) (.ref t)))) D ((xcM0 cs).map fun x => if x.key = mkey nAhead s then (⟨nAhead, s, nBehind, f0⟩ : Mv) else x) := hov
      rw [show ((xcM0 cs).map fun x => if x.key = mkey nAhead s then (⟨nAhead, s, nBehind, f0⟩ : Mv) else x) = xcM s cs from two_over (by decide)] at hov
      have s7 : Same H (upd H6 D (.dT (putK kk0 (mkey nAhead s) (.ref t)))) := fun b o eb => by
        rw [upd_ne (ne_of_none eb nD)]
        exact s26 _ _ (s2 _ _ eb)
      generalize upd H6 D (.dT (putK kk0 (mkey nAhead s) (.ref t))) = H7 at s7 hov ⊢
      refine ⟨_, rfl, by show 2 ≤ sizeLine; omega, fun La H3 s3 n3 e3 => ?_⟩
      refine ⟨_, rfl, ?_⟩
      intro De nDe
      refine ⟨_, rfl, _, _, rfl, rfl, ?_, _, _, rfl, rfl, ?_, upd_same, fkv [(nBehind, [89, s, 88])], ?_, (by show 1 ≤ 15; decide), ?_⟩
      · rw [st_Y, len_S]
        show 1 + 1 ≤ _
        omega
      · rw [st_Y, st_X, len_S]
        show 2 + 1 ≤ _
        omega
      · rw [st_behind, st_Y, st_X]
        rfl
      rw [merge_new _ [] (by show ([(Sum.inr (S nBehind) : Key)]).Nodup; decide +kernel), List.nil_append]
      have sE : Same H3 (upd (upd H3 De (.dK [])) De (.dK (fkv [(nBehind, [89, s, 88])]))) := fun b o e => by
        rw [upd_ne (ne_of_none e nDe), upd_ne (ne_of_none e nDe)]
        exact e
      have eDe : (upd (upd H3 De (.dK [])) De (.dK (fkv [(nBehind, [89, s, 88])]))) De = some (.dK (fkv [(nBehind, [89, s, 88])])) := upd_same
      generalize upd (upd H3 De (.dK [])) De (.dK (fkv [(nBehind, [89, s, 88])])) = H8 at sE eDe
      have s24 := s3.trans sE
      obtain ⟨kk, eD, hkk⟩ := hov.same s24
      refine ⟨La, D, De, xcP cs s, ?_, ⟨.inl (by rw [sE _ _ e3, st_ahead, st_behind]; rfl), ⟨kk, eD, Paired.mono (fun kv m z => (MvNew.at z).to_in) hkk⟩, eDe⟩, xcP_parts hc hs, fun p H5 s5 n5 hp => ?_⟩
      · rw [st_XY]
        rfl
      · exact q p H5 ((s7.trans s24).trans s5) ((s7.trans s24).free n5) (hp.old fun x hx => (s7.trans s24).free hx)
end
end Tb

set_option Elab.async false
set_option linter.all false
set_option maxRecDepth 100000
set_option maxHeartbeats 4000000
namespace Tb
open PySem PySem.Spec PyProof.Rows L2 TL
/-! late -/
def nNo : List Nat := [110, 111]
def nYes : List Nat := [121, 101, 115]
theorem st_no : Str.ofString "no" = S nNo := by decide +kernel
theorem st_yes : Str.ofString "yes" = S nYes := by decide +kernel
theorem st_nil : Str.ofString "" = S [] := by decide +kernel
def ltTo (s a : Nat) : List Nat := if a = s then nYes else nNo
def ltM (s : Nat) (cs : List Nat) (pls : List (List Nat)) : List Mv := pls.flatMap fun p => rowP p (ltTo s) f1 cs
def ltP (cs : List Nat) (s : Nat) : Pt := ⟨cs, [88], [nNo, nYes], ltM s cs [nNo, nYes], [(nNo, []), (nYes, [88])]⟩
theorem ltM_mem {s : Nat} {cs : List Nat} {pls : List (List Nat)} {m : Mv} (h : m ∈ ltM s cs pls) : ∃ p ∈ pls, ∃ a ∈ cs, m = ⟨p, a, ltTo s a, f1 a⟩ := by
  obtain ⟨p, hp, h2⟩ := List.mem_flatMap.mp h
  obtain ⟨a, ha, rfl⟩ := List.mem_map.mp h2
  exact ⟨p, hp, a, ha, rfl⟩
theorem ltM_out {s : Nat} {cs : List Nat} {pls : List (List Nat)} {i j a : Nat} {pl : List Nat} (hp : pls[i]? = some pl) (np : pls.Nodup) (ha : cs[j]? = some a) (nd : cs.Nodup) : mkey pl a ∉ (ltM s cs (pls.take i) ++ rowP pl (ltTo s) f1 (cs.take j)).map Mv.key := fun z => by
  rw [List.map_append] at z
  rcases List.mem_append.mp z with z | z
  · obtain ⟨m, hm, e⟩ := List.mem_map.mp z
    obtain ⟨p, h1, b, _, rfl⟩ := ltM_mem hm
    have e1 := (mkey_inj (show mkey p b = mkey pl a from e)).1
    have et : pls.take (i + 1) = pls.take i ++ [pl] := by
      rw [List.take_add_one, hp]
      rfl
    have h6 : (pls.take (i + 1)).Nodup := (List.take_sublist _ _).nodup np
    rw [et, List.nodup_append] at h6
    exact h6.2.2 p h1 pl (List.mem_singleton.mpr rfl) e1
  · exact rowP_new ha nd z
theorem ltM_len {s : Nat} {cs : List Nat} : ∀ {pls : List (List Nat)}, (ltM s cs pls).length = pls.length * cs.length
  | [] => by simp [ltM]
  | p :: r => by
    show (rowP p (ltTo s) f1 cs ++ ltM s cs r).length = _
    rw [List.length_append, ltM_len, rowP, List.length_map, List.length_cons, Nat.succ_mul, Nat.add_comm]
theorem ltP_parts {cs : List Nat} {s : Nat} (h : okLetters cs = true) : PartsQ (ltP cs s) := by
  obtain ⟨h1, h2, h3, h4⟩ := low_of h
  have k1 : okBoxes [88] = true := by decide +kernel
  have k2 : okPlaces [nNo, nYes] = true := by decide +kernel
  have k3 : (([(nNo, []), (nYes, [88])] : List (List Nat × List Nat)).map (·.1)).Nodup := by decide +kernel
  have mT : nNo ∈ [nNo, nYes] := by simp
  have mL : nYes ∈ [nNo, nYes] := by simp
  have row : ∀ p, ((rowP p (ltTo s) f1 cs).map fun m : Mv => (m.pl, m.lt)).Nodup := fun p => by
    unfold rowP
    rw [List.map_map]
    exact List.Pairwise.map _ (fun a b hab z => hab (by injection z)) h4
  refine ⟨h, k1, k2, ?_, fun m hm => ?_, k3, fun q hq => ?_⟩
  · show ((rowP nNo (ltTo s) f1 cs ++ (rowP nYes (ltTo s) f1 cs ++ [])).map fun m : Mv => (m.pl, m.lt)).Nodup
    rw [List.append_nil, List.map_append, List.nodup_append]
    refine ⟨row _, row _, fun x hx y hy e => ?_⟩
    obtain ⟨m, hm, rfl⟩ := List.mem_map.mp hx
    obtain ⟨m2, hm2, rfl⟩ := List.mem_map.mp hy
    obtain ⟨a, _, rfl⟩ := List.mem_map.mp hm
    obtain ⟨b, _, rfl⟩ := List.mem_map.mp hm2
    have e := congrArg Prod.fst e
    have e : nNo = nYes := e
    revert e
    decide
  · obtain ⟨p, hp, a, ha, rfl⟩ := ltM_mem hm
    refine ⟨hp, ha, ?_, fil1 (h1 _ ha)⟩
    show (if a = s then nYes else nNo) ∈ _
    split
    · exact mL
    · exact mT
  · have h9 : q = (nNo, []) ∨ q = (nYes, [88]) := by simpa [ltP] using hq
    rcases h9 with h9 | h9 <;> subst h9
    · exact ⟨mT, (by decide +kernel : isFill [] [88] = true), (by decide : ([] : List Nat).length ≤ 1000)⟩
    · exact ⟨mL, (by decide +kernel : isFill [88] [88] = true), (by decide : ([88] : List Nat).length ≤ 1000)⟩
section
variable {P : Program} {w : World} {K : PySem.W.Frag} {mg : Str → Option Value} {base : Heap}
abbrev nLate : List Str := ["letters", "sign", "moves", "place", "letter"]
theorem scLate : FnScope nLate ["letters", "sign"] (defScope sLate) := ⟨rfl, rfl, rfl, by decide +kernel, rfl, by decide +kernel, by decide +kernel⟩
theorem ok_late {f C : Addr} {fd : FuncData} {k : Nat} (F : Fun K "late" "late" sLate f fd) (T : PrTxt K mg C) (DK : Mkr P w K mg base C k) : FnOk P w K mg base CX0 (k + 2) f fd ["letters", "sign"] (spKnown2 C ltP) := by
  refine F.ok scLate (fun vs H Q E h => ?_) (fun cdv A outer s0 H vs Q E hr h => ?_)
  · obtain ⟨cs, s, rfl, _⟩ := h
    rfl
  · obtain ⟨cs, s, rfl, hc, hs, q⟩ := h
    have hu := hu_of hr
    refine ⟨_, pss_cons (ps_set (i := 2) scLate.nd rfl (.inl rfl) pe_newT)
      (pss_cons (ps_for PassesOwn.never rfl (pi_tup (pe_tupS (pa_cons pe_str (pa_cons pe_str pa_nil)))) (pg_name (i := 3) scLate.nd rfl (.inl rfl))
        (pss_one (ps_for PassesOwn.never rfl (pi_str (pv 0)) (pg_name (i := 4) scLate.nd rfl (.inl rfl))
        (pss_one (ps_dput hu (pv 2) (pe_tupS (pa_cons (pv 3) (pa_cons (pv 4) pa_nil))) (pe_tupS (pa_cons (pe_ifExp (pt_cmpR op_eq (pv 4) (pv 1) (nomark _)) pe_str pe_str) (pa_cons (pe_disp (pps_cons pe_str (pe_op op_add_str pe_str (pv 4)) pps_nil) rfl rfl (by simp) (by show 1 ≤ 15; decide)) pa_nil))) rfl)))))
      (pss_one (ps_ret (pe_prog DK hr T.mgC (pa_cons (pv 0) (pa_cons pe_str (pa_cons (pe_lstS (pa_cons pe_str (pa_cons pe_str pa_nil))) (pa_cons (pv 2) (pa_cons (pe_disp (pps_cons pe_str pe_str (pps_cons pe_str pe_str pps_nil)) rfl rfl (by simp) (by show 2 ≤ 15; decide)) pa_nil))))))))), ?_⟩
    obtain ⟨c1, c2, c3, c4⟩ := low_of hc
    have big : (10000 : Nat) < sizeLine := by decide
    intro D H1 s1 nD e1
    refine ⟨by show 2 ≤ sizeLine; omega, fun tp H0 s0' n0 e0 => ?_⟩
    rw [st_no, st_yes] at e0
    have e0 : H0 tp = some (.tup (txs [nNo, nYes])) := e0
    have npl : ([nNo, nYes] : List (List Nat)).Nodup := by decide
    refine ⟨tp, rfl, ⟨_, SqT.of e0⟩, for_it (walk_tup (K := K) (a := tp) (xs := txs [nNo, nYes])) (fun i σ H' => ∃ v3 v4, σ = [some (.str (S cs)), some (.str (S [s])), some (.ref D), v3, v4] ∧ Same H H' ∧ KmAt H H' D (ltM s cs ([nNo, nYes].take i)) ∧ H' tp = some (.tup (txs [nNo, nYes]))) ⟨none, none, rfl, s1.trans s0', ⟨[], s0' _ _ e1, .nil⟩, e0⟩ (fun i σ H' _ ⟨_, _, _, _, _, h⟩ => SqT.of h) ?_ ?_⟩
    · rintro i x σ H2' H2 hi ⟨v3, v4, rfl, s2, hkm, et0⟩ ⟨rfl, hx⟩
      obtain ⟨pl, hpl, rfl⟩ : ∃ pl, ([nNo, nYes] : List (List Nat))[i]? = some pl ∧ V.str (S pl) = x := by
        unfold txs at hx
        rw [List.getElem?_map] at hx
        cases e : ([nNo, nYes] : List (List Nat))[i]? with
        | none =>
          rw [e] at hx
          cases hx
        | some y =>
          rw [e] at hx
          exact ⟨y, rfl, by injection hx⟩
      have etp : ([nNo, nYes] : List (List Nat)).take (i + 1) = ([nNo, nYes] : List (List Nat)).take i ++ [pl] := by
        rw [List.take_add_one, hpl]
        rfl
      refine ⟨_, rfl, S cs, rfl, for_it (walk_str (z := S cs)) (fun j σ H' => ∃ v4, σ = [some (.str (S cs)), some (.str (S [s])), some (.ref D), some (.str (S pl)), v4] ∧ Same H H' ∧ KmAt H H' D (ltM s cs ([nNo, nYes].take i) ++ rowP pl (ltTo s) f1 (cs.take j)) ∧ H' tp = some (.tup (txs [nNo, nYes]))) ⟨v4, rfl, s2, by rw [show rowP pl (ltTo s) f1 (cs.take 0) = [] from rfl, List.append_nil]; exact hkm, et0⟩ (fun _ _ _ _ _ => trivial) ?_ ?_⟩
      · rintro j x σ H2' H2 hj ⟨v4, rfl, s2, hkm, et0⟩ ⟨rfl, a, ha, rfl⟩
        have ha' : cs[j]? = some a := by
          rw [show (S cs).cps = cs.toArray from rfl, List.getElem?_toArray] at ha
          exact ha
        have et : cs.take (j + 1) = cs.take j ++ [a] := by
          rw [List.take_add_one, ha']
          rfl
        have hlen : (ltM s cs ([nNo, nYes].take i) ++ rowP pl (ltTo s) f1 (cs.take j)).length ≤ 20 := by
          rw [List.length_append, ltM_len, rowP, List.length_map, List.length_take, List.length_take]
          have : min i ([nNo, nYes] : List (List Nat)).length * cs.length ≤ 2 * 5 := Nat.mul_le_mul (Nat.min_le_right _ _) c3
          omega
        refine ⟨_, rfl, _, rfl, rfl, _, rfl, ?_⟩
        show if decide (V.str (S [a]) = V.str (S [s])) = true then _ else _
        by_cases e : a = s
        · rw [decide_eq_true (show V.str (S [a]) = V.str (S [s]) from e ▸ rfl)]
          have hto : ltTo s a = nYes := if_pos e
          refine iteT ?_
          intro Df nDf
          refine ⟨_, rfl, _, _, rfl, rfl, ?_, upd_same, fkv (f1 a), ?_, (by show 1 ≤ 15; decide), ?_⟩
          · rw [st_X, len_S]
            show 1 + 1 ≤ _
            omega
          · rw [st_X]
            rfl
          rw [merge_new _ [] (by show ([(Sum.inr (S [88]) : Key)]).Nodup; decide +kernel), List.nil_append]
          have sC : Same H2 (upd (upd H2 Df (.dK [])) Df (.dK (fkv (f1 a)))) := fun b o e => by
            rw [upd_ne (ne_of_none e nDf), upd_ne (ne_of_none e nDf)]
            exact e
          have eDf : (upd (upd H2 Df (.dK [])) Df (.dK (fkv (f1 a)))) Df = some (.dK (fkv (f1 a))) := upd_same
          generalize upd (upd H2 Df (.dK [])) Df (.dK (fkv (f1 a))) = H4 at sC eDf
          refine ⟨by show 2 ≤ sizeLine; omega, fun t H5 s5 n5 e5 => ?_⟩
          refine ⟨_, rfl, _, rfl, _, rfl, by show 2 ≤ sizeLine; omega, fun kt H6 s6 n6 e6 => ?_⟩
          have s26 := (sC.trans s5).trans s6
          have hkm6 := hkm.same s26
          obtain ⟨kk0, eD0, hkk0⟩ := id hkm6
          have hput := hkm6.put (m := ⟨pl, a, ltTo s a, f1 a⟩) (ltM_out hpl npl ha' c4) (t := t) (d := Df) (by show H6 t = some (.tup [.str (S (ltTo s a)), .ref Df]); rw [s6 _ _ e5, hto]; first | rw [st_yes] | rw [st_no]) (s6 _ _ (s5 _ _ eDf)) (s2.free nDf) kk0 eD0
          refine ⟨D, _, rfl, DPut.t (k := mkey pl a) eD0 (by rw [e6]; rfl) ?_, ?_⟩
          · rw [Paired.length hkk0]
            omega
          refine ⟨_, rfl, fun b o eb => ?_, ?_, ?_⟩
          · rw [upd_ne (ne_of_none eb nD)]
            exact s26 _ _ (s2 _ _ eb)
          · rw [et, rowP, List.map_append, ← List.append_assoc]
            exact hput
          · rw [upd_ne (ne_of (s26 _ _ et0) eD0 (by intro z; cases z))]
            exact s26 _ _ et0
        · rw [decide_eq_false (show V.str (S [a]) ≠ V.str (S [s]) from fun z => e (by have := S_inj (by injection z : S [a] = S [s]); injection this))]
          have hto : ltTo s a = nNo := if_neg e
          refine iteF ?_
          intro Df nDf
          refine ⟨_, rfl, _, _, rfl, rfl, ?_, upd_same, fkv (f1 a), ?_, (by show 1 ≤ 15; decide), ?_⟩
          · rw [st_X, len_S]
            show 1 + 1 ≤ _
            omega
          · rw [st_X]
            rfl
          rw [merge_new _ [] (by show ([(Sum.inr (S [88]) : Key)]).Nodup; decide +kernel), List.nil_append]
          have sC : Same H2 (upd (upd H2 Df (.dK [])) Df (.dK (fkv (f1 a)))) := fun b o e => by
            rw [upd_ne (ne_of_none e nDf), upd_ne (ne_of_none e nDf)]
            exact e
          have eDf : (upd (upd H2 Df (.dK [])) Df (.dK (fkv (f1 a)))) Df = some (.dK (fkv (f1 a))) := upd_same
          generalize upd (upd H2 Df (.dK [])) Df (.dK (fkv (f1 a))) = H4 at sC eDf
          refine ⟨by show 2 ≤ sizeLine; omega, fun t H5 s5 n5 e5 => ?_⟩
          refine ⟨_, rfl, _, rfl, _, rfl, by show 2 ≤ sizeLine; omega, fun kt H6 s6 n6 e6 => ?_⟩
          have s26 := (sC.trans s5).trans s6
          have hkm6 := hkm.same s26
          obtain ⟨kk0, eD0, hkk0⟩ := id hkm6
          have hput := hkm6.put (m := ⟨pl, a, ltTo s a, f1 a⟩) (ltM_out hpl npl ha' c4) (t := t) (d := Df) (by show H6 t = some (.tup [.str (S (ltTo s a)), .ref Df]); rw [s6 _ _ e5, hto]; first | rw [st_yes] | rw [st_no]) (s6 _ _ (s5 _ _ eDf)) (s2.free nDf) kk0 eD0
          refine ⟨D, _, rfl, DPut.t (k := mkey pl a) eD0 (by rw [e6]; rfl) ?_, ?_⟩
          · rw [Paired.length hkk0]
            omega
          refine ⟨_, rfl, fun b o eb => ?_, ?_, ?_⟩
          · rw [upd_ne (ne_of_none eb nD)]
            exact s26 _ _ (s2 _ _ eb)
          · rw [et, rowP, List.map_append, ← List.append_assoc]
            exact hput
          · rw [upd_ne (ne_of (s26 _ _ et0) eD0 (by intro z; cases z))]
            exact s26 _ _ et0
      · rintro σ H2 ⟨v4, rfl, s7, hkm, et0⟩
        rw [show (S cs).cps.size = cs.length from len_S _, List.take_length] at hkm
        refine ⟨_, _, rfl, s7, ?_, et0⟩
        rw [etp, ltM, List.flatMap_append, List.flatMap_singleton]
        exact hkm
    · rintro σ H2 ⟨v3, v4, rfl, s7, hkm, _⟩
      rw [show (txs [nNo, nYes]).length = 2 from rfl, show ([nNo, nYes] : List (List Nat)).take 2 = [nNo, nYes] from rfl] at hkm
      refine ⟨_, rfl, by show 2 ≤ sizeLine; omega, fun La H3 s3 n3 e3 => ?_⟩
      refine ⟨_, rfl, ?_⟩
      intro De nDe
      refine ⟨upd_same, fkv [(nNo, []), (nYes, [88])], ?_, by decide, ?_⟩
      · rw [st_no, st_yes, st_X, st_nil]
        rfl
      rw [merge_new _ [] (by show ([(Sum.inr (S nNo) : Key), Sum.inr (S nYes)]).Nodup; decide +kernel), List.nil_append]
      have sE : Same H3 (upd (upd H3 De (.dK [])) De (.dK (fkv [(nNo, []), (nYes, [88])]))) := fun b o e => by
        rw [upd_ne (ne_of_none e nDe), upd_ne (ne_of_none e nDe)]
        exact e
      have eDe : (upd (upd H3 De (.dK [])) De (.dK (fkv [(nNo, []), (nYes, [88])]))) De = some (.dK (fkv [(nNo, []), (nYes, [88])])) := upd_same
      generalize upd (upd H3 De (.dK [])) De (.dK (fkv [(nNo, []), (nYes, [88])])) = H8 at sE eDe
      have s24 := s3.trans sE
      obtain ⟨kk, eD, hkk⟩ := hkm.same s24
      refine ⟨La, D, De, ltP cs s, ?_, ⟨.inl (by rw [sE _ _ e3, st_no, st_yes]; rfl), ⟨kk, eD, Paired.mono (fun kv m z => (MvNew.at z).to_in) hkk⟩, eDe⟩, ltP_parts hc, fun p H5 s5 n5 hp => ?_⟩
      · rw [st_X]
        rfl
      · exact q p H5 ((s7.trans s24).trans s5) ((s7.trans s24).free n5) (hp.old fun x hx => (s7.trans s24).free hx)
end
end Tb

set_option Elab.async false
set_option linter.all false
set_option maxRecDepth 100000
set_option maxHeartbeats 4000000
namespace Tb
open PySem PySem.Spec PyProof.Rows L2 TL
/-! what the known programs tell -/
section
variable {pl : List Nat} {to : Nat → List Nat} {f : Nat → Fil} {cs : List Nat} {a : Nat} {x y : List Nat}
theorem findM_cons {m : Mv} {ms : List Mv} {c : List Nat} {b : Nat} : findM (m :: ms) c b = if m.pl = c ∧ m.lt = b then some m else findM ms c b := by
  unfold findM
  rw [List.find?_cons]
  by_cases e : m.pl = c ∧ m.lt = b
  · rw [if_pos e, decide_eq_true e]
  · rw [if_neg e, decide_eq_false e]
theorem findM_app {ms ns : List Mv} {c : List Nat} {b : Nat} (h : findM ms c b = none) : findM (ms ++ ns) c b = findM ns c b := by
  unfold findM at *
  rw [List.find?_append, h]
  rfl
theorem findM_row (h : a ∈ cs) : findM (rowP pl to f cs) pl a = some ⟨pl, a, to a, f a⟩ := by
  induction cs with
  | nil => exact nomatch h
  | cons b cs ih =>
    show findM ((⟨pl, b, to b, f b⟩ : Mv) :: rowP pl to f cs) pl a = _
    rw [findM_cons]
    by_cases e : b = a
    · subst e
      rw [if_pos ⟨rfl, rfl⟩]
    · rw [if_neg fun z => e z.2]
      rcases List.mem_cons.mp h with h | h
      · exact (e h.symm).elim
      · exact ih h
theorem kept_row : (rowP pl to f cs).map keptM = rowP pl to (fun a => keptF (f a)) cs := by
  unfold rowP
  rw [List.map_map]
  rfl
theorem so1 : sortN [88] = [88] := by decide +kernel
theorem so2 : sortN [88, 89] = [88, 89] := List.mergeSort_of_pairwise (by decide)
theorem kept_f1 : keptF (f1 a) = f1 a := by
  unfold keptF
  rw [show ((f1 a).map fun q => q.1.headD 0) = [88] from rfl, so1]
  rfl
theorem kept_f0 : keptF f0 = f0 := by
  unfold keptF
  rw [show (f0.map fun q => q.1.headD 0) = [88] from rfl, so1]
  rfl
theorem kept_fb : keptF ([([88], [a, 88])] : Fil) = [([88], [a, 88])] := by
  unfold keptF
  rw [show (([([88], [a, 88])] : Fil).map fun q => q.1.headD 0) = [88] from rfl, so1]
  rfl
theorem kept_fX : keptF (fX a) = fX a := by
  unfold keptF
  rw [show ((fX a).map fun q => q.1.headD 0) = [88, 89] from rfl, so2]
  rfl
theorem kept_fY : keptF (fY a) = fY a := by
  unfold keptF
  rw [show ((fY a).map fun q => q.1.headD 0) = [88, 89] from rfl, so2]
  rfl
def E1 (x : List Nat) : Env := [(88, x)]
def E2 (x y : List Nat) : Env := [(88, x), (89, y)]
theorem low_ne (h : isLow a = true) : 88 ≠ a ∧ 89 ≠ a := by
  constructor
  all_goals
    intro z
    subst z
    revert h
    decide
theorem g1a (h : isLow a = true) : getC (E1 x) a = none := by
  unfold E1
  rw [getC_cons, if_neg (low_ne h).1]
  rfl
theorem g2a (h : isLow a = true) : getC (E2 x y) a = none := by
  unfold E2
  rw [getC_cons, if_neg (low_ne h).1, getC_cons, if_neg (low_ne h).2]
  rfl
theorem g1x : getC (E1 x) 88 = some x := by
  unfold E1
  rw [getC_cons, if_pos rfl]
theorem g2x : getC (E2 x y) 88 = some x := by
  unfold E2
  rw [getC_cons, if_pos rfl]
theorem g2y : getC (E2 x y) 89 = some y := by
  unfold E2
  rw [getC_cons, if_neg (show ¬ (88 : Nat) = 89 by decide), getC_cons, if_pos rfl]
theorem fC_cons {env : Env} {c : Nat} {r : List Nat} : fillC env (c :: r) = (getC env c).getD [c] ++ fillC env r := rfl
theorem fC_nil {env : Env} : fillC env [] = [] := rfl
theorem capE1 : ∀ q ∈ E1 x, isCap q.1 = true := fun q hq => by
  rw [List.mem_singleton.mp hq]
  show isCap 88 = true
  decide
theorem capE2 : ∀ q ∈ E2 x y, isCap q.1 = true := fun q hq => by
  have h : q = (88, x) ∨ q = (89, y) := by simpa [E2] using hq
  rcases h with h | h
  · rw [h]
    show isCap 88 = true
    decide
  · rw [h]
    show isCap 89 = true
    decide
/-- a step in one box -/
theorem step1 {ms : List Mv} {c d : List Nat} {g : Fil} (h : findM ms c a = some ⟨c, a, d, g⟩) : stepE ms [88] (c, E1 x) a = some (d, E1 (fillC (E1 x) (fil g 88))) := by
  unfold stepE
  show (findM ms c a).map _ = _
  rw [h]
  show some (d, [(88, fillE (E1 x) (partsOf (fil g 88)))]) = _
  rw [fill_same capE1]
  rfl
theorem step2 {ms : List Mv} {c d : List Nat} {g : Fil} (h : findM ms c a = some ⟨c, a, d, g⟩) : stepE ms [88, 89] (c, E2 x y) a = some (d, E2 (fillC (E2 x y) (fil g 88)) (fillC (E2 x y) (fil g 89))) := by
  unfold stepE
  show (findM ms c a).map _ = _
  rw [h]
  show some (d, [(88, fillE (E2 x y) (partsOf (fil g 88))), (89, fillE (E2 x y) (partsOf (fil g 89)))]) = _
  rw [fill_same capE2, fill_same capE2]
  rfl
end
theorem run_plain {cs : List Nat} (hl : ∀ c ∈ cs, isLow c = true) : ∀ (t x : List Nat), (∀ c ∈ t, c ∈ cs) → runE (rowP nOn (fun _ => nOn) f1 cs) [88] (nOn, E1 x) t = some (nOn, E1 (x ++ t))
  | [], x, _ => by rw [List.append_nil]; rfl
  | a :: r, x, h => by
    have ha := h a (List.mem_cons_self ..)
    show (stepE _ [88] (nOn, E1 x) a).bind _ = _
    rw [step1 (findM_row ha)]
    show runE _ [88] (nOn, E1 (fillC (E1 x) [88, a])) r = _
    rw [fC_cons, fC_cons, fC_nil, g1x, g1a (hl a ha), run_plain hl r _ fun c hc => h c (List.mem_cons_of_mem _ hc)]
    simp
theorem told_plain {cs t : List Nat} (h : okLetters cs = true) (ht : ∀ c ∈ t, c ∈ cs) : toldE ((plP cs).moves.map keptM) (sortN (plP cs).boxes) (plP cs).ends nOn t = some t := by
  have hl := (low_of h).1
  rw [show (plP cs).moves.map keptM = rowP nOn (fun _ => nOn) f1 cs from kept_row.trans (by rw [show (fun a => keptF ([([88], [88, a])] : Fil)) = f1 from funext fun a => kept_f1]), show sortN (plP cs).boxes = [88] from so1]
  unfold toldE
  show (runE _ [88] (nOn, E1 []) t).bind _ = _
  rw [run_plain hl t [] ht, List.nil_append]
  show some (fillE (E1 t) (partsOf [88])) = _
  rw [fill_same capE1, fC_cons, fC_nil, g1x]
  simp
theorem run_back {cs : List Nat} (hl : ∀ c ∈ cs, isLow c = true) : ∀ (t x : List Nat), (∀ c ∈ t, c ∈ cs) → runE (rowP nOn (fun _ => nOn) (fun a => [([88], [a, 88])]) cs) [88] (nOn, E1 x) t = some (nOn, E1 (t.reverse ++ x))
  | [], x, _ => rfl
  | a :: r, x, h => by
    have ha := h a (List.mem_cons_self ..)
    show (stepE _ [88] (nOn, E1 x) a).bind _ = _
    rw [step1 (findM_row ha)]
    show runE _ [88] (nOn, E1 (fillC (E1 x) [a, 88])) r = _
    rw [fC_cons, fC_cons, fC_nil, g1x, g1a (hl a ha), run_back hl r _ fun c hc => h c (List.mem_cons_of_mem _ hc)]
    simp
theorem told_back {cs t : List Nat} (h : okLetters cs = true) (ht : ∀ c ∈ t, c ∈ cs) : toldE ((baP cs).moves.map keptM) (sortN (baP cs).boxes) (baP cs).ends nOn t = some t.reverse := by
  have hl := (low_of h).1
  rw [show (baP cs).moves.map keptM = rowP nOn (fun _ => nOn) (fun a => [([88], [a, 88])]) cs from kept_row.trans (by rw [show (fun a => keptF ([([88], [a, 88])] : Fil)) = fun a => [([88], [a, 88])] from funext fun a => kept_fb]), show sortN (baP cs).boxes = [88] from so1]
  unfold toldE
  show (runE _ [88] (nOn, E1 []) t).bind _ = _
  rw [run_back hl t [] ht, List.append_nil]
  show some (fillE (E1 t.reverse) (partsOf [88])) = _
  rw [fill_same capE1, fC_cons, fC_nil, g1x]
  simp
/-- sorting: the signs apart, then all others -/
theorem run_sort {cs : List Nat} {s : Nat} (hl : ∀ c ∈ cs, isLow c = true) : ∀ (t x y : List Nat), (∀ c ∈ t, c ∈ cs) → runE (rowP nOn (fun a => if a = s then nOn else nOn) (fun a => if a = s then fY s else fX a) cs) [88, 89] (nOn, E2 x y) t = some (nOn, E2 (x ++ t.filter fun c => decide (c = s)) (y ++ t.filter fun c => !decide (c = s)))
  | [], x, y, _ => by rw [List.filter_nil, List.filter_nil, List.append_nil, List.append_nil]; rfl
  | a :: r, x, y, h => by
    have ha := h a (List.mem_cons_self ..)
    have ih := run_sort (s := s) hl r
    show (stepE _ [88, 89] (nOn, E2 x y) a).bind _ = _
    rw [step2 (findM_row ha)]
    show runE _ [88, 89] (if a = s then nOn else nOn, _) r = _
    rw [show (if a = s then nOn else nOn) = nOn by split <;> rfl]
    by_cases e : a = s
    · subst e
      rw [if_pos rfl]
      show runE _ [88, 89] (nOn, E2 (fillC (E2 x y) [88, a]) (fillC (E2 x y) [89])) r = _
      rw [fC_cons, fC_cons, fC_nil, fC_cons, fC_nil, g2x, g2y, g2a (hl a ha), ih _ _ fun c hc => h c (List.mem_cons_of_mem _ hc)]
      simp
    · rw [if_neg e]
      show runE _ [88, 89] (nOn, E2 (fillC (E2 x y) [88]) (fillC (E2 x y) [89, a])) r = _
      rw [fC_cons, fC_nil, fC_cons, fC_cons, fC_nil, g2x, g2y, g2a (hl a ha), ih _ _ fun c hc => h c (List.mem_cons_of_mem _ hc)]
      simp [e]
theorem told_sort {cs t : List Nat} {s : Nat} (h : okLetters cs = true) (ht : ∀ c ∈ t, c ∈ cs) : toldE ((srP cs s).moves.map keptM) (sortN (srP cs s).boxes) (srP cs s).ends nOn t = some ((t.filter fun c => decide (c = s)) ++ t.filter fun c => !decide (c = s)) := by
  have hl := (low_of h).1
  have e : (fun a => keptF (if a = s then fY s else fX a)) = fun a => if a = s then fY s else fX a := by
    funext a
    split
    · exact kept_fY
    · exact kept_fX
  rw [show (srP cs s).moves.map keptM = rowP nOn (fun a => if a = s then nOn else nOn) (fun a => if a = s then fY s else fX a) cs from kept_row.trans (by rw [e]), show sortN (srP cs s).boxes = [88, 89] from so2]
  unfold toldE
  show (runE _ [88, 89] (nOn, E2 [] []) t).bind _ = _
  rw [run_sort hl t [] [] ht, List.nil_append, List.nil_append]
  show some (fillE (E2 _ _) (partsOf [88, 89])) = _
  rw [fill_same capE2, fC_cons, fC_cons, fC_nil, g2x, g2y]
  simp
end Tb

set_option Elab.async false
set_option linter.all false
set_option maxRecDepth 100000
set_option maxHeartbeats 4000000
namespace Tb
open PySem PySem.Spec PyProof.Rows L2 TL
section
variable {p q : List Nat} {tp tq : Nat → List Nat} {fp fq : Nat → Fil} {cs : List Nat} {a : Nat}
theorem two_kept : (two p q tp tq fp fq cs).map keptM = two p q tp tq (fun a => keptF (fp a)) (fun a => keptF (fq a)) cs := by
  induction cs with
  | nil => rfl
  | cons b cs ih =>
    show keptM _ :: keptM _ :: (two p q tp tq fp fq cs).map keptM = _
    rw [ih]
    rfl
theorem findM_two1 (pq : p ≠ q) (h : a ∈ cs) : findM (two p q tp tq fp fq cs) p a = some ⟨p, a, tp a, fp a⟩ := by
  induction cs with
  | nil => exact nomatch h
  | cons b cs ih =>
    show findM ((⟨p, b, tp b, fp b⟩ : Mv) :: ⟨q, b, tq b, fq b⟩ :: two p q tp tq fp fq cs) p a = _
    rw [findM_cons, findM_cons]
    by_cases e : b = a
    · subst e
      rw [if_pos ⟨rfl, rfl⟩]
    · rw [if_neg fun z => e z.2, if_neg fun z => e z.2]
      rcases List.mem_cons.mp h with h | h
      · exact (e h.symm).elim
      · exact ih h
theorem findM_two2 (pq : p ≠ q) (h : a ∈ cs) : findM (two p q tp tq fp fq cs) q a = some ⟨q, a, tq a, fq a⟩ := by
  induction cs with
  | nil => exact nomatch h
  | cons b cs ih =>
    show findM ((⟨p, b, tp b, fp b⟩ : Mv) :: ⟨q, b, tq b, fq b⟩ :: two p q tp tq fp fq cs) q a = _
    rw [findM_cons, findM_cons, if_neg fun z => pq z.1]
    by_cases e : b = a
    · subst e
      rw [if_pos ⟨rfl, rfl⟩]
    · rw [if_neg fun z => e z.2]
      rcases List.mem_cons.mp h with h | h
      · exact (e h.symm).elim
      · exact ih h
/-- a step in one box, to another place -/
theorem step1t {ms : List Mv} {c d : List Nat} {g : Fil} {x : List Nat} (h : findM ms c a = some ⟨c, a, d, g⟩) {z : List Nat} (e : fillC (E1 x) (fil g 88) = z) : stepE ms [88] (c, E1 x) a = some (d, E1 z) := by
  rw [step1 h, e]
theorem step2t {ms : List Mv} {c d : List Nat} {g : Fil} {x y z1 z2 : List Nat} (h : findM ms c a = some ⟨c, a, d, g⟩) (e1 : fillC (E2 x y) (fil g 88) = z1) (e2 : fillC (E2 x y) (fil g 89) = z2) : stepE ms [88, 89] (c, E2 x y) a = some (d, E2 z1 z2) := by
  rw [step2 h, e1, e2]
end
theorem runE_cons {ms : List Mv} {B : List Nat} {s s' : List Nat × Env} {a : Nat} {r : List Nat} (h : stepE ms B s a = some s') : runE ms B s (a :: r) = runE ms B s' r := by
  show (stepE ms B s a).bind _ = _
  rw [h]
  rfl
/-! halving -/
def half : List Nat → List Nat
  | [] => []
  | [a] => [a]
  | a :: _ :: r => a :: half r
abbrev hvM' (cs : List Nat) : List Mv := two nTake nLeave (fun _ => nLeave) (fun _ => nTake) f1 (fun _ => f0) cs
theorem run_half {cs : List Nat} (hl : ∀ c ∈ cs, isLow c = true) : ∀ (t x : List Nat), (∀ c ∈ t, c ∈ cs) → ∃ c, (c = nTake ∨ c = nLeave) ∧ runE (hvM' cs) [88] (nTake, E1 x) t = some (c, E1 (x ++ half t))
  | [], x, _ => ⟨nTake, .inl rfl, by rw [show half [] = [] from rfl, List.append_nil]; rfl⟩
  | [a], x, h => by
    have ha := h a (List.mem_cons_self ..)
    refine ⟨nLeave, .inr rfl, ?_⟩
    rw [runE_cons (step1t (z := x ++ [a]) (findM_two1 (by decide) ha) (by show fillC (E1 x) [88, a] = _; rw [fC_cons, fC_cons, fC_nil, g1x, g1a (hl a ha)]; simp))]
    rfl
  | a :: b :: r, x, h => by
    have ha := h a (List.mem_cons_self ..)
    have hb := h b (List.mem_cons_of_mem _ (List.mem_cons_self ..))
    obtain ⟨c, hc, e⟩ := run_half hl r (x ++ [a]) fun c hc => h c (List.mem_cons_of_mem _ (List.mem_cons_of_mem _ hc))
    refine ⟨c, hc, ?_⟩
    rw [runE_cons (step1t (z := x ++ [a]) (findM_two1 (by decide) ha) (by show fillC (E1 x) [88, a] = _; rw [fC_cons, fC_cons, fC_nil, g1x, g1a (hl a ha)]; simp)),
      runE_cons (step1t (z := x ++ [a]) (findM_two2 (by decide) hb) (by show fillC (E1 (x ++ [a])) [88] = _; rw [fC_cons, fC_nil, g1x]; simp)), e, show half (a :: b :: r) = a :: half r from rfl, List.append_assoc]
    rfl
theorem told_half {cs t : List Nat} (h : okLetters cs = true) (ht : ∀ c ∈ t, c ∈ cs) : toldE ((hvP cs).moves.map keptM) (sortN (hvP cs).boxes) (hvP cs).ends nTake t = some (half t) := by
  have hl := (low_of h).1
  rw [show (hvP cs).moves.map keptM = hvM' cs from two_kept.trans (by rw [show (fun a => keptF (f1 a)) = f1 from funext fun a => kept_f1, show (fun _ : Nat => keptF f0) = fun _ => f0 from funext fun a => kept_f0]), show sortN (hvP cs).boxes = [88] from so1]
  unfold toldE
  show (runE _ [88] (nTake, E1 []) t).bind _ = _
  obtain ⟨c, hc, e⟩ := run_half hl t [] ht
  rw [e, List.nil_append]
  rcases hc with hc | hc <;> subst hc
  all_goals
    show some (fillE (E1 (half t)) (partsOf [88])) = _
    rw [fill_same capE1, fC_cons, fC_nil, g1x]
    simp
/-! exchanging -/
abbrev xcM' (s : Nat) (cs : List Nat) : List Mv := two nAhead nBehind (fun a => if a = s then nBehind else nAhead) (fun _ => nBehind) (fun a => if a = s then f0 else f1 a) fX cs
theorem run_behind {cs : List Nat} {s : Nat} (hl : ∀ c ∈ cs, isLow c = true) : ∀ (t x y : List Nat), (∀ c ∈ t, c ∈ cs) → runE (xcM' s cs) [88, 89] (nBehind, E2 x y) t = some (nBehind, E2 x (y ++ t))
  | [], x, y, _ => by rw [List.append_nil]; rfl
  | a :: r, x, y, h => by
    have ha := h a (List.mem_cons_self ..)
    rw [runE_cons (step2t (z1 := x) (z2 := y ++ [a]) (findM_two2 (by decide) ha) (by show fillC (E2 x y) [88] = _; rw [fC_cons, fC_nil, g2x]; simp) (by show fillC (E2 x y) [89, a] = _; rw [fC_cons, fC_cons, fC_nil, g2y, g2a (hl a ha)]; simp)),
      run_behind hl r _ _ fun c hc => h c (List.mem_cons_of_mem _ hc), List.append_assoc]
    rfl
theorem run_ahead {cs : List Nat} {s : Nat} (hl : ∀ c ∈ cs, isLow c = true) : ∀ (t x : List Nat), (∀ c ∈ t, c ∈ cs) → s ∉ t → runE (xcM' s cs) [88, 89] (nAhead, E2 x []) t = some (nAhead, E2 (x ++ t) [])
  | [], x, _, _ => by rw [List.append_nil]; rfl
  | a :: r, x, h, hs => by
    have ha := h a (List.mem_cons_self ..)
    have e : ¬ a = s := fun z => hs (z ▸ List.mem_cons_self ..)
    have f := findM_two1 (p := nAhead) (q := nBehind) (tp := fun a => if a = s then nBehind else nAhead) (tq := fun _ => nBehind) (fp := fun a => if a = s then f0 else f1 a) (fq := fX) (by decide) ha
    simp only [if_neg e] at f
    rw [runE_cons (step2t (z1 := x ++ [a]) (z2 := []) f (by show fillC (E2 x []) [88, a] = _; rw [fC_cons, fC_cons, fC_nil, g2x, g2a (hl a ha)]; simp) rfl),
      run_ahead hl r _ (fun c hc => h c (List.mem_cons_of_mem _ hc)) fun z => hs (List.mem_cons_of_mem _ z), List.append_assoc]
    rfl
theorem run_exch {cs u v : List Nat} {s : Nat} (hl : ∀ c ∈ cs, isLow c = true) (hs : s ∈ cs) (hu : ∀ c ∈ u, c ∈ cs) (hv : ∀ c ∈ v, c ∈ cs) (hn : s ∉ u) : runE (xcM' s cs) [88, 89] (nAhead, E2 [] []) (u ++ s :: v) = some (nBehind, E2 u v) := by
  have f := findM_two1 (p := nAhead) (q := nBehind) (tp := fun a => if a = s then nBehind else nAhead) (tq := fun _ => nBehind) (fp := fun a => if a = s then f0 else f1 a) (fq := fX) (by decide) hs
  simp only [if_pos] at f
  rw [runE_app, run_ahead hl u [] hu hn, List.nil_append]
  show runE _ [88, 89] (nAhead, E2 u []) (s :: v) = _
  rw [runE_cons (step2t (z1 := u) (z2 := []) f (by show fillC (E2 u []) [88] = _; rw [fC_cons, fC_nil, g2x]; simp) rfl), run_behind hl v _ _ hv, List.nil_append]
theorem exch_ms {cs : List Nat} {s : Nat} : (xcP cs s).moves.map keptM = xcM' s cs := two_kept.trans (by
  rw [show (fun a => keptF (if a = s then f0 else f1 a)) = fun a => if a = s then f0 else f1 a from funext fun a => by
    split
    · exact kept_f0
    · exact kept_f1, show (fun a => keptF (fX a)) = fX from funext fun a => kept_fX])
theorem told_exch {cs u v : List Nat} {s : Nat} (h : okLetters cs = true) (hs : s ∈ cs) (hu : ∀ c ∈ u, c ∈ cs) (hv : ∀ c ∈ v, c ∈ cs) (hn : s ∉ u) : toldE ((xcP cs s).moves.map keptM) (sortN (xcP cs s).boxes) (xcP cs s).ends nAhead (u ++ s :: v) = some (v ++ s :: u) := by
  have hl := (low_of h).1
  rw [exch_ms, show sortN (xcP cs s).boxes = [88, 89] from so2]
  unfold toldE
  show (runE _ [88, 89] (nAhead, E2 [] []) _).bind _ = _
  rw [run_exch hl hs hu hv hn]
  show some (fillE (E2 u v) (partsOf [89, s, 88])) = _
  rw [fill_same capE2, fC_cons, fC_cons, fC_cons, fC_nil, g2x, g2y, g2a (hl s hs)]
  simp
theorem told_exch_none {cs t : List Nat} {s : Nat} (h : okLetters cs = true) (ht : ∀ c ∈ t, c ∈ cs) (hn : s ∉ t) : toldE ((xcP cs s).moves.map keptM) (sortN (xcP cs s).boxes) (xcP cs s).ends nAhead t = none := by
  have hl := (low_of h).1
  rw [exch_ms, show sortN (xcP cs s).boxes = [88, 89] from so2]
  unfold toldE
  show (runE _ [88, 89] (nAhead, E2 [] []) _).bind _ = _
  rw [run_ahead hl t [] ht hn]
  rfl
/-! late -/
theorem findM_late {cs : List Nat} {s a : Nat} {c : List Nat} (hc : c = nNo ∨ c = nYes) (h : a ∈ cs) : findM (ltM s cs [nNo, nYes]) c a = some ⟨c, a, ltTo s a, f1 a⟩ := by
  show findM (rowP nNo (ltTo s) f1 cs ++ (rowP nYes (ltTo s) f1 cs ++ [])) c a = _
  rw [List.append_nil]
  rcases hc with hc | hc <;> subst hc
  · unfold findM
    rw [List.find?_append]
    have := findM_row (pl := nNo) (to := ltTo s) (f := f1) h
    unfold findM at this
    rw [this]
    rfl
  · rw [findM_app, findM_row h]
    unfold findM
    rw [List.find?_eq_none]
    intro m hm
    obtain ⟨b, _, rfl⟩ := List.mem_map.mp hm
    simp only [decide_eq_true_eq]
    intro z
    have z := z.1
    revert z
    show ¬ nNo = nYes
    decide
theorem run_late {cs : List Nat} {s : Nat} (hl : ∀ c ∈ cs, isLow c = true) : ∀ (t : List Nat) (c x : List Nat), (c = nNo ∨ c = nYes) → (∀ c ∈ t, c ∈ cs) → runE (ltM s cs [nNo, nYes]) [88] (c, E1 x) t = some ((t.getLast?.map (ltTo s)).getD c, E1 (x ++ t))
  | [], c, x, _, _ => by rw [List.append_nil]; rfl
  | a :: r, c, x, hc, h => by
    have ha := h a (List.mem_cons_self ..)
    rw [runE_cons (step1t (z := x ++ [a]) (findM_late hc ha) (by show fillC (E1 x) [88, a] = _; rw [fC_cons, fC_cons, fC_nil, g1x, g1a (hl a ha)]; simp)),
      run_late hl r _ _ (by unfold ltTo; split <;> simp) fun c hc => h c (List.mem_cons_of_mem _ hc), List.append_assoc]
    cases r with
    | nil => rfl
    | cons b r =>
      rw [List.getLast?_cons_cons, List.getLast?_eq_some_getLast (List.cons_ne_nil b r)]
      rfl
theorem told_late {cs t : List Nat} {s : Nat} (h : okLetters cs = true) (ht : ∀ c ∈ t, c ∈ cs) : toldE ((ltP cs s).moves.map keptM) (sortN (ltP cs s).boxes) (ltP cs s).ends nNo t = some (if t.getLast? = some s then t else []) := by
  have hl := (low_of h).1
  have em : (ltP cs s).moves.map keptM = ltM s cs [nNo, nYes] := by
    show (rowP nNo (ltTo s) f1 cs ++ (rowP nYes (ltTo s) f1 cs ++ [])).map keptM = rowP nNo (ltTo s) f1 cs ++ (rowP nYes (ltTo s) f1 cs ++ [])
    rw [List.append_nil, List.map_append, kept_row, kept_row, show (fun a => keptF (f1 a)) = f1 from funext fun a => kept_f1]
  rw [em, show sortN (ltP cs s).boxes = [88] from so1]
  unfold toldE
  show (runE _ [88] (nNo, E1 []) t).bind _ = _
  rw [run_late hl t nNo [] (.inl rfl) ht, List.nil_append]
  cases e : t.getLast? with
  | none =>
    rw [if_neg (fun z => nomatch z)]
    show some (fillE (E1 t) (partsOf [])) = _
    rw [fill_same capE1]
    rfl
  | some b =>
    by_cases hb : b = s
    · subst hb
      rw [if_pos rfl]
      show (getF (ltP cs b).ends (ltTo b b)).map _ = _
      rw [show ltTo b b = nYes from if_pos rfl]
      show some (fillE (E1 t) (partsOf [88])) = _
      rw [fill_same capE1, fC_cons, fC_nil, g1x]
      simp
    · rw [if_neg fun z => hb (Option.some.inj z)]
      show (getF (ltP cs s).ends (ltTo s b)).map _ = _
      rw [show ltTo s b = nNo from if_neg hb]
      show some (fillE (E1 t) (partsOf [])) = _
      rw [fill_same capE1]
      rfl
end Tb

set_option Elab.async false
set_option linter.all false
set_option maxRecDepth 100000
set_option maxHeartbeats 4000000
namespace Tb
open PySem PySem.Spec PyProof.Rows L2 TL
/-! what told asks of the six programs -/
inductive FlOk : List Nat → Fil → Prop
  | a1 {a : Nat} (h : isLow a = true) : FlOk [88] (f1 a)
  | b1 {a : Nat} (h : isLow a = true) : FlOk [88] [([88], [a, 88])]
  | z1 : FlOk [88] f0
  | a2 {a : Nat} (h : isLow a = true) : FlOk [88, 89] (f1 a)
  | z2 : FlOk [88, 89] f0
  | x2 {a : Nat} (h : isLow a = true) : FlOk [88, 89] (fX a)
  | y2 {a : Nat} (h : isLow a = true) : FlOk [88, 89] (fY a)
theorem low_nc {a : Nat} (h : isLow a = true) : isCap a = false := by
  unfold isLow at h
  unfold isCap
  have h := of_decide_eq_true h
  exact decide_eq_false (by omega)
theorem FlOk.good {B : List Nat} {fl : Fil} (h : FlOk B fl) (pl : List Nat) (a : Nat) (to : List Nat) : MvGood B ⟨pl, a, to, fl⟩ := by
  cases h with
  | a1 h => exact ⟨fun x hx => by rw [List.mem_singleton.mp hx]; show [88, _].count 88 ≤ 1; have := low_ne h; simp [List.count_cons, this.1.symm], by show 2 ≤ 1000; decide, by show 2 ≤ 7; decide⟩
  | b1 h => exact ⟨fun x hx => by rw [List.mem_singleton.mp hx]; show [_, 88].count 88 ≤ 1; have := low_ne h; simp [List.count_cons, this.1.symm], by show 2 ≤ 1000; decide, by show 2 ≤ 7; decide⟩
  | z1 => exact ⟨fun x hx => by rw [List.mem_singleton.mp hx]; show [88].count 88 ≤ 1; decide, by show 1 ≤ 1000; decide, by show 1 ≤ 7; decide⟩
  | a2 h => exact ⟨fun x hx => by
      have := low_ne h
      have hx : x = 88 ∨ x = 89 := by simpa using hx
      rcases hx with hx | hx <;> subst hx
      · show [88, _].count 88 ≤ 1; simp [List.count_cons, this.1.symm]
      · show [88, _].count 89 ≤ 1; simp [List.count_cons, this.2.symm], by show 2 ≤ 1000; decide, by show 2 ≤ 14; decide⟩
  | z2 => exact ⟨fun x hx => by
      have hx : x = 88 ∨ x = 89 := by simpa using hx
      rcases hx with hx | hx <;> subst hx
      · show [88].count 88 ≤ 1; decide
      · show [88].count 89 ≤ 1; decide, by show 1 ≤ 1000; decide, by show 1 ≤ 14; decide⟩
  | x2 h => exact ⟨fun x hx => by
      have := low_ne h
      have hx : x = 88 ∨ x = 89 := by simpa using hx
      rcases hx with hx | hx <;> subst hx
      · show [88, 89, _].count 88 ≤ 1; simp [List.count_cons, this.1.symm]
      · show [88, 89, _].count 89 ≤ 1; simp [List.count_cons, this.2.symm], by show 3 ≤ 1000; decide, by show 3 ≤ 14; decide⟩
  | y2 h => exact ⟨fun x hx => by
      have := low_ne h
      have hx : x = 88 ∨ x = 89 := by simpa using hx
      rcases hx with hx | hx <;> subst hx
      · show [88, _, 89].count 88 ≤ 1; simp [List.count_cons, this.1.symm]
      · show [88, _, 89].count 89 ≤ 1; simp [List.count_cons, this.2.symm], by show 3 ≤ 1000; decide, by show 3 ≤ 14; decide⟩
theorem FlOk.each {B : List Nat} {fl : Fil} (h : FlOk B fl) : ∀ q ∈ fl, q.2.length ≤ 1000 ∧ ∀ c ∈ q.2, isCap c = true → c ∈ B := by
  intro q hq
  have one : ∀ {a : Nat}, isLow a = true → ∀ c ∈ [88, a], isCap c = true → c = 88 := fun {a} h c hc k => by
    have hc : c = 88 ∨ c = a := by simpa using hc
    rcases hc with hc | hc
    · exact hc
    · rw [hc, low_nc h] at k
      cases k
  have oneY : ∀ {a : Nat}, isLow a = true → ∀ c ∈ [89, a], isCap c = true → c = 89 := fun {a} h c hc k => by
    have hc : c = 89 ∨ c = a := by simpa using hc
    rcases hc with hc | hc
    · exact hc
    · rw [hc, low_nc h] at k
      cases k
  cases h with
  | a1 h => rw [List.mem_singleton.mp hq]; exact ⟨by show 2 ≤ 1000; decide, fun c hc k => by rw [one h c hc k]; simp⟩
  | b1 h => rw [List.mem_singleton.mp hq]; exact ⟨by show 2 ≤ 1000; decide, fun c hc k => by rw [one h c (by simpa [or_comm] using hc) k]; simp⟩
  | z1 => rw [List.mem_singleton.mp hq]; exact ⟨by show 1 ≤ 1000; decide, fun c hc k => hc⟩
  | a2 h => rw [List.mem_singleton.mp hq]; exact ⟨by show 2 ≤ 1000; decide, fun c hc k => by rw [one h c hc k]; simp⟩
  | z2 => rw [List.mem_singleton.mp hq]; exact ⟨by show 1 ≤ 1000; decide, fun c hc k => by rw [List.mem_singleton.mp hc]; simp⟩
  | @x2 a h =>
    have hq : q = ([88], [88]) ∨ q = ([89], [89, a]) := by simpa [fX] using hq
    rcases hq with hq | hq <;> subst hq
    · exact ⟨by show 1 ≤ 1000; decide, fun c hc k => by rw [List.mem_singleton.mp hc]; simp⟩
    · exact ⟨by show 2 ≤ 1000; decide, fun c hc k => by rw [oneY h c hc k]; simp⟩
  | @y2 a h =>
    have hq : q = ([88], [88, a]) ∨ q = ([89], [89]) := by simpa [fY] using hq
    rcases hq with hq | hq <;> subst hq
    · exact ⟨by show 2 ≤ 1000; decide, fun c hc k => by rw [one h c hc k]; simp⟩
    · exact ⟨by show 1 ≤ 1000; decide, fun c hc k => by rw [List.mem_singleton.mp hc]; simp⟩
end Tb

set_option Elab.async false
set_option linter.all false
set_option maxRecDepth 100000
set_option maxHeartbeats 4000000
namespace Tb
open PySem PySem.Spec PyProof.Rows L2 TL
def EnOk (B f : List Nat) : Prop := f.length ≤ 7 ∧ (∀ x ∈ B, f.count x ≤ 1) ∧ ∀ c ∈ f, isCap c = true → c ∈ B
theorem pg_of {B : List Nat} {ms : List Mv} {es : Fil} (hB : B = [88] ∨ B = [88, 89]) (hm : ∀ m ∈ ms, FlOk B m.fl) (he : ∀ q ∈ es, EnOk B q.2) : PgOk B ms es where
  nB := by rcases hB with h | h <;> subst h <;> decide
  cB := by rcases hB with h | h <;> subst h <;> decide
  lB := by rcases hB with h | h <;> subst h <;> decide
  fl := fun m hm' q hq => ((hm m hm').each q hq).1
  good := fun m hm' => (hm m hm').good m.pl m.lt m.to
  en := fun c f h => ⟨Nat.le_trans (he _ (getF_in h)).1 (by decide), (he _ (getF_in h)).2.1⟩
  sg := fun m hm' q hq => ((hm m hm').each q hq).2
  esg := fun c f h => (he _ (getF_in h)).2.2
  eti := fun c f h => Nat.le_trans (he _ (getF_in h)).1 (by rcases hB with h | h <;> subst h <;> decide)
theorem en_X : EnOk [88] [88] := ⟨by decide, by decide, fun c hc _ => hc⟩
theorem en_0 : EnOk [88] [] := ⟨by decide, by decide, fun c hc _ => nomatch hc⟩
theorem en_XY : EnOk [88, 89] [88, 89] := ⟨by decide, by decide, fun c hc _ => hc⟩
theorem en_YsX {s : Nat} (h : isLow s = true) : EnOk [88, 89] [89, s, 88] := by
  have := low_ne h
  refine ⟨by show 3 ≤ 7; decide, fun x hx => ?_, fun c hc k => ?_⟩
  · have hx : x = 88 ∨ x = 89 := by simpa using hx
    rcases hx with hx | hx <;> subst hx
    · simp [List.count_cons, this.1.symm]
    · simp [List.count_cons, this.2.symm]
  · have hc : c = 89 ∨ c = s ∨ c = 88 := by simpa using hc
    rcases hc with hc | hc | hc
    · rw [hc]; simp
    · rw [hc, low_nc h] at k
      cases k
    · rw [hc]; simp
section
variable {cs : List Nat} {s : Nat}
theorem pl_ms : (plP cs).moves.map keptM = rowP nOn (fun _ => nOn) f1 cs := kept_row.trans (by rw [show (fun a => keptF ([([88], [88, a])] : Fil)) = f1 from funext fun a => kept_f1])
theorem ba_ms : (baP cs).moves.map keptM = rowP nOn (fun _ => nOn) (fun a => [([88], [a, 88])]) cs := kept_row.trans (by rw [show (fun a => keptF ([([88], [a, 88])] : Fil)) = fun a => [([88], [a, 88])] from funext fun a => kept_fb])
theorem sr_ms : (srP cs s).moves.map keptM = srM s cs := kept_row.trans (by
  rw [show (fun a => keptF (if a = s then fY s else fX a)) = fun a => if a = s then fY s else fX a from funext fun a => by
    split
    · exact kept_fY
    · exact kept_fX]
  rfl)
theorem hv_ms : (hvP cs).moves.map keptM = hvM' cs := two_kept.trans (by rw [show (fun a => keptF (f1 a)) = f1 from funext fun a => kept_f1, show (fun _ : Nat => keptF f0) = fun _ => f0 from funext fun a => kept_f0])
theorem lt_ms : (ltP cs s).moves.map keptM = ltM s cs [nNo, nYes] := by
  show (rowP nNo (ltTo s) f1 cs ++ (rowP nYes (ltTo s) f1 cs ++ [])).map keptM = rowP nNo (ltTo s) f1 cs ++ (rowP nYes (ltTo s) f1 cs ++ [])
  rw [List.append_nil, List.map_append, kept_row, kept_row, show (fun a => keptF (f1 a)) = f1 from funext fun a => kept_f1]
theorem pg_plain (h : okLetters cs = true) : PgOk (sortN (plP cs).boxes) ((plP cs).moves.map keptM) (plP cs).ends := by
  rw [pl_ms, show sortN (plP cs).boxes = [88] from so1]
  refine pg_of (.inl rfl) (fun m hm => ?_) fun q hq => ?_
  · obtain ⟨a, ha, rfl⟩ := List.mem_map.mp hm
    exact .a1 ((low_of h).1 a ha)
  · rw [List.mem_singleton.mp hq]
    exact en_X
theorem pg_back (h : okLetters cs = true) : PgOk (sortN (baP cs).boxes) ((baP cs).moves.map keptM) (baP cs).ends := by
  rw [ba_ms, show sortN (baP cs).boxes = [88] from so1]
  refine pg_of (.inl rfl) (fun m hm => ?_) fun q hq => ?_
  · obtain ⟨a, ha, rfl⟩ := List.mem_map.mp hm
    exact .b1 ((low_of h).1 a ha)
  · rw [List.mem_singleton.mp hq]
    exact en_X
theorem pg_sort (h : okLetters cs = true) (hs : s ∈ cs) : PgOk (sortN (srP cs s).boxes) ((srP cs s).moves.map keptM) (srP cs s).ends := by
  rw [sr_ms, show sortN (srP cs s).boxes = [88, 89] from so2]
  refine pg_of (.inr rfl) (fun m hm => ?_) fun q hq => ?_
  · obtain ⟨a, ha, rfl⟩ := List.mem_map.mp hm
    show FlOk _ (if a = s then fY s else fX a)
    split
    · exact .y2 ((low_of h).1 s hs)
    · exact .x2 ((low_of h).1 a ha)
  · rw [List.mem_singleton.mp hq]
    exact en_XY
theorem pg_half (h : okLetters cs = true) : PgOk (sortN (hvP cs).boxes) ((hvP cs).moves.map keptM) (hvP cs).ends := by
  rw [hv_ms, show sortN (hvP cs).boxes = [88] from so1]
  refine pg_of (.inl rfl) (fun m hm => ?_) fun q hq => ?_
  · obtain ⟨b, hb, e | e⟩ := two_mem hm
    · subst e
      exact .a1 ((low_of h).1 b hb)
    · subst e
      exact .z1
  · have h9 : q = (nTake, [88]) ∨ q = (nLeave, [88]) := by simpa [hvP] using hq
    rcases h9 with h9 | h9 <;> subst h9
    · exact en_X
    · exact en_X
theorem pg_exch (h : okLetters cs = true) (hs : s ∈ cs) : PgOk (sortN (xcP cs s).boxes) ((xcP cs s).moves.map keptM) (xcP cs s).ends := by
  rw [exch_ms, show sortN (xcP cs s).boxes = [88, 89] from so2]
  refine pg_of (.inr rfl) (fun m hm => ?_) fun q hq => ?_
  · obtain ⟨b, hb, e | e⟩ := two_mem hm
    · subst e
      show FlOk _ (if b = s then f0 else f1 b)
      split
      · exact .z2
      · exact .a2 ((low_of h).1 b hb)
    · subst e
      exact .x2 ((low_of h).1 b hb)
  · rw [List.mem_singleton.mp hq]
    exact en_YsX ((low_of h).1 s hs)
theorem pg_late (h : okLetters cs = true) : PgOk (sortN (ltP cs s).boxes) ((ltP cs s).moves.map keptM) (ltP cs s).ends := by
  rw [lt_ms, show sortN (ltP cs s).boxes = [88] from so1]
  refine pg_of (.inl rfl) (fun m hm => ?_) fun q hq => ?_
  · obtain ⟨p, hp, a, ha, rfl⟩ := ltM_mem hm
    exact .a1 ((low_of h).1 a ha)
  · have h9 : q = (nNo, []) ∨ q = (nYes, [88]) := by simpa [ltP] using hq
    rcases h9 with h9 | h9 <;> subst h9
    · exact en_0
    · exact en_X
end
end Tb

set_option Elab.async false
set_option linter.all false
set_option maxRecDepth 100000
set_option maxHeartbeats 4000000
/-! a lambda handed over as the third argument, called there under its local name -/
namespace Tb
open PySem PySem.Spec PyProof.Rows L2 LamX NdefX
/-- a lambda of the frame, by its code object -/
abbrev lamNF (q : Str) (params : Arguments) (scope : Scope) (cl : List (Str × Addr)) (c : Addr) : NF := ⟨"<lambda>", q, params, [], scope, cl, c⟩
/-- in the machine's heap the object at f is the lambda F with the expression b -/
def IsLam (h : Heap) (f : Addr) (F : NF) (b : Expr) : Prop := ∃ pm ctv, h.get? f = some (PySem.W.kla_obj F.name F.qual F.params b F.scope F.cl pm F.c ctv)
/-- the promise of the lambda F at f: sp ws, ws what its captured cells hold at the call -/
structure LOk (P : Program) (w : World) (K : PySem.W.Frag) (mg : Str → Option Value) (base : Heap) (k : Nat) (f : Addr) (F : NF) (b : Expr) (ps fr : List Str) (sp : List (Option V) → Sp) : Prop where
  run : ∀ {A : Around} {outer : List PySem.Env} {s : Shared} {H : Hp} {us : List Value} {vs : List V} {ws : List (Option V)} {Q : VK} {E : XK}, Room k A → Env0 P w K mg base A outer s H → IsLam s.heap f F b → H F.c = some (CodeO F.c F.qual) →
    CellsAt F.cl fr ws s.heap H → Vals vs us → sp ws vs H Q E → codeAny (model P w) A (.call (.ref f) ⟨us, []⟩) (CR CX0 outer P w H s Q E) s
section
variable {P : Program} {w : World} {K : PySem.W.Frag} {mg : Str → Option Value} {base : Heap} {N ps fr : List Str} {F : NF} {b : Expr} {f : Addr} {k j : Nat} {sp : List (Option V) → Sp}
/-- a lambda keeps its promise if its expression does -/
theorem lok_of (S : NScope N ps fr F.scope) (bind : ∀ (pm ctv : Value) (us : List Value), us.length = ps.length → bindArgs (PySem.W.kla_fn F.name F.qual F.params b F.scope F.cl pm (.ref F.c) ctv) ⟨us, []⟩ = pure (ps.zip us)) (len : ∀ ws vs H Q E, sp ws vs H Q E → vs.length = ps.length)
    (body : ∀ (A : Around) (outer : List PySem.Env) (s : Shared) (H : Hp) (vs : List V) (ws : List (Option V)) (Q : VK) (E : XK), Room k (A.deeper (envF F f s.heap.objs.size)) → ws.length = fr.length → sp ws vs H Q E →
      ∃ t, PE (ncx CX0 P w K mg base N F f A outer s H E) b t ∧ t (startF N vs ws) H Q) : LOk P w K mg base (k + 1) f F b ps fr sp where
  run := by
    intro A outer s H us vs ws Q E hr env0 il hc C r want
    obtain ⟨pm, ctv, here⟩ := il
    have lv := len _ _ _ _ _ want
    obtain ⟨t, pe, tq⟩ := body A outer s H vs ws Q E (hr.deeper _) C.len want
    have noLim : s.heap.NoLimit := env0.mod.nolimit.keeps fun a o z => (env0.bs a o z).1
    refine PySem.W.kla_callFunE hr.depth here rfl S.co S.gen rfl (codeO_at env0.hok hc) ?_
    rw [bind pm ctv us (by rw [← r.length, lv])]
    refine wpAny_pure ?_
    refine wpAny_newFunctionEnv S.nocell ?_ ?_ S.kind
    · intro y hy
      exact S.par _ (List.of_mem_zip hy).1
    · intro h1 names grown
      refine ⟨noLim.fresh _ grown, PySem.W.kla_codeExpr (e := b) (env := envF F f s.heap.objs.size) ?_⟩
      have old : ∀ a o, s.heap.get? a = some o → h1.get? a = some o := by
        intro a o z
        exact grown.extBut a o (Nat.ne_of_lt (Heap.lt_size z)) (Heap.get?_push_of_some _ z)
      refine wpAny_mono (pe.run [] _ (startF N vs ws) H _ (inv_startN S hr.hd env0 lv r C names old) tq) ?_ fun e s' z => z
      rintro v s' ⟨x, H', J, rx, q⟩
      exact ⟨x, H', J.os, J.bare, J.base, J.hok, rx, q⟩
end
section
variable {X : Cx} {pins : List (Addr × Obj)} {σ : L2.St} {H : Hp} {s : Shared} {cl : List (Str × Addr)} {fr : List Str} {ws : List (Option V)}
/-- captured cells hold what they held when the frame began -/
theorem cells_later (C : CellsAt cl fr ws X.s_0.heap X.H_0) (none : X.ex = []) (I : Inv X pins σ H s) : CellsAt cl fr ws s.heap H where
  len := C.len
  inj := C.inj
  all := fun y c hy => by
    obtain ⟨free, v, o, ho, hd⟩ := C.all y c hy
    have out : c ∉ X.ex := by simp [none]
    obtain ⟨sl, z⟩ := I.base.any ho free out
    exact ⟨I.base.free c o ho free out, v, _, z, hd⟩
  has := fun i y hy => by
    obtain ⟨c, hc, hv⟩ := C.has i y hy
    refine ⟨c, hc, fun v e => ?_⟩
    obtain ⟨u, ru, o, ho, hd⟩ := hv v e
    obtain ⟨sl, z⟩ := I.base.any ho (C.all y c hc).1 (by simp [none])
    exact ⟨u, ru, _, z, hd⟩
end
/-- a lambda that was there when the frame began -/
structure LamIn (s : Shared) (H : Hp) (outer : List PySem.Env) (f : Addr) (F : NF) (b : Expr) : Prop where
  here : IsLam s.heap f F b
  free : H f = none
  apart : f ∉ frs outer
theorem LamIn.later {X : Cx} {pins : List (Addr × Obj)} {σ : L2.St} {H : Hp} {s : Shared} {f : Addr} {F : NF} {b : Expr} (L : LamIn X.s_0 X.H_0 X.outer f F b) (none : X.ex = []) (I : Inv X pins σ H s) : IsLam s.heap f F b := by
  obtain ⟨pm, ctv, z⟩ := L.here
  exact ⟨pm, ctv, I.base.keep f _ z L.free L.apart (by simp [none])⟩
/-- x(..), x the local name of the lambda at f -/
def tCallL (i : Nat) (f : Addr) (F : NF) (ws : List (Option V)) (sp : List (Option V) → Sp) (E : XK) (t : TA) : TE := fun σ H Q => σ[i]? = some (some (.ref f)) ∧ t σ H fun vs H1 => H1 F.c = some (CodeO F.c F.qual) ∧ sp ws vs H1 Q E
section
variable {X : Cx} {f : Addr} {F : NF} {b : Expr} {ps fr : List Str} {ws : List (Option V)} {i j k : Nat} {x : Str} {sp : List (Option V) → Sp} {t : TA} {e : Expr} {es : List Expr} {p pos : Pos}
theorem pe_callL (G : LOk X.prog X.w X.K X.mg X.base k f F b ps fr sp) (C : CellsAt F.cl fr ws X.s_0.heap X.H_0) (L : LamIn X.s_0 X.H_0 X.outer f F b) (hex : X.ex = []) (hr : Room j X.A) (hk : k ≤ j) (hN : X.N[i]? = some x) (hv : Vis X.env.scope x) (ha : PA X (e :: es) t)
    (d1 : (x == ("__debug__" : Str)) = false := by decide) (d2 : (x == ("__classdict__" : Str)) = false := by decide) (st : starEach (e :: es) X.env = (false, eval e X.env) :: starEach es X.env := by rfl) (pl : (backTo pos (starEach es X.env)).any (·.1) = false := by rfl) :
    PE X (.Call (.Name x p) (e :: es) [] pos) (tCallL i f F ws sp E0 t) where
  run := by
    rintro pins s σ H Q I ⟨at_, ht⟩
    have fnAt : ∀ {H' : Hp} {s' : Shared}, Inv X pins σ H' s' → PySem.W.FnAt f s'.heap := fun J => by
      obtain ⟨pm, ctv, z⟩ := L.later hex J
      exact ⟨_, _, _, _, z⟩
    refine wpAny_Call_Name_kw (thn ((pe_var (i := i) hN hv d1 d2).run pins s σ H (fun v H1 => v = .ref f ∧ H1 = H) I ⟨_, at_, rfl, rfl⟩) ?_)
    rintro u s1 ⟨v, H1, I1, rv, rfl, rfl⟩
    cases rv
    refine PySem.W.callWith_F (first := []) (fnAt I1) (thn (ha.run pos pins s1 σ _ _ I1 ht) ?_) st pl
    rintro us s2 ⟨vs, H2, I2, r, co, q⟩
    refine ⟨fnAt I2, ?_⟩
    have run := G.run (hr.mono hk) I2.env0 (L.later hex I2) co (cells_later C hex I2) r q
    refine wpAny_call (codeAny_mono run ?_)
    intro res s' z
    match res, z with
    | .error e, z => exact z.elim
    | .ok (.ret u), z => exact I2.after z
    | .ok .next, z => exact z.elim
    | .ok .brk, z => exact z.elim
    | .ok .cont, z => exact z.elim
end
/-! a def of the top that is handed a lambda -/
abbrev CSp := Addr → NF → Expr → List Str → List (Option V) → List V → Hp → VK → Prop
structure DfC (P : Program) (w : World) (K : PySem.W.Frag) (mg : Str → Option Value) (base : Heap) (k : Nat) (nm : Str) (ps : List Str) (sp : CSp) : Prop where
  ex : ∃ g fd, (∀ f F b fr ws vs H Q, sp f F b fr ws vs H Q → vs.length = ps.length) ∧
    (∀ {A : Around} {outer : List PySem.Env} {s : Shared} {H : Hp} {us : List Value} {vs : List V} {f : Addr} {F : NF} {b : Expr} {fr : List Str} {ws : List (Option V)} {Q : VK}, Room k A → Env0 P w K mg base A outer s H → BindsTo s fd ⟨us, []⟩ (ps.zip us) → Vals vs us →
      LamIn s H outer f F b → CellsAt F.cl fr ws s.heap H → sp f F b fr ws vs H Q → codeAny (model P w) A (.call (.ref g) ⟨us, []⟩) (CR CX0 outer P w H s Q E0) s) ∧
    Binds K fd ps [] ∧ PySem.W.keepIn K (.ref g) = true ∧ mg nm = some (.ref g)
section
variable {P : Program} {w : World} {K : PySem.W.Frag} {mg : Str → Option Value} {base : Heap}
theorem dfC_of {x : Str} {st : Stmt} {g : Addr} {fd : FuncData} {N ps : List Str} {k : Nat} {sp : CSp} (F : Fun K x x st g fd) (S : FnScope N ps (defScope st)) (B : Binds K fd ps []) (kp : PySem.W.keepIn K (.ref g) = true) (m : mg x = some (.ref g)) (len : ∀ f F b fr ws vs H Q, sp f F b fr ws vs H Q → vs.length = ps.length)
    (body : ∀ (cdv : Value) (A : Around) (outer : List PySem.Env) (s : Shared) (H : Hp) (vs : List V) (f : Addr) (F : NF) (b : Expr) (fr : List Str) (ws : List (Option V)) (Q : VK), Room k (A.deeper (envOfC x (defScope st) s.heap.objs.size g cdv)) → LamIn s H outer f F b → CellsAt F.cl fr ws s.heap H → sp f F b fr ws vs H Q →
      ∃ t, PSs (cxOf CX0 P w K mg base N x (defScope st) g cdv A outer s H E0).nox (defBody st) t ∧ t { nx := fun _ H' => Q .non H', rt := Q } (start N vs) H) : DfC P w K mg base (k + 1) x ps sp := by
  obtain ⟨oc, od, kV, doc, pm, an, cdv, ct, osl, rfl, lk, hcd⟩ := F.ex
  refine ⟨g, _, len, ?_, B, kp, m⟩
  intro A outer s H us vs f F b fr ws Q hr e0 hb r L C want
  refine run_ofS (CX := CX0) lk hcd S hr e0 hb r (len _ _ _ _ _ _ _ _ want) fun room => ?_
  obtain ⟨t, pss, q⟩ := body cdv A outer s H vs f F b fr ws Q room L C want
  exact ⟨t, pss.nox, q⟩
end
section
variable {X : Cx} {fr : List Str} {js : List Nat} {j k : Nat} {nm : Str} {ps : List Str} {sp : CSp} {t1 t2 : TE} {e1 e2 : Expr} {p pos lpos : Pos} {T : List (Addr × Str)} {c TP : Addr} {params : Arguments} {body : Expr} {scope : Scope}
/-- what is asked of x(e1, e2, lambda ..) -/
def tLam3 (T : List (Addr × Str)) (js : List Nat) (sp : Addr → Addr → List (Option V) → List V → Hp → VK → Prop) (q : Str) (t1 t2 : TE) : TE := fun σ H Q => t1 σ H fun v1 H1 => t2 σ H1 fun v2 H2 => Tabs T H2 ∧
  ∀ f c' H3, ExtN H2 H3 → Tabs T H3 → H3 f = none → H3 c' = some (CodeO c' q) → sp f c' (js.map (slotAt σ)) [v1, v2, .ref f] H3 Q
theorem pe_lam3 (D : DfC X.prog X.w X.K X.mg X.base k nm ps sp) (hr : Room j X.A) (h1 : PE X e1 t1) (h2 : PE X e2 t2) (TB : TabB X.base X.mg c TP) (hcode : X.env.code = .ref c) (inT : (TP, X.env.qual ++ "<lambda>") ∈ T) (oneT : ∀ p ∈ T, p.1 = TP → p.2 = X.env.qual ++ "<lambda>")
    (free : ∀ y ∈ scope.names, y.2 = .free → X.env.scope.names.lookup y.1 = some .cell ∨ X.env.scope.names.lookup y.1 = some .free) (cap : X.Ok → Caps X (cloFrom X.env.cells scope.names []) fr js) (def0 : defaultsOf params X.env = ([], []) := by rfl) (hg : Gl X nm := by rfl) (hk : k ≤ j := by omega)
    (d1 : (nm == ("__debug__" : Str)) = false := by decide) (st : starEach (e1 :: [e2, .Lambda params body scope lpos]) X.env = (false, eval e1 X.env) :: starEach [e2, .Lambda params body scope lpos] X.env := by rfl) (pl : (backTo pos (starEach [e2, .Lambda params body scope lpos] X.env)).any (·.1) = false := by rfl)
    (tr : backTo pos (starEach (e1 :: [e2, .Lambda params body scope lpos]) X.env) = [(false, eval e1 X.env), (false, eval e2 X.env), (false, eval (.Lambda params body scope lpos) X.env)] := by rfl) :
    PE X (.Call (.Name nm p) [e1, e2, .Lambda params body scope lpos] [] pos) (tLam3 T js (fun f c' ws vs H Q => sp f (lamNF (X.env.qual ++ "<lambda>") params scope (cloFrom X.env.cells scope.names []) c') body fr ws vs H Q) (X.env.qual ++ "<lambda>") t1 t2) where
  run := by
    intro pins s σ H Q I h
    obtain ⟨g, fd, len, run, bind, kp, m⟩ := D.ex
    have bound : X.Ok → ∀ y ∈ scope.names, y.2 = .free → ∃ c, X.env.cells.lookup y.1 = some c := by
      intro ok y hy e
      rcases free y hy e with z | z
      · exact ok.has _ (.inl z)
      · exact ok.has _ (.inr z)
    refine wpAny_Call_Name_kw (ld_glob I hg m ?_ d1)
    refine PySem.W.callWith_K (h₀ := X.base) I.ok.mod.kin kp ?_ st pl
    rw [tr]
    refine Calls.spliced_cons (thn (h1.run pins s σ H _ I h) ?_)
    rintro u1 s1 ⟨v1, H1, I1, r1, q1⟩
    refine Calls.spliced_cons (thn (h2.run pins s1 σ H1 _ I1 q1) ?_)
    rintro u2 s2 ⟨v2, H2, I2, r2, tabs, q2⟩
    refine Calls.spliced_cons (lam_make2 I2 TB hcode inT oneT tabs def0 (bound I2.ok) ?_)
    intro f c' pm ctv H3 s3 I3 ext tabs3 here free3 apart co
    refine Calls.spliced_nil ⟨I3.kIn, ?_⟩
    have q3 := q2 f c' H3 ext tabs3 free3 co
    have rs : Vals [v1, v2, .ref f] [u1, u2, .ref f] := .cons r1 (.cons r2 (.cons rfl .nil))
    have bnd : BindsTo s3 fd ⟨[u1, u2, .ref f], []⟩ (ps.zip [u1, u2, .ref f]) := by
      have z := bind s3 [u1, u2, .ref f] I3.kIn (by rw [List.append_nil, ← len _ _ _ _ _ _ _ _ q3] <;> rfl)
      rwa [List.append_nil] at z
    have L : LamIn s3 H3 X.stack f (lamNF (X.env.qual ++ "<lambda>") params scope (cloFrom X.env.cells scope.names []) c') body := ⟨⟨pm, ctv, here⟩, free3, apart⟩
    refine wpAny_call (codeAny_mono (run (hr.mono hk) I3.env0 bnd rs L (cells_of I3 (cap I3.ok)) q3) ?_)
    intro res s' z
    match res, z with
    | .error e, z => exact z.elim
    | .ok (.ret u), z => exact I3.after z
    | .ok .next, z => exact z.elim
    | .ok .brk, z => exact z.elim
    | .ok .cont, z => exact z.elim
end
end Tb

set_option Elab.async false
set_option linter.all false
set_option maxRecDepth 100000
set_option maxHeartbeats 4000000
namespace Tb
open PySem PySem.Spec PyProof.Rows L2 TL LamX NdefX
/-! moves by a rule that is handed over -/
abbrev sLMoves : Stmt := topS 60
abbrev Rul := List Nat → Nat → List Nat × Fil
def rowsP (ps : List (List Nat)) (g : Rul) (cs : List Nat) : List Mv := ps.flatMap fun p => rowP p (fun a => (g p a).1) (fun a => (g p a).2) cs
theorem rowsP_out {g : Rul} {cs : List Nat} {pls : List (List Nat)} {i j a : Nat} {pl : List Nat} (hp : pls[i]? = some pl) (np : pls.Nodup) (ha : cs[j]? = some a) (nd : cs.Nodup) : mkey pl a ∉ (rowsP (pls.take i) g cs ++ rowP pl (fun a => (g pl a).1) (fun a => (g pl a).2) (cs.take j)).map Mv.key := fun z => by
  rw [List.map_append] at z
  rcases List.mem_append.mp z with z | z
  · obtain ⟨m, hm, e⟩ := List.mem_map.mp z
    unfold rowsP at hm
    obtain ⟨p, hp', hm⟩ := List.mem_flatMap.mp hm
    obtain ⟨b, hb, rfl⟩ := List.mem_map.mp hm
    have e1 : p = pl := (mkey_inj (show mkey p b = mkey pl a from e)).1
    subst e1
    have h6 : (pls.take (i + 1)).Nodup := (List.take_sublist _ _).nodup np
    rw [List.take_add_one, hp, List.nodup_append] at h6
    exact h6.2.2 p hp' p (List.mem_singleton.mpr rfl) rfl
  · exact rowP_new ha nd z
theorem rowsP_len {g : Rul} {cs : List Nat} : ∀ {pls : List (List Nat)}, (rowsP pls g cs).length = pls.length * cs.length
  | [] => by simp [rowsP]
  | p :: r => by
    show (rowP p _ _ cs ++ rowsP r g cs).length = _
    rw [List.length_append, rowsP_len, rowP, List.length_map, List.length_cons, Nat.succ_mul, Nat.add_comm]
abbrev psRul : List Str := ["_law_p", "_law_x"]
def spRule (g : Rul) (ws0 : List (Option V)) : List (Option V) → Sp := fun ws vs H Q _ => ws = ws0 ∧ ∃ (p : List Nat) (a : Nat), vs = [.str (S p), .str (S [a])] ∧
  ∀ t d H', Same H H' → H d = none → H' t = some (.tup [.str (S (g p a).1), .ref d]) → H' d = some (.dK (fkv (g p a).2)) → Q (.ref t) H'
def spLMoves (P : Program) (w : World) (K : PySem.W.Frag) (mg : Str → Option Value) (base : Heap) : CSp := fun f F b fr ws vs H Q => ∃ (A1 : Addr) (cs : List Nat) (places : List (List Nat)) (g : Rul), vs = [.ref A1, .str (S cs), .ref f] ∧ H F.c = some (CodeO F.c F.qual) ∧
  LOk P w K mg base 1 f F b psRul fr (spRule g ws) ∧ SqL K H A1 (txs places) ∧ places.Nodup ∧ places.length ≤ 2 ∧ cs.Nodup ∧ cs.length ≤ 5 ∧ ∀ D H', Same H H' → H D = none → KmAt H H' D (rowsP places g cs) → Q (.ref D) H'
section
variable {P : Program} {w : World} {K : PySem.W.Frag} {mg : Str → Option Value} {base : Heap}
abbrev nLMoves : List Str := ["_law_places", "_law_letters", "_law_rule", "_law_found", "_law_place", "_law_letter"]
abbrev psLMoves : List Str := ["_law_places", "_law_letters", "_law_rule"]
theorem scLMoves : FnScope nLMoves psLMoves (defScope sLMoves) := ⟨rfl, rfl, rfl, by decide +kernel, rfl, by decide +kernel, by decide +kernel⟩
theorem ok_lmoves {g : Addr} {fd : FuncData} {k : Nat} (F : Fun K "_law_moves" "_law_moves" sLMoves g fd) (B : Binds K fd psLMoves []) (m : mg "_law_moves" = some (.ref g)) : DfC P w K mg base (k + 2) "_law_moves" psLMoves (spLMoves P w K mg base) := by
  refine dfC_of F scLMoves B F.kp m (fun f F b fr ws vs H Q h => ?_) (fun cdv A outer s0 H vs fa F b fr ws Q hr L C h => ?_)
  · obtain ⟨A1, cs, places, g, rfl, _⟩ := h
    rfl
  · obtain ⟨A1, cs, places, g, rfl, hc, LO, hS, np, lp, c4, c3, q⟩ := h
    have hu := hu_of hr
    have big : (10000 : Nat) < sizeLine := by decide
    refine ⟨_, pss_cons (ps_set (i := 3) scLMoves.nd rfl (.inl rfl) pe_newT)
      (pss_cons (ps_for PassesOwn.never rfl (pi_list (pv 0)) (pg_name (i := 4) scLMoves.nd rfl (.inl rfl))
        (pss_one (ps_for PassesOwn.never rfl (pi_str (pv 1)) (pg_name (i := 5) scLMoves.nd rfl (.inl rfl))
        (pss_one (ps_dput hu (pv 3) (pe_tupS (pa_cons (pv 4) (pa_cons (pv 5) pa_nil))) (pe_callL (i := 2) LO C L rfl hr (by omega) rfl (.inl rfl) (pa_cons (pv 4) (pa_cons (pv 5) pa_nil))) rfl)))))
      (pss_one (ps_ret (pv 3)))), ?_⟩
    intro D H1 s1 nD e1
    refine ⟨_, rfl, A1, rfl, ⟨_, s1.seq hS⟩, for_list (K := K) (a := A1) (xs := txs places) (fun i σ H' => ∃ v4 v5, σ = [some (.ref A1), some (.str (S cs)), some (.ref fa), some (.ref D), v4, v5] ∧ Same H H' ∧ KmAt H H' D (rowsP (places.take i) g cs)) ⟨none, none, rfl, s1, [], e1, .nil⟩ (fun i σ H' _ ⟨_, _, _, s, _⟩ => s.seq hS) ?_ ?_⟩
    · rintro i x σ H2 hx ⟨v4, v5, rfl, s2, hkm⟩
      obtain ⟨pl, hpl, rfl⟩ : ∃ pl, places[i]? = some pl ∧ V.str (S pl) = x := by
        unfold txs at hx
        rw [List.getElem?_map] at hx
        cases e : places[i]? with
        | none =>
          rw [e] at hx
          cases hx
        | some y =>
          rw [e] at hx
          exact ⟨y, rfl, by injection hx⟩
      have hi : i < places.length := (List.getElem?_eq_some_iff.mp hpl).1
      have etp : places.take (i + 1) = places.take i ++ [pl] := by
        rw [List.take_add_one, hpl]
        rfl
      refine ⟨_, rfl, S cs, rfl, for_it (walk_str (z := S cs)) (fun j σ H' => ∃ v5, σ = [some (.ref A1), some (.str (S cs)), some (.ref fa), some (.ref D), some (.str (S pl)), v5] ∧ Same H H' ∧ KmAt H H' D (rowsP (places.take i) g cs ++ rowP pl (fun a => (g pl a).1) (fun a => (g pl a).2) (cs.take j))) ⟨v5, rfl, s2, by rw [show rowP pl (fun a => (g pl a).1) (fun a => (g pl a).2) (cs.take 0) = [] from rfl, List.append_nil]; exact hkm⟩ (fun _ _ _ _ _ => trivial) ?_ ?_⟩
      · rintro j x σ H2' H2 hj ⟨v5, rfl, s2, hkm⟩ ⟨rfl, a, ha, rfl⟩
        have ha' : cs[j]? = some a := by
          rw [show (S cs).cps = cs.toArray from rfl, List.getElem?_toArray] at ha
          exact ha
        have et : cs.take (j + 1) = cs.take j ++ [a] := by
          rw [List.take_add_one, ha']
          rfl
        have hlen : (rowsP (places.take i) g cs ++ rowP pl (fun a => (g pl a).1) (fun a => (g pl a).2) (cs.take j)).length ≤ 20 := by
          rw [List.length_append, rowsP_len, rowP, List.length_map, List.length_take, List.length_take]
          have : min i places.length * cs.length ≤ 2 * 5 := Nat.mul_le_mul (Nat.le_trans (Nat.min_le_right _ _) lp) c3
          omega
        refine ⟨rfl, _, rfl, _, rfl, s2 _ _ hc, rfl, pl, a, rfl, fun t d H4 s4 n4 e4 e4d => ?_⟩
        refine ⟨_, rfl, _, rfl, _, rfl, by show 2 ≤ sizeLine; omega, fun kt H6 s6 n6 e6 => ?_⟩
        have s26 := s4.trans s6
        have hkm6 := hkm.same s26
        obtain ⟨kk0, eD0, hkk0⟩ := id hkm6
        have hput := hkm6.put (m := ⟨pl, a, (g pl a).1, (g pl a).2⟩) (rowsP_out hpl np ha' c4) (t := t) (d := d) (s6 _ _ e4) (s6 _ _ e4d) (s2.free n4) kk0 eD0
        refine ⟨D, _, rfl, DPut.t (k := mkey pl a) eD0 (by rw [e6]; rfl) ?_, ?_⟩
        · rw [Paired.length hkk0]
          omega
        refine ⟨_, rfl, fun b o eb => ?_, ?_⟩
        · rw [upd_ne (ne_of_none eb nD)]
          exact s26 _ _ (s2 _ _ eb)
        · rw [et, rowP, List.map_append, ← List.append_assoc]
          exact hput
      · rintro σ H2 ⟨v5, rfl, s7, hkm⟩
        rw [show (S cs).cps.size = cs.length from len_S _, List.take_length] at hkm
        refine ⟨_, _, rfl, s7, ?_⟩
        rw [etp, rowsP, List.flatMap_append, List.flatMap_singleton]
        exact hkm
    · rintro σ H2 ⟨v4, v5, rfl, s7, hkm⟩
      have e : (txs places).length = places.length := by unfold txs; rw [List.length_map]
      rw [e, List.take_length] at hkm
      exact ⟨_, rfl, q D H2 s7 nD hkm⟩
end
end Tb

set_option Elab.async false
set_option linter.all false
set_option maxRecDepth 100000
set_option maxHeartbeats 4000000
namespace Tb
open PySem PySem.Spec PyProof.Rows L2 TL LamX NdefX
/-! d.update(e), both with tuples as keys -/
def putAll (kvs more : List (List Key × V)) : List (List Key × V) := more.foldl (fun acc p => putK acc p.1 p.2) kvs
theorem putAll_len : ∀ (more kvs : List (List Key × V)), (putAll kvs more).length ≤ kvs.length + more.length
  | [], kvs => Nat.le_refl _
  | p :: r, kvs => by
    have h1 := putAll_len r (putK kvs p.1 p.2)
    have h2 := length_putK kvs p.1 p.2
    show (putAll (putK kvs p.1 p.2) r).length ≤ _
    rw [List.length_cons]
    omega
theorem putAll_rel {H : Hp} : ∀ {more : List (List Key × V)} {ys : List (List Key × Addr × Value)} {kvs : List (List Key × V)} {xs : List (List Key × Addr × Value)}, KT H more ys → KT H kvs xs → KT H (putAll kvs more) (storedAllH xs ys)
  | _, _, _, _, .nil, r => r
  | _, _, _, _, .cons (a := p) (b := y) h t, r => by
    have e := h.1
    have hk : H y.2.1 = some (.tup (p.1.map kV)) := h.2.1
    have one := KT.put r p.1 hk h.2.2
    rw [show p.1 = y.1 from e] at one
    show KT H (putAll (putK _ p.1 p.2) _) (storedAllH (storedH _ y.1 y.2.1 y.2.2) _)
    rw [show p.1 = y.1 from e]
    exact putAll_rel t one
def rUpdT : V → List V → Hp → VK → Prop := fun x xs H Q => ∃ (a b : Addr) (kvs more : List (List Key × V)), x = .ref a ∧ xs = [.ref b] ∧ a ≠ b ∧ H a = some (.dT kvs) ∧ H b = some (.dT more) ∧ kvs ≠ [] ∧ kvs.length + more.length ≤ sizeLine ∧ Q .non (upd H a (.dT (putAll kvs more)))
theorem mt_updT {X : Cx} (hu : X.A.units + 1 < cLine) : MtR X "dict.update" rUpdT := by
  rintro pins s σ H x xs v us Q I rx rxs ⟨a, b, kvs, more, rfl, rfl, ab, ha, hb, ne, sz, q⟩
  cases rx
  obtain ⟨u, rfl, ru⟩ := vals1 rxs
  cases (show u = Value.ref b from ru)
  obtain ⟨_, _, xs, rel, dd⟩ := dt_of I.hok ha
  obtain ⟨_, sysB, ys, relB, ddB⟩ := dt_of I.hok hb
  have lx : kvs.length = xs.length := Paired.length rel
  have ly : more.length = ys.length := Paired.length relB
  have nx : xs ≠ [] := fun z => ne (List.eq_nil_of_length_eq_zero (by rw [lx, z]; rfl))
  refine call_update_dictH (tupleKind_room_in1 hu) ab sysB dd ddB (.inl nx) (by omega) fun h' dd' _ same => ?_
  refine ⟨.non, _, ?_, rfl, q⟩
  obtain ⟨o, es, ep, ho, e1, e2, e3, _, e4⟩ := dd'
  refine d_write I (by rw [ha]; exact True.intro) same ⟨o, ho⟩ ⟨Nat.le_trans (putAll_len _ _) sz, ?_, _, (putAll_rel relB rel).keeps fun c zs ec => ?_, o, es, ep, ho, e1, e2, e3, e4⟩
  · exact (dt_of I.hok ha).2.1
  · rw [upd_ne (ne_of ec ha (by intro z; cases z))]
    exact ec
theorem putAll_new : ∀ {more kvs : List (List Key × V)}, ((kvs ++ more).map (·.1)).Nodup → putAll kvs more = kvs ++ more
  | [], kvs, _ => (List.append_nil _).symm
  | p :: r, kvs, h => by
    have out : p.1 ∉ kvs.map (·.1) := fun z => by
      rw [List.map_append, List.map_cons, List.nodup_append] at h
      exact h.2.2 _ z _ List.mem_cons_self rfl
    show putAll (putK kvs p.1 p.2) r = _
    rw [putK_end _ out, putAll_new (by simpa using h)]
    simp
theorem Paired.app {α β : Type} {F : α → β → Prop} : ∀ {l : List α} {m : List β} {l' : List α} {m' : List β}, Paired F l m → Paired F l' m' → Paired F (l ++ l') (m ++ m')
  | _, _, _, _, .nil, h => h
  | _, _, _, _, .cons a t, h => .cons a (Paired.app t h)
/-- two dicts of moves, put together -/
theorem KmAt.join {H0 H : Hp} {D E : Addr} {ms ns : List Mv} (h : KmAt H0 H D ms) (h' : KmAt H0 H E ns) (nd : ((ms ++ ns).map Mv.key).Nodup) :
    ∀ kk jj, H D = some (.dT kk) → H E = some (.dT jj) → KmAt H0 (upd H D (.dT (putAll kk jj))) D (ms ++ ns) := by
  obtain ⟨kk, e, p⟩ := h
  obtain ⟨jj, e', p'⟩ := h'
  intro k1 j1 z z'
  rw [e] at z
  rw [e'] at z'
  cases z
  cases z'
  have all := Paired.app p p'
  refine ⟨_, upd_same, ?_⟩
  rw [putAll_new (by rw [kmKeys all]; exact nd)]
  refine Paired.mono (fun kv m z => mvNew_keep (fun b o e1 no => ?_) z) all
  rw [upd_ne (ne_of e1 e (no _))]
  exact e1
end Tb

set_option Elab.async false
set_option linter.all false
set_option maxRecDepth 100000
set_option maxHeartbeats 4000000
namespace Tb
open PySem PySem.Spec PyProof.Rows L2 TL
open AutoSeq1 (wpAny_loadPart')
open MeetsSeq MeetsSeq2 MeetsSeq3 SeqRoads2
/-! xs != ys of lists whose items are equal by their own == -/
section
variable {X : Cx} {n : Nat} {D : Eqv} {A : Around} {R : Result → Shared → Prop} {pins : List (Addr × Obj)} {σ : L2.St} {H : Hp} {a b : Addr} {xs ys : List V}
theorem ne_turns (hD : Mon D) (hE : EqG X n D) (sb : Sub X (n + 1) A) (ha : H a = some (.lst xs)) (hb : H b = some (.lst ys)) (pr : Prs D xs ys H) (fin : ∀ s, LoopI X pins σ H s → R (.ok (.ret (.bool false))) s) (bad : ∀ e s, X.xe e s → R (.error e) s) :
    ∀ (left i : Nat), i + left = xs.length → ∀ s, LoopI X pins σ H s → wpAny (model X.prog X.w) A.in1 (Builtin.«list.__eq__.loop» ⟨[.ref a, .ref b, rawInt i, rawInt 3], []⟩) (GQ.FinOf X.prog X.w A R) (fun e s' => R (.error e) s') s
  | left, i, hi, s, li => by
    obtain ⟨H1, I1, x1⟩ := id li
    obtain ⟨_, us, c1, rel1, g1⟩ := I1.hok a _ (x1 _ _ ha)
    obtain ⟨_, vs, c2, rel2, g2⟩ := I1.hok b _ (x1 _ _ hb)
    have lu : us.toArray.size = xs.length := by rw [List.size_toArray, rel1.length]
    have lv : vs.toArray.size = xs.length := by rw [List.size_toArray, ← rel2.length, ← pr.1]
    cases left with
    | zero =>
      have done := fin s li
      obtain ⟨hp, gs, dr, tk, os⟩ := s
      wp_walk using wpAny_loadPart' g1, wpAny_loadPart' g2
      rw [show us.toArray[((i : Nat) : Int).toNat]? = none from Array.getElem?_eq_none (by rw [lu]; omega), show vs.toArray[((i : Nat) : Int).toNat]? = none from Array.getElem?_eq_none (by rw [lv]; omega)]
      wp_walk using wpAny_loadPart' g1, wpAny_loadPart' g2
      show R (.ok (.ret (.bool (us.toArray.size != vs.toArray.size)))) _
      rwa [show (us.toArray.size != vs.toArray.size) = false by rw [lu, lv]; simp]
    | succ left =>
      have b1 : i < us.toArray.size := by rw [lu]; omega
      have b2 : i < vs.toArray.size := by rw [lv]; omega
      have turn := turnG hD hE sb pr rel1 rel2 i b1 b2 s li
      have go := ne_turns hD hE sb ha hb pr fin bad left (i + 1) (by omega)
      obtain ⟨hp, gs, dr, tk, os⟩ := s
      wp_walk using wpAny_loadPart' g1, wpAny_loadPart' g2
      rw [show us.toArray[((i : Nat) : Int).toNat]? = some us.toArray[i] from Array.getElem?_eq_getElem b1, show vs.toArray[((i : Nat) : Int).toNat]? = some vs.toArray[i] from Array.getElem?_eq_getElem b2]
      refine wpAny_bind (wpAny_mono turn ?_ bad)
      rintro r s2 ⟨rfl, l2⟩
      have go2 := go s2 l2
      obtain ⟨hp2, gs2, dr2, tk2, os2⟩ := s2
      wp_walk
      rw [show ((i : Int) + 1) = ((i + 1 : Nat) : Int) by omega]
      refine ⟨plainId_quiet plain_eq_loop _, codeAny_builtin entry_eq_loop ?_⟩
      rw [Around.under_plainId plain_eq_loop _]
      exact go2
/-- the reading of != -/
def rNeL (D : Eqv) : R2 := fun x y H Q => DList D x y H ∧ ∀ H', Ext H H' → Q (.bl false) H'
theorem op_neL (hD : Mon D) (hE : EqG X n D) (hr : Room (n + 1) X.A) : OpR X (compareOp .NotEq) (rNeL D) := by
  rintro pins s σ H x y v u Q I rx ry ⟨⟨a, b, xs, ys, rfl, rfl, ha, hb, pr⟩, q⟩
  cases rx
  cases ry
  obtain ⟨_, us, c1, rel1, g1⟩ := I.hok a _ ha
  obtain ⟨_, vs, c2, rel2, g2⟩ := I.hok b _ hb
  have lens : us.toArray.size = vs.toArray.size := by rw [List.size_toArray, List.size_toArray, ← rel1.length, ← rel2.length, pr.1]
  show wpAny (model X.prog X.w) X.A (richCompare .NotEq (.ref a) (.ref b)) _ _ _
  refine wpAny_richCompare_same_room (op := .NotEq) ⟨_, g1, rfl⟩ ⟨_, g2, rfl⟩ F.slot_list_ne (GQ.call_here F.slot_list_ne ⟨_, g1, rfl⟩ F.entry_list_ne (F.args_list_ne_2 _ _) ?_) hr.units0
  have loop := ne_turns (A := X.A) (R := wants (fun v s' => v ≠ .notImplemented ∧ EP X pins σ Q v s') X.xe) hD hE ⟨hr, rfl⟩ ha hb pr (fun s' l => by
    obtain ⟨H', I', e⟩ := l
    exact ⟨(fun z => nomatch z), .bl false, H', I', rfl, q H' e⟩) (fun e s' z => z) xs.length 0 (by omega) s ⟨H, I, Ext.rfl'⟩
  obtain ⟨hp, gs, dr, tk, os⟩ := s
  have f3 := AutoSeq1.sub_list_list
  have hne : ¬ (us.toArray.size != vs.toArray.size) = true := by simp [lens]
  wp_walk using wpAny_loadPart' g1, wpAny_loadPart' g2
  refine ⟨plainId_quiet plain_eq_loop _, codeAny_builtin entry_eq_loop ?_⟩
  rw [Around.under_plainId plain_eq_loop _]
  exact loop
end
end Tb

set_option Elab.async false
set_option linter.all false
set_option maxRecDepth 100000
set_option maxHeartbeats 4000000
namespace Tb
open PySem PySem.Spec PyProof.Rows L2 TL LamX NdefX
/-! what stays when a table grows -/
theorem KmAt.wide {H0 H : Hp} {D : Addr} {ms : List Mv} (h : KmAt H0 H D ms) : KmAt (fun _ => none) H D ms := by
  obtain ⟨kk, e, p⟩ := h
  exact ⟨kk, e, Paired.mono (fun kv m ⟨e, t, d, a, b, c, _⟩ => ⟨e, t, d, a, b, c, rfl⟩) p⟩
theorem KmAt.extN {H0 H H' : Hp} {D : Addr} {ms : List Mv} (x : ExtN H H') (h : KmAt H0 H D ms) : KmAt H0 H' D ms := by
  obtain ⟨kk, e, p⟩ := h
  exact ⟨kk, x _ _ e (by intro _ z; cases z), Paired.mono (fun kv m ⟨e, t, d, a, b, c, n⟩ => ⟨e, t, d, a, x _ _ b (by intro _ z; cases z), x _ _ c (by intro _ z; cases z), n⟩) p⟩
theorem MvAt.extN {H H' : Hp} (x : ExtN H H') {kv : List Key × V} {m : Mv} (h : MvAt H kv m) : MvAt H' kv m := by
  obtain ⟨e, t, d, a, b, c⟩ := h
  exact ⟨e, t, d, a, x _ _ b (by intro _ z; cases z), x _ _ c (by intro _ z; cases z)⟩
theorem PrAt.extN {C : Addr} {H H' : Hp} (x : ExtN H H') {p : Addr} {L B : List Nat} {places : List (List Nat)} {ms : List Mv} {es : Fil} (h : PrAt C H p L B places ms es) : PrAt C H' p L B places ms es := by
  obtain ⟨dx, pl, mv, en, kk, h1, h2, h3, h4, h5⟩ := h.ob
  exact ⟨dx, pl, mv, en, kk, x _ _ h1 (by intro _ z; cases z), x _ _ h2 (by intro _ z; cases z), x _ _ h3 (by intro _ z; cases z), Paired.mono (fun _ _ z => z.extN x) h4, x _ _ h5 (by intro _ z; cases z)⟩
theorem same_extN {H H' : Hp} (s : Same H H') : ExtN H H' := fun b o e _ => s b o e
theorem tabs_same {T : List (Addr × Str)} {H H' : Hp} (s : Same H H') (t : Tabs T H) : Tabs T H' := t.ext s
/-! a rule of two parameters -/
section
variable {P : Program} {w : World} {K : PySem.W.Frag} {mg : Str → Option Value} {base : Heap}
theorem lok_rule {N fr : List Str} {F : NF} {b : Expr} {f : Addr} {g : Rul} {ws0 : List (Option V)} {t : TE} (S' : NScope N psRul fr F.scope) (bind : ∀ (pm ctv : Value) (us : List Value), us.length = 2 → bindArgs (PySem.W.kla_fn F.name F.qual F.params b F.scope F.cl pm (.ref F.c) ctv) ⟨us, []⟩ = pure (psRul.zip us))
    (body : ∀ (A : Around) (outer : List PySem.Env) (s : Shared) (H : Hp) (E : XK), PE (ncx CX0 P w K mg base N F f A outer s H E) b t)
    (ans : ∀ (p : List Nat) (a : Nat) (H : Hp) (Q : VK), (∀ t d H', Same H H' → H d = none → H' t = some (.tup [.str (S (g p a).1), .ref d]) → H' d = some (.dK (fkv (g p a).2)) → Q (.ref t) H') → t (startF N [.str (S p), .str (S [a])] ws0) H Q) :
    LOk P w K mg base 1 f F b psRul fr (spRule g ws0) := by
  refine lok_of (k := 0) S' bind ?_ ?_
  · rintro ws vs H Q E ⟨_, p, a, rfl, _⟩
    rfl
  · rintro A outer s H vs ws Q E _ _ ⟨rfl, p, a, rfl, q⟩
    exact ⟨t, body A outer s H E, ans p a H Q q⟩
end
/-! displays: what is asked of them, once for all -/
def Gives (te : TE) (σ : L2.St) (v : V) : Prop := ∀ (H : Hp) (R : VK), R v H → te σ H R
def GivesD (te : TE) (σ : L2.St) (fl : Fil) : Prop := ∀ (H : Hp) (R : VK), (∀ d H', Same H H' → H d = none → H' d = some (.dK (fkv fl)) → R (.ref d) H') → te σ H R
abbrev tCatT (a b : TE) : TE := tOp (fun x y H Q => ∃ i j, x = .str i ∧ y = .str j ∧ i.length + j.length ≤ sizeLine ∧ Q (.str (i ++ j)) H) a b
theorem gives_var {σ : L2.St} {i : Nat} {v : V} (h : σ[i]? = some (some v)) : Gives (tVar i) σ v := fun H R q => ⟨v, h, q⟩
theorem gives_str {σ : L2.St} {z : Str} {l : List Nat} (h : z = S l) : Gives (tC (.str z)) σ (.str (S l)) := fun H R q => by
  rw [h]
  exact q
theorem gives_cat {σ : L2.St} {a b : TE} {x y : List Nat} (ha : Gives a σ (.str (S x))) (hb : Gives b σ (.str (S y))) (l : x.length + y.length ≤ 1000) : Gives (tCatT a b) σ (.str (S (x ++ y))) := fun H R q =>
  ha H _ (hb H _ ⟨S x, S y, rfl, rfl, by rw [len_S, len_S]; exact Nat.le_trans l (by decide), by rw [S_app]; exact q⟩)
theorem gives_d1 {σ : L2.St} {tk te : TE} {k f : List Nat} (hk : Gives tk σ (.str (S k))) (he : Gives te σ (.str (S f))) : GivesD (tDisp [(tk, te)]) σ [(k, f)] := by
  intro H R q d nd
  refine hk _ _ (he _ _ ⟨upd_same, fkv [(k, f)], rfl, (by show 1 ≤ 15; decide), ?_⟩)
  rw [merge_new _ [] (by show ([(Sum.inr (S k) : Key)]).Nodup; simp), List.nil_append]
  refine q d _ (fun b o e => ?_) nd upd_same
  rw [upd_ne (ne_of_none e nd), upd_ne (ne_of_none e nd)]
  exact e
theorem gives_d2 {σ : L2.St} {tk te tk' te' : TE} {k f k' f' : List Nat} (hk : Gives tk σ (.str (S k))) (he : Gives te σ (.str (S f))) (hk' : Gives tk' σ (.str (S k'))) (he' : Gives te' σ (.str (S f'))) (ne : k ≠ k') : GivesD (tDisp [(tk, te), (tk', te')]) σ [(k, f), (k', f')] := by
  intro H R q d nd
  refine hk _ _ (he _ _ (hk' _ _ (he' _ _ ⟨upd_same, fkv [(k, f), (k', f')], rfl, (by show 2 ≤ 15; decide), ?_⟩)))
  rw [merge_new _ [] (by show ([(Sum.inr (S k) : Key), Sum.inr (S k')]).Nodup; simpa using fun z => ne (key_S.mp z)), List.nil_append]
  refine q d _ (fun b o e => ?_) nd upd_same
  rw [upd_ne (ne_of_none e nd), upd_ne (ne_of_none e nd)]
  exact e
/-- (place, filling) -/
theorem gives_pair {σ : L2.St} {t1 t2 : TE} {to : List Nat} {fl : Fil} (h1 : Gives t1 σ (.str (S to))) (h2 : GivesD t2 σ fl) {H : Hp} {Q : VK} (q : ∀ t d H', Same H H' → H d = none → H' t = some (.tup [.str (S to), .ref d]) → H' d = some (.dK (fkv fl)) → Q (.ref t) H') : tTupS (tCons t1 (tCons t2 tNil)) σ H Q := by
  refine h1 H _ (h2 H _ fun d H1 s1 nd e1 => ⟨by show 2 ≤ sizeLine; decide, fun t H2 s2 _ e2 => ?_⟩)
  exact q t d H2 (s1.trans s2) nd e2 (s2 _ _ e1)
end Tb

set_option Elab.async false
set_option linter.all false
set_option maxRecDepth 100000
set_option maxHeartbeats 4000000
namespace Tb
open PySem PySem.Spec PyProof.Rows L2 TL LamX NdefX
/-- a list display of texts -/
def GivesL (te : TE) (σ : L2.St) (xs : List (List Nat)) : Prop := ∀ (H : Hp) (R : VK), (∀ L H', Same H H' → H L = none → H' L = some (.lst (txs xs)) → R (.ref L) H') → te σ H R
theorem gives_l1 {σ : L2.St} {t1 : TE} {a : List Nat} (h1 : Gives t1 σ (.str (S a))) : GivesL (tLstS (tCons t1 tNil)) σ [a] := fun H R q => h1 H _ ⟨by show 1 ≤ sizeLine; decide, fun L H' s n e => q L H' s n e⟩
theorem gives_l2 {σ : L2.St} {t1 t2 : TE} {a b : List Nat} (h1 : Gives t1 σ (.str (S a))) (h2 : Gives t2 σ (.str (S b))) : GivesL (tLstS (tCons t1 (tCons t2 tNil))) σ [a, b] := fun H R q => h1 H _ (h2 H _ ⟨by show 2 ≤ sizeLine; decide, fun L H' s n e => q L H' s n e⟩)
/-- no thing of the heap but tables stands at D -/
def Apart (H : Hp) (D : Addr) : Prop := ∀ b o, H b = some o → (∀ ps, o ≠ .tbl ps) → b ≠ D
section
variable {P : Program} {w : World} {K : PySem.W.Frag} {mg : Str → Option Value} {base : Heap}
theorem lok_lam {N fr : List Str} {q : Str} {params : Arguments} {scope : Scope} {cl : List (Str × Addr)} {c' : Addr} {b : Expr} {f : Addr} {g : Rul} {ws0 : List (Option V)} {t : TE} (hs : nscB N psRul fr scope = true)
    (body : ∀ (A : Around) (outer : List PySem.Env) (s : Shared) (H : Hp) (E : XK), PE (ncx CX0 P w K mg base N (lamNF q params scope cl c') f A outer s H E) b t)
    (ans : ∀ (p : List Nat) (a : Nat) (H : Hp) (Q : VK), (∀ t d H', Same H H' → H d = none → H' t = some (.tup [.str (S (g p a).1), .ref d]) → H' d = some (.dK (fkv (g p a).2)) → Q (.ref t) H') → t (startF N [.str (S p), .str (S [a])] ws0) H Q)
    (bind : ∀ (pm ctv u1 u2 : Value), bindArgs (PySem.W.kla_fn "<lambda>" q params b scope cl pm (.ref c') ctv) ⟨[u1, u2], []⟩ = pure (psRul.zip [u1, u2]) := by exact fun _ _ _ _ => rfl) :
    LOk P w K mg base 1 f (lamNF q params scope cl c') b psRul fr (spRule g ws0) := by
  refine lok_rule (nscope_by hs) (fun pm ctv us h => ?_) body ans
  match us, h with
  | [u1, u2], _ => exact bind pm ctv u1 u2
/-- moves by a lambda -/
theorem lam3_ans {T : List (Addr × Str)} {js : List Nat} {fr : List Str} {q : Str} {params : Arguments} {scope : Scope} {cl : List (Str × Addr)} {body : Expr} {t1 t2 : TE} {σ : L2.St} {places : List (List Nat)} {cs : List Nat} {g : Rul} {H : Hp} {R : VK}
    (h1 : GivesL t1 σ places) (h2 : Gives t2 σ (.str (S cs))) (lo : ∀ f c', LOk P w K mg base 1 f (lamNF q params scope cl c') body psRul fr (spRule g (js.map (slotAt σ)))) (tabs : Tabs T H) (np : places.Nodup) (lp : places.length ≤ 2) (c4 : cs.Nodup) (c3 : cs.length ≤ 5)
    (k : ∀ D H', ExtN H H' → Apart H D → Tabs T H' → KmAt (fun _ => none) H' D (rowsP places g cs) → R (.ref D) H') : tLam3 T js (fun f c' ws vs H Q => spLMoves P w K mg base f (lamNF q params scope cl c') body fr ws vs H Q) q t1 t2 σ H R := by
  refine h1 H _ fun L H1 s1 n1 e1 => h2 H1 _ ⟨tabs_same s1 tabs, fun f c' H3 x3 t3 n3 co => ?_⟩
  refine ⟨L, cs, places, g, rfl, co, lo f c', SqL.of (x3 _ _ e1 (by intro _ z; cases z)), np, lp, c4, c3, fun D H' s' nD km => ?_⟩
  refine k D H' ((same_extN s1).trans (x3.trans (same_extN s'))) (fun b o e nt z => ?_) (tabs_same s' t3) km.wide
  have e3 := x3 _ _ (s1 _ _ e) nt
  rw [z, nD] at e3
  cases e3
end
theorem tabs_upd {T : List (Addr × Str)} {H : Hp} {D : Addr} {kk kk' : List (List Key × V)} (hD : H D = some (.dT kk)) (t : Tabs T H) : Tabs T (upd H D (.dT kk')) := by
  intro p hp
  obtain ⟨ps, h1, h2, h3⟩ := t p hp
  refine ⟨ps, ?_, h2, fun pos cv hc => ?_⟩
  · rw [upd_ne (ne_of h1 hD (by intro z; cases z))]
    exact h1
  · obtain ⟨c, e, hco⟩ := h3 pos cv hc
    refine ⟨c, e, ?_⟩
    rw [upd_ne (ne_of hco hD (by intro z; cases z))]
    exact hco
theorem extN_upd {H H' : Hp} {D : Addr} {o : HO} (x : ExtN H H') (ap : Apart H D) : ExtN H (upd H' D o) := fun b o' e nt => by
  rw [upd_ne (ap b o' e nt)]
  exact x b o' e nt
/-- d[(place, sign)] = (place, filling), a move that was there -/
theorem over_ans {T : List (Addr × Str)} {i : Nat} {σ : L2.St} {H : Hp} {D : Addr} {ms : List Mv} {m : Mv} {tk1 tk2 t1 t2 : TE} {E : Ends} (hi : σ[i]? = some (some (.ref D))) (hk1 : Gives tk1 σ (.str (S m.pl))) (hk2 : Gives tk2 σ (.str (S [m.lt]))) (h1 : Gives t1 σ (.str (S m.to))) (h2 : GivesD t2 σ m.fl)
    (km : KmAt (fun _ => none) H D ms) (tabs : Tabs T H) (hm : m.key ∈ ms.map Mv.key) (len : ms.length ≤ 1000) (k : ∀ H', (∀ H0, ExtN H0 H → Apart H0 D → ExtN H0 H') → Tabs T H' → KmAt (fun _ => none) H' D (ms.map fun x => if x.key = m.key then m else x) → E.nx σ H') :
    sDPut (tVar i) (tTupS (tCons tk1 (tCons tk2 tNil))) (tTupS (tCons t1 (tCons t2 tNil))) E σ H := by
  refine gives_pair h1 h2 fun t d H1 s1 nd et ed => ?_
  refine ⟨_, hi, hk1 _ _ (hk2 _ _ ⟨by show 2 ≤ sizeLine; decide, fun kt H2 s2 n2 e2 => ?_⟩)⟩
  have s12 := s1.trans s2
  have km2 := km.same s12
  obtain ⟨kk, eD, rel⟩ := id km2
  refine ⟨D, _, rfl, DPut.t (k := m.key) eD (by rw [e2]; rfl) (by rw [Paired.length rel]; exact small1000 len), ?_⟩
  exact k _ (fun H0 x ap => extN_upd (x.trans (same_extN s12)) ap) (tabs_upd eD (tabs_same s12 tabs)) (km2.over hm (s2 _ _ et) (s2 _ _ ed) rfl kk eD)
end Tb

set_option Elab.async false
set_option linter.all false
set_option maxRecDepth 100000
set_option maxHeartbeats 4000000
namespace Tb
open PySem PySem.Spec PyProof.Rows L2 TL LamX NdefX
theorem parts_perm {pt : Pt} {ms : List Mv} {es : Fil} (h : PartsQ pt) (pm : ms.Perm pt.moves) (pe : es.Perm pt.ends) : PartsQ ⟨pt.letters, pt.boxes, pt.places, ms, es⟩ where
  le := h.le
  bo := h.bo
  pl := h.pl
  ky := (pm.map _).nodup_iff.mpr h.ky
  mv := fun m hm => h.mv m (pm.mem_iff.mp hm)
  ek := (pe.map _).nodup_iff.mpr h.ek
  en := fun q hq => h.en q (pe.mem_iff.mp hq)
/-- a program made of these parts, its dicts in any order -/
def LikeP (C : Addr) (H : Hp) (p : Addr) (pt : Pt) : Prop := ∃ (ms : List Mv) (es : Fil), PrAt C H p (sortN pt.letters) (sortN pt.boxes) pt.places (ms.map keptM) es ∧ ms.Perm pt.moves ∧ es.Perm pt.ends
theorem LikeP.extN {C : Addr} {H H' : Hp} {p : Addr} {pt : Pt} (x : ExtN H H') (h : LikeP C H p pt) : LikeP C H' p pt := by
  obtain ⟨ms, es, a, b⟩ := h
  exact ⟨ms, es, a.extN x, b⟩
theorem prog_ans {T : List (Addr × Str)} {C : Addr} {pt : Pt} {ms : List Mv} {es : Fil} {σ : L2.St} {H : Hp} {Q : VK} {t1 t2 t3 t4 t5 : TE} (good : PartsQ pt) (pm : ms.Perm pt.moves) (pe : es.Perm pt.ends) (tabs : Tabs T H)
    (h1 : Gives t1 σ (.str (S pt.letters))) (h2 : Gives t2 σ (.str (S pt.boxes))) (h3 : GivesL t3 σ pt.places) (h4 : ∀ (H1 : Hp) (R : VK), ExtN H H1 → Tabs T H1 → (∀ D H2, ExtN H1 H2 → Tabs T H2 → KmAt (fun _ => none) H2 D ms → R (.ref D) H2) → t4 σ H1 R) (h5 : GivesD t5 σ es)
    (k : ∀ p H', ExtN H H' → Tabs T H' → LikeP C H' p pt → Q (.ref p) H') : tProg C (tCons t1 (tCons t2 (tCons t3 (tCons t4 (tCons t5 tNil))))) σ H Q := by
  refine h1 H _ (h2 H _ (h3 H _ fun La H1 s1 n1 e1 => ?_))
  refine h4 H1 _ (same_extN s1) (tabs_same s1 tabs) fun D H2 x2 t2' km => ?_
  refine h5 H2 _ fun De H3 s3 n3 e3 => ?_
  obtain ⟨kk, eD, rel⟩ := km.same s3
  refine ⟨La, D, De, ⟨pt.letters, pt.boxes, pt.places, ms, es⟩, rfl, ⟨.inl (s3 _ _ (x2 _ _ e1 (by intro _ z; cases z))), ⟨kk, eD, Paired.mono (fun kv m z => (MvNew.at z).to_in) rel⟩, e3⟩, parts_perm good pm pe, fun p H4 s4 n4 pn => ?_⟩
  exact k p H4 ((same_extN s1).trans (x2.trans ((same_extN s3).trans (same_extN s4)))) (tabs_same s4 (tabs_same s3 t2')) ⟨ms, es, pn.at, pm, pe⟩
theorem two_perm {p q : List Nat} {tp tq : Nat → List Nat} {fp fq : Nat → Fil} : ∀ {cs : List Nat}, (rowP p tp fp cs ++ rowP q tq fq cs).Perm (two p q tp tq fp fq cs)
  | [] => .refl _
  | a :: r => by
    show ((⟨p, a, tp a, fp a⟩ : Mv) :: (rowP p tp fp r ++ ((⟨q, a, tq a, fq a⟩ : Mv) :: rowP q tq fq r))).Perm ((⟨p, a, tp a, fp a⟩ : Mv) :: (⟨q, a, tq a, fq a⟩ : Mv) :: two p q tp tq fp fq r)
    refine .cons _ ?_
    exact List.perm_middle.trans (.cons _ two_perm)
theorem rows1 {p : List Nat} {g : Rul} {cs : List Nat} : rowsP [p] g cs = rowP p (fun a => (g p a).1) (fun a => (g p a).2) cs := List.append_nil _
theorem rows2 {p q : List Nat} {g : Rul} {cs : List Nat} : rowsP [p, q] g cs = rowP p (fun a => (g p a).1) (fun a => (g p a).2) cs ++ rowP q (fun a => (g q a).1) (fun a => (g q a).2) cs := by
  show rowP p _ _ cs ++ (rowP q _ _ cs ++ []) = _
  rw [List.append_nil]
theorem keys_of_ky {ms : List Mv} (h : (ms.map fun m => (m.pl, m.lt)).Nodup) : (ms.map Mv.key).Nodup := by
  have e : ms.map Mv.key = (ms.map fun m => (m.pl, m.lt)).map fun x => mkey x.1 x.2 := by
    rw [List.map_map]
    rfl
  rw [e]
  exact List.Pairwise.map _ (fun a b hab z => hab (Prod.ext (mkey_inj z).1 (mkey_inj z).2)) h
/-- d.update(e) -/
theorem upd_ans {T : List (Addr × Str)} {K : PySem.W.Frag} {i : Nat} {σ : L2.St} {H : Hp} {D : Addr} {ms ns : List Mv} {te : TE} {Q : VK} (hi : σ[i]? = some (some (.ref D))) (km : KmAt (fun _ => none) H D ms) (ne : ms ≠ []) (nd : ((ms ++ ns).map Mv.key).Nodup) (len : ms.length + ns.length ≤ 1000)
    (h : ∀ R : VK, (∀ E H2, ExtN H H2 → Apart H E → Tabs T H2 → KmAt (fun _ => none) H2 E ns → R (.ref E) H2) → te σ H R) (k : ∀ H', (∀ H0, ExtN H0 H → Apart H0 D → ExtN H0 H') → Tabs T H' → KmAt (fun _ => none) H' D (ms ++ ns) → Q .non H') :
    tBM K "dict" rUpdT (tVar i) (tCons te tNil) σ H Q := by
  obtain ⟨k0, e0, _⟩ := id km
  refine ⟨_, hi, .inr (.inr (.inl ⟨rfl, .inr ⟨_, e0⟩⟩)), h _ fun E H2 x2 ap tb kn => ?_⟩
  have km2 := km.extN x2
  obtain ⟨kk, eD, rel⟩ := id km2
  obtain ⟨jj, eE, relE⟩ := id kn
  refine ⟨D, E, kk, jj, rfl, rfl, ap D _ e0 (by intro _ z; cases z), eD, eE, ?_, ?_, ?_⟩
  · intro z
    rw [z] at rel
    cases rel
    exact ne rfl
  · rw [Paired.length rel, Paired.length relE]
    exact Nat.le_of_lt (small1000 len)
  · exact k _ (fun H0 x a => extN_upd (x.trans x2) a) (tabs_upd eD tb) (km2.join kn nd kk jj eD eE)
end Tb

set_option Elab.async false
set_option linter.all false
set_option maxRecDepth 100000
set_option maxHeartbeats 8000000
namespace Tb
open PySem PySem.Spec PyProof.Rows L2 TL LamX NdefX
abbrev sLPrograms : Stmt := topS 61
abbrev nLPr : List Str := ["_law_letters", "_law_sign", "_law_first", "_law_back", "_law_moves_here", "_law_third", "_law_fourth", "_law_fifth"]
theorem scLPr : FnScope nLPr ["_law_letters", "_law_sign"] (defScope sLPrograms) := ⟨rfl, rfl, rfl, by decide +kernel, rfl, by decide +kernel, by decide +kernel⟩
def qLam : Str := "_law_programs.<locals>.<lambda>"
theorem nd_low {cs : List Nat} (h : okLetters cs = true) : cs.Nodup ∧ cs.length ≤ 5 := ⟨(low_of h).2.2.2, (low_of h).2.2.1⟩
theorem st_asg {te : TE} {i : Nat} {u : TS} {D : Ends} {σ : L2.St} {H : Hp} (h : te σ H fun v H1 => u D (σ.set i (some v)) H1) : tSeq (tAsg te (gName i)) u D σ H := h
theorem st_drop {te : TE} {u : TS} {D : Ends} {σ : L2.St} {H : Hp} (h : te σ H fun _ H1 => u D σ H1) : tSeq (tDrop te) u D σ H := h
theorem st_put {a b c : TE} {u : TS} {D : Ends} {σ : L2.St} {H : Hp} (h : sDPut a b c { D with nx := u D } σ H) : tSeq (sDPut a b c) u D σ H := h
theorem over_step {T : List (Addr × Str)} {i : Nat} {σ : L2.St} {H : Hp} {D : Addr} {ms : List Mv} {m : Mv} {tk1 tk2 t1 t2 : TE} {E : Ends} {u : TS} (hi : σ[i]? = some (some (.ref D))) (hk1 : Gives tk1 σ (.str (S m.pl))) (hk2 : Gives tk2 σ (.str (S [m.lt]))) (h1 : Gives t1 σ (.str (S m.to))) (h2 : GivesD t2 σ m.fl)
    (km : KmAt (fun _ => none) H D ms) (tabs : Tabs T H) (hm : m.key ∈ ms.map Mv.key) (len : ms.length ≤ 1000) (k : ∀ H', (∀ H0, ExtN H0 H → Apart H0 D → ExtN H0 H') → Tabs T H' → KmAt (fun _ => none) H' D (ms.map fun x => if x.key = m.key then m else x) → u E σ H') :
    tSeq (sDPut (tVar i) (tTupS (tCons tk1 (tCons tk2 tNil))) (tTupS (tCons t1 (tCons t2 tNil)))) u E σ H := over_ans (E := { E with nx := u E }) hi hk1 hk2 h1 h2 km tabs hm len k
/-- (place, filling), the place's making lays objects of its own -/
theorem gives_pairW {σ : L2.St} {t1 t2 : TE} {to : List Nat} {fl : Fil} (h1 : ∀ (H : Hp) (R : VK), (∀ H', Same H H' → R (.str (S to)) H') → t1 σ H R) (h2 : GivesD t2 σ fl) {H : Hp} {Q : VK} (q : ∀ t d H', Same H H' → H d = none → H' t = some (.tup [.str (S to), .ref d]) → H' d = some (.dK (fkv fl)) → Q (.ref t) H') : tTupS (tCons t1 (tCons t2 tNil)) σ H Q := by
  refine h1 H _ fun H0 s0 => h2 H0 _ fun d H1 s1 nd e1 => ⟨by show 2 ≤ sizeLine; decide, fun t H2 s2 _ e2 => ?_⟩
  exact q t d H2 (s0.trans (s1.trans s2)) (s0.free nd) e2 (s2 _ _ e1)
abbrev rInt1 : List V → Hp → VK → Prop := fun xs H Q => (∃ i, xs = [.int i] ∧ Q (.int i) H) ∨ ∃ k, xs = [.bl k] ∧ Q (.int (if k then 1 else 0)) H
abbrev tLateTo (K : PySem.W.Frag) : TE := tOp (rIxL K) (tLstS (tCons (tC (.str "no")) (tCons (tC (.str "yes")) tNil))) (tCB rInt1 (tCons (tOp rEq (tVar 1) (tVar 2)) tNil))
theorem gives_late {K : PySem.W.Frag} {σ : L2.St} {a s : Nat} (h1 : σ[1]? = some (some (.str (S [a])))) (h2 : σ[2]? = some (some (.str (S [s])))) (H : Hp) (R : VK) (q : ∀ H', Same H H' → R (.str (S (ltTo s a))) H') : tLateTo K σ H R := by
  refine ⟨by show 2 ≤ sizeLine; decide, fun L H1 s1 n1 e1 => ?_⟩
  refine ⟨_, h1, _, h2, rfl, .inr ⟨_, rfl, ?_⟩⟩
  by_cases e : a = s
  · refine ⟨L, _, 1, V.str (S nYes), rfl, ?_, SqL.of e1, ?_, ?_⟩
    · rw [show decide (V.str (S [a]) = V.str (S [s])) = true from decide_eq_true (by rw [e])]
      rfl
    · rw [st_yes]
      rfl
    · have := q H1 s1
      rwa [show ltTo s a = nYes from if_pos e] at this
  · refine ⟨L, _, 0, V.str (S nNo), rfl, ?_, SqL.of e1, ?_, ?_⟩
    · rw [show decide (V.str (S [a]) = V.str (S [s])) = false from decide_eq_false fun z => e (by have := S_inj (by injection z : S [a] = S [s]); injection this)]
      rfl
    · rw [st_no]
      rfl
    · have := q H1 s1
      rwa [show ltTo s a = nNo from if_neg e] at this
def spLPrograms (T : List (Addr × Str)) (C : Addr) : Sp := fun vs H Q _ => ∃ (cs : List Nat) (s : Nat), vs = [.str (S cs), .str (S [s])] ∧ okLetters cs = true ∧ s ∈ cs ∧ Tabs T H ∧
  ∀ L p1 p2 p3 p4 p5 p6 H', ExtN H H' → H' L = some (.lst [.ref p1, .ref p2, .ref p3, .ref p4, .ref p5, .ref p6]) → LikeP C H' p1 (plP cs) → LikeP C H' p2 (baP cs) → LikeP C H' p3 (xcP cs s) → LikeP C H' p4 (srP cs s) → LikeP C H' p5 (hvP cs) → LikeP C H' p6 (ltP cs s) → Q (.ref L) H'
section
variable {P : Program} {w : World} {K : PySem.W.Frag} {mg : Str → Option Value} {base : Heap}
theorem ok_lprograms {f C c TP : Addr} {oc kV doc pm ct : Value} {od an : Option Addr} {osl : Array (Option Value)} {k : Nat} (lk : K.lookup f = some ⟨oc, od, .func (PySem.W.fnOf "_law_programs" "_law_programs" (defArgs sLPrograms) (defBody sLPrograms) (defScope sLPrograms) .none kV doc pm an (.ref c) ct), osl⟩)
    (hcd : PySem.W.codeIn K (.ref c) "_law_programs" = true) (TB : TabB base mg c TP) (T : PrTxt K mg C) (MK : Mkr P w K mg base C (k + 1)) (DM : DfC P w K mg base (k + 2) "_law_moves" psLMoves (spLMoves P w K mg base)) (mi : mg "int" = none) :
    FnOk P w K mg base CX0 (k + 3) f (PySem.W.fnOf "_law_programs" "_law_programs" (defArgs sLPrograms) (defBody sLPrograms) (defScope sLPrograms) .none kV doc pm an (.ref c) ct) ["_law_letters", "_law_sign"] (spLPrograms [(TP, qLam)] C) := by
  refine fn_of (k := k + 2) lk hcd scLPr (fun vs H Q E h => ?_) fun A outer st H vs Q E hr h => ?_
  · obtain ⟨cs, s, rfl, _⟩ := h
    rfl
  · obtain ⟨cs, s, rfl, hc, hs, tabs, q⟩ := h
    have hu := hu_of hr
    obtain ⟨c4, c3⟩ := nd_low hc
    have inT : ∀ {z : Str}, z = qLam → (TP, z) ∈ [(TP, qLam)] := fun e => by rw [e]; exact List.mem_singleton.mpr rfl
    have oneT : ∀ {z : Str}, z = qLam → ∀ p ∈ [(TP, qLam)], p.1 = TP → p.2 = z := fun e p hp _ => by rw [List.mem_singleton.mp hp, e]
    have hcode : (envOfC "_law_programs" (defScope sLPrograms) st.heap.objs.size f (.ref c)).code = .ref c := rfl
    suffices go : ∃ t, PSs (cxOf CX0 P w K mg base nLPr "_law_programs" (defScope sLPrograms) f (.ref c) A outer st H E).nox (defBody sLPrograms) t ∧ t { nx := fun _ H' => Q .non H', rt := Q } (start nLPr [.str (S cs), .str (S [s])]) H by
      obtain ⟨t, a, b⟩ := go
      exact ⟨t, a.nox, b⟩
    refine ⟨_, pss_cons (ps_set (i := 2) scLPr.nd rfl (.inl rfl) (pe_prog MK hr T.mgC (pa_cons (pv 0) (pa_cons pe_str (pa_cons (pe_lstS (pa_cons pe_str pa_nil)) (pa_cons (pe_lam3 (fr := []) (js := []) DM hr (pe_lstS (pa_cons pe_str pa_nil)) (pv 0) TB hcode (inT rfl) (oneT rfl) (ndef_free (sc := defScope sLPrograms) (fr := []) (by decide +kernel)) (fun ok => Caps.made ok (ndef_free (sc := defScope sLPrograms) (fr := []) (by decide +kernel)) (ndef_fr (sc := defScope sLPrograms) (by decide +kernel)) rfl)) (pa_cons (pe_disp (pps_cons pe_str pe_str pps_nil) rfl rfl (by simp) (by show 1 ≤ 15; decide)) pa_nil)))))))
      (pss_cons (ps_set (i := 3) scLPr.nd rfl (.inl rfl) (pe_prog MK hr T.mgC (pa_cons (pv 0) (pa_cons pe_str (pa_cons (pe_lstS (pa_cons pe_str pa_nil)) (pa_cons (pe_lam3 (fr := []) (js := []) DM hr (pe_lstS (pa_cons pe_str pa_nil)) (pv 0) TB hcode (inT rfl) (oneT rfl) (ndef_free (sc := defScope sLPrograms) (fr := []) (by decide +kernel)) (fun ok => Caps.made ok (ndef_free (sc := defScope sLPrograms) (fr := []) (by decide +kernel)) (ndef_fr (sc := defScope sLPrograms) (by decide +kernel)) rfl)) (pa_cons (pe_disp (pps_cons pe_str pe_str pps_nil) rfl rfl (by simp) (by show 1 ≤ 15; decide)) pa_nil)))))))
      (pss_cons (ps_set (i := 4) scLPr.nd rfl (.inl rfl) (pe_lam3 (fr := []) (js := []) DM hr (pe_lstS (pa_cons pe_str pa_nil)) (pv 0) TB hcode (inT rfl) (oneT rfl) (ndef_free (sc := defScope sLPrograms) (fr := []) (by decide +kernel)) (fun ok => Caps.made ok (ndef_free (sc := defScope sLPrograms) (fr := []) (by decide +kernel)) (ndef_fr (sc := defScope sLPrograms) (by decide +kernel)) rfl)))
      (pss_cons (ps_dput hu (pv 4) (pe_tupS (pa_cons pe_str (pa_cons (pv 1) pa_nil))) (pe_tupS (pa_cons pe_str (pa_cons (pe_disp (pps_cons pe_str pe_str pps_nil) rfl rfl (by simp) (by show 1 ≤ 15; decide)) pa_nil))) rfl)
      (pss_cons (ps_expr (pe_bm PySem.F.plainAttrs_dict PySem.F.slot_dict_update PySem.F.type_dict_update (mt_updT hu) (pv 4) (pa_cons (pe_lam3 (fr := []) (js := []) DM hr (pe_lstS (pa_cons pe_str pa_nil)) (pv 0) TB hcode (inT rfl) (oneT rfl) (ndef_free (sc := defScope sLPrograms) (fr := []) (by decide +kernel)) (fun ok => Caps.made ok (ndef_free (sc := defScope sLPrograms) (fr := []) (by decide +kernel)) (ndef_fr (sc := defScope sLPrograms) (by decide +kernel)) rfl)) pa_nil)))
      (pss_cons (ps_set (i := 5) scLPr.nd rfl (.inl rfl) (pe_prog MK hr T.mgC (pa_cons (pv 0) (pa_cons pe_str (pa_cons (pe_lstS (pa_cons pe_str (pa_cons pe_str pa_nil))) (pa_cons (pv 4) (pa_cons (pe_disp (pps_cons pe_str (pe_op op_add_str (pe_op op_add_str pe_str (pv 1)) pe_str) pps_nil) rfl rfl (by simp) (by show 1 ≤ 15; decide)) pa_nil)))))))
      (pss_cons (ps_set (i := 4) scLPr.nd rfl (.inl rfl) (pe_lam3 (fr := []) (js := []) DM hr (pe_lstS (pa_cons pe_str pa_nil)) (pv 0) TB hcode (inT rfl) (oneT rfl) (ndef_free (sc := defScope sLPrograms) (fr := []) (by decide +kernel)) (fun ok => Caps.made ok (ndef_free (sc := defScope sLPrograms) (fr := []) (by decide +kernel)) (ndef_fr (sc := defScope sLPrograms) (by decide +kernel)) rfl)))
      (pss_cons (ps_dput hu (pv 4) (pe_tupS (pa_cons pe_str (pa_cons (pv 1) pa_nil))) (pe_tupS (pa_cons pe_str (pa_cons (pe_disp (pps_cons pe_str (pe_op op_add_str pe_str (pv 1)) (pps_cons pe_str pe_str pps_nil)) rfl rfl (by simp) (by show 2 ≤ 15; decide)) pa_nil))) rfl)
      (pss_cons (ps_set (i := 6) scLPr.nd rfl (.inl rfl) (pe_prog MK hr T.mgC (pa_cons (pv 0) (pa_cons pe_str (pa_cons (pe_lstS (pa_cons pe_str pa_nil)) (pa_cons (pv 4) (pa_cons (pe_disp (pps_cons pe_str pe_str pps_nil) rfl rfl (by simp) (by show 1 ≤ 15; decide)) pa_nil)))))))
      (pss_cons (ps_set (i := 4) scLPr.nd rfl (.inl rfl) (pe_lam3 (fr := []) (js := []) DM hr (pe_lstS (pa_cons pe_str pa_nil)) (pv 0) TB hcode (inT rfl) (oneT rfl) (ndef_free (sc := defScope sLPrograms) (fr := []) (by decide +kernel)) (fun ok => Caps.made ok (ndef_free (sc := defScope sLPrograms) (fr := []) (by decide +kernel)) (ndef_fr (sc := defScope sLPrograms) (by decide +kernel)) rfl)))
      (pss_cons (ps_expr (pe_bm PySem.F.plainAttrs_dict PySem.F.slot_dict_update PySem.F.type_dict_update (mt_updT hu) (pv 4) (pa_cons (pe_lam3 (fr := []) (js := []) DM hr (pe_lstS (pa_cons pe_str pa_nil)) (pv 0) TB hcode (inT rfl) (oneT rfl) (ndef_free (sc := defScope sLPrograms) (fr := []) (by decide +kernel)) (fun ok => Caps.made ok (ndef_free (sc := defScope sLPrograms) (fr := []) (by decide +kernel)) (ndef_fr (sc := defScope sLPrograms) (by decide +kernel)) rfl)) pa_nil)))
      (pss_cons (ps_set (i := 7) scLPr.nd rfl (.inl rfl) (pe_prog MK hr T.mgC (pa_cons (pv 0) (pa_cons pe_str (pa_cons (pe_lstS (pa_cons pe_str (pa_cons pe_str pa_nil))) (pa_cons (pv 4) (pa_cons (pe_disp (pps_cons pe_str pe_str (pps_cons pe_str pe_str pps_nil)) rfl rfl (by simp) (by show 2 ≤ 15; decide)) pa_nil)))))))
      (pss_cons (ps_set (i := 4) scLPr.nd rfl (.inl rfl) (pe_lam3 (fr := ["_law_sign"]) (js := [1]) DM hr (pe_lstS (pa_cons pe_str (pa_cons pe_str pa_nil))) (pv 0) TB hcode (inT rfl) (oneT rfl) (ndef_free (sc := defScope sLPrograms) (fr := ["_law_sign"]) (by decide +kernel)) (fun ok => Caps.made ok (ndef_free (sc := defScope sLPrograms) (fr := ["_law_sign"]) (by decide +kernel)) (ndef_fr (sc := defScope sLPrograms) (by decide +kernel)) rfl)))
      (pss_one (ps_ret (pe_lstS (pa_cons (pv 2) (pa_cons (pv 3) (pa_cons (pv 5) (pa_cons (pv 6) (pa_cons (pv 7) (pa_cons (pe_prog MK hr T.mgC (pa_cons (pv 0) (pa_cons pe_str (pa_cons (pe_lstS (pa_cons pe_str (pa_cons pe_str pa_nil))) (pa_cons (pv 4) (pa_cons (pe_disp (pps_cons pe_str pe_str (pps_cons pe_str pe_str pps_nil)) rfl rfl (by simp) (by show 2 ≤ 15; decide)) pa_nil)))))) pa_nil))))))))))))))))))))), ?_⟩
    have l2 : ∀ {p : List Nat}, [p].length ≤ 2 := by intro p; show 1 ≤ 2; decide
    have n1 : ∀ {p : List Nat}, [p].Nodup := fun {p} => List.pairwise_singleton _ _
    -- first
    refine st_asg ?_
    refine prog_ans (σ := [some (.str (S cs)), some (.str (S [s])), none, none, none, none, none, none]) (pt := plP cs) (ms := rowsP [nOn] (fun _ a => (nOn, f1 a)) cs) (es := [(nOn, [88])]) (plP_parts hc) (by rw [rows1]; exact .refl _) (.refl _) tabs (by exact gives_var rfl) (by exact gives_str st_X) (by exact gives_l1 (gives_str st_on)) (fun H1 R x tb kk => ?_) (by exact gives_d1 (by exact gives_str st_on) (by exact gives_str st_X)) ?_
    · exact lam3_ans (by exact gives_l1 (gives_str st_on)) (by exact gives_var rfl) (by intro f c'; refine lok_lam (N := psRul) (by decide +kernel) (fun _ _ _ _ _ => pe_tupS (pa_cons pe_str (pa_cons (pe_disp (pps_cons pe_str (pe_op op_add_str pe_str (pv 1)) pps_nil) rfl rfl (by simp) (by show 1 ≤ 15; decide)) pa_nil))) ?_; intro p a H Q q; exact gives_pair (σ := startF psRul [.str (S p), .str (S [a])] []) (by exact gives_str st_on) (by exact (by exact gives_d1 (by exact gives_str st_X) (gives_cat (x := [88]) (y := [a]) (by exact gives_str st_X) (by exact gives_var rfl) (by show 2 ≤ 1000; decide)))) q) tb n1 l2 c4 c3 fun D H2 x2 ap tb2 km => kk D H2 x2 tb2 km
    intro p1 H1 x1 tb1 k1
    -- back
    refine st_asg ?_
    refine prog_ans (σ := [some (.str (S cs)), some (.str (S [s])), some (.ref p1), none, none, none, none, none]) (pt := baP cs) (ms := rowsP [nOn] (fun _ a => (nOn, [([88], [a, 88])])) cs) (es := [(nOn, [88])]) (baP_parts hc) (by rw [rows1]; exact .refl _) (.refl _) tb1 (by exact gives_var rfl) (by exact gives_str st_X) (by exact gives_l1 (gives_str st_on)) (fun H1 R x tb kk => ?_) (by exact gives_d1 (by exact gives_str st_on) (by exact gives_str st_X)) ?_
    · exact lam3_ans (by exact gives_l1 (gives_str st_on)) (by exact gives_var rfl) (by intro f c'; refine lok_lam (N := psRul) (by decide +kernel) (fun _ _ _ _ _ => pe_tupS (pa_cons pe_str (pa_cons (pe_disp (pps_cons pe_str (pe_op op_add_str (pv 1) pe_str) pps_nil) rfl rfl (by simp) (by show 1 ≤ 15; decide)) pa_nil))) ?_; intro p a H Q q; exact gives_pair (σ := startF psRul [.str (S p), .str (S [a])] []) (by exact gives_str st_on) (by exact (by exact gives_d1 (by exact gives_str st_X) (gives_cat (x := [a]) (y := [88]) (by exact gives_var rfl) (by exact gives_str st_X) (by show 2 ≤ 1000; decide)))) q) tb n1 l2 c4 c3 fun D H2 x2 ap tb2 km => kk D H2 x2 tb2 km
    intro p2 H2 x2 tb2 k2
    have k1 := k1.extN x2
    have x12 := x1.trans x2
    -- third
    refine st_asg ?_
    refine lam3_ans (σ := [some (.str (S cs)), some (.str (S [s])), some (.ref p1), some (.ref p2), none, none, none, none]) (g := fun _ a => (nAhead, f1 a)) (by exact gives_l1 (gives_str st_ahead)) (by exact gives_var rfl) (by intro f c'; refine lok_lam (N := psRul) (by decide +kernel) (fun _ _ _ _ _ => pe_tupS (pa_cons pe_str (pa_cons (pe_disp (pps_cons pe_str (pe_op op_add_str pe_str (pv 1)) pps_nil) rfl rfl (by simp) (by show 1 ≤ 15; decide)) pa_nil))) ?_; intro p a H Q q; exact gives_pair (σ := startF psRul [.str (S p), .str (S [a])] []) (by exact gives_str st_ahead) (by exact (by exact gives_d1 (by exact gives_str st_X) (gives_cat (x := [88]) (y := [a]) (by exact gives_str st_X) (by exact gives_var rfl) (by show 2 ≤ 1000; decide)))) q) tb2 n1 l2 c4 c3 fun D H3 x3 ap3 tb3 km3 => ?_
    rw [rows1] at km3
    refine over_step (σ := [some (.str (S cs)), some (.str (S [s])), some (.ref p1), some (.ref p2), some (.ref D), none, none, none]) (m := ⟨nAhead, s, nBehind, f0⟩) rfl (by exact gives_str st_ahead) (by exact gives_var rfl) (by exact gives_str st_behind) (by exact gives_d1 (by exact gives_str st_X) (by exact gives_str st_X)) km3 tb3 (by rw [rowP_keys]; exact List.mem_map.mpr ⟨s, hs, rfl⟩) (by rw [rowP, List.length_map]; omega) fun H4 x4 tb4 km4 => ?_
    have x24 := x4 H2 x3 ap3
    have km4 := (show _ = rowP nAhead (fun a => if a = s then nBehind else nAhead) (fun a => if a = s then f0 else f1 a) cs from rowP_over) ▸ km4
    have pm3 : (rowP nAhead (fun a => if a = s then nBehind else nAhead) (fun a => if a = s then f0 else f1 a) cs ++ rowP nBehind (fun _ => nBehind) fX cs).Perm (xcP cs s).moves := two_perm
    have rl : ∀ {pl : List Nat} {to : Nat → List Nat} {g : Nat → Fil}, (rowP pl to g cs).length = cs.length := fun {pl to g} => by rw [rowP, List.length_map]
    have c1 := (low_of hc).2.1
    have rne : ∀ {pl : List Nat} {to : Nat → List Nat} {g : Nat → Fil}, rowP pl to g cs ≠ [] := fun {pl to g} z => by
      have := congrArg List.length z
      rw [rl, List.length_nil] at this
      omega
    refine st_drop ?_
    refine upd_ans (T := [(TP, qLam)]) (σ := [some (.str (S cs)), some (.str (S [s])), some (.ref p1), some (.ref p2), some (.ref D), none, none, none]) rfl km4 rne (keys_of_ky (parts_perm (xcP_parts hc hs) pm3 (.refl _)).ky) (by rw [rl, rl]; omega) (fun R kk => ?_) fun H5 x5 tb5 km5 => ?_
    · exact lam3_ans (g := fun _ a => (nBehind, fX a)) (by exact gives_l1 (gives_str st_behind)) (by exact gives_var rfl) (by intro f c'; refine lok_lam (N := psRul) (by decide +kernel) (fun _ _ _ _ _ => pe_tupS (pa_cons pe_str (pa_cons (pe_disp (pps_cons pe_str pe_str (pps_cons pe_str (pe_op op_add_str pe_str (pv 1)) pps_nil)) rfl rfl (by simp) (by show 2 ≤ 15; decide)) pa_nil))) ?_; intro p a H Q q; exact gives_pair (σ := startF psRul [.str (S p), .str (S [a])] []) (by exact gives_str st_behind) (by exact (by exact gives_d2 (by exact gives_str st_X) (by exact gives_str st_X) (by exact gives_str st_Y) (gives_cat (x := [89]) (y := [a]) (by exact gives_str st_Y) (by exact gives_var rfl) (by show 2 ≤ 1000; decide)) (by decide))) q) tb4 n1 l2 c4 c3 fun E H2 x2 ap tb2 km => kk E H2 x2 ap tb2 (by rw [rows1] at km; exact km)
    have x25 := x5 H2 x24 ap3
    refine st_asg ?_
    refine prog_ans (σ := [some (.str (S cs)), some (.str (S [s])), some (.ref p1), some (.ref p2), some (.ref D), none, none, none]) (pt := xcP cs s) (es := [(nBehind, [89, s, 88])]) (xcP_parts hc hs) pm3 (.refl _) tb5 (by exact gives_var rfl) (by exact gives_str st_XY) (by exact gives_l2 (gives_str st_ahead) (gives_str st_behind)) (fun H1 R x tb kk => ⟨_, rfl, kk D H1 (ExtN.refl _) tb (km5.extN x)⟩) (by exact gives_d1 (by exact gives_str st_behind) (gives_cat (x := [89, s]) (y := [88]) (gives_cat (x := [89]) (y := [s]) (by exact gives_str st_Y) (by exact gives_var rfl) (by show 2 ≤ 1000; decide)) (by exact gives_str st_X) (by show 3 ≤ 1000; decide))) ?_
    intro p3 H6 x6 tb6 k3
    have x26 := x25.trans x6
    have k1 := k1.extN x26
    have k2 := k2.extN x26
    clear km3 km4 km5
    -- fourth
    refine st_asg ?_
    refine lam3_ans (σ := [some (.str (S cs)), some (.str (S [s])), some (.ref p1), some (.ref p2), some (.ref D), some (.ref p3), none, none]) (g := fun _ a => (nOn, fX a)) (by exact gives_l1 (gives_str st_on)) (by exact gives_var rfl) (by intro f c'; refine lok_lam (N := psRul) (by decide +kernel) (fun _ _ _ _ _ => pe_tupS (pa_cons pe_str (pa_cons (pe_disp (pps_cons pe_str pe_str (pps_cons pe_str (pe_op op_add_str pe_str (pv 1)) pps_nil)) rfl rfl (by simp) (by show 2 ≤ 15; decide)) pa_nil))) ?_; intro p a H Q q; exact gives_pair (σ := startF psRul [.str (S p), .str (S [a])] []) (by exact gives_str st_on) (by exact (by exact gives_d2 (by exact gives_str st_X) (by exact gives_str st_X) (by exact gives_str st_Y) (gives_cat (x := [89]) (y := [a]) (by exact gives_str st_Y) (by exact gives_var rfl) (by show 2 ≤ 1000; decide)) (by decide))) q) tb6 n1 l2 c4 c3 fun D4 H7 x7 ap7 tb7 km7 => ?_
    rw [rows1] at km7
    refine over_step (σ := [some (.str (S cs)), some (.str (S [s])), some (.ref p1), some (.ref p2), some (.ref D4), some (.ref p3), none, none]) (m := ⟨nOn, s, nOn, fY s⟩) rfl (by exact gives_str st_on) (by exact gives_var rfl) (by exact gives_str st_on) (by exact gives_d2 (by exact gives_str st_X) (gives_cat (x := [88]) (y := [s]) (by exact gives_str st_X) (by exact gives_var rfl) (by show 2 ≤ 1000; decide)) (by exact gives_str st_Y) (by exact gives_str st_Y) (by decide)) km7 tb7 (by rw [rowP_keys]; exact List.mem_map.mpr ⟨s, hs, rfl⟩) (by rw [rl]; omega) fun H8 x8 tb8 km8 => ?_
    have x68 := x8 H6 x7 ap7
    have km8 := (show _ = srM s cs from rowP_over) ▸ km8
    refine st_asg ?_
    refine prog_ans (σ := [some (.str (S cs)), some (.str (S [s])), some (.ref p1), some (.ref p2), some (.ref D4), some (.ref p3), none, none]) (pt := srP cs s) (es := [(nOn, [88, 89])]) (srP_parts hc hs) (.refl _) (.refl _) tb8 (by exact gives_var rfl) (by exact gives_str st_XY) (by exact gives_l1 (gives_str st_on)) (fun H1 R x tb kk => ⟨_, rfl, kk D4 H1 (ExtN.refl _) tb (km8.extN x)⟩) (by exact gives_d1 (by exact gives_str st_on) (by exact gives_str st_XY)) ?_
    intro p4 H9 x9 tb9 k4
    have x69 := x68.trans x9
    have k1 := k1.extN x69
    have k2 := k2.extN x69
    have k3 := k3.extN x69
    -- fifth
    refine st_asg ?_
    refine lam3_ans (σ := [some (.str (S cs)), some (.str (S [s])), some (.ref p1), some (.ref p2), some (.ref D4), some (.ref p3), some (.ref p4), none]) (g := fun _ a => (nLeave, f1 a)) (by exact gives_l1 (gives_str st_take)) (by exact gives_var rfl) (by intro f c'; refine lok_lam (N := psRul) (by decide +kernel) (fun _ _ _ _ _ => pe_tupS (pa_cons pe_str (pa_cons (pe_disp (pps_cons pe_str (pe_op op_add_str pe_str (pv 1)) pps_nil) rfl rfl (by simp) (by show 1 ≤ 15; decide)) pa_nil))) ?_; intro p a H Q q; exact gives_pair (σ := startF psRul [.str (S p), .str (S [a])] []) (by exact gives_str st_leave) (by exact (by exact gives_d1 (by exact gives_str st_X) (gives_cat (x := [88]) (y := [a]) (by exact gives_str st_X) (by exact gives_var rfl) (by show 2 ≤ 1000; decide)))) q) tb9 n1 l2 c4 c3 fun D5 H10 x10 ap10 tb10 km10 => ?_
    rw [rows1] at km10
    have pm5 : (rowP nTake (fun _ => nLeave) f1 cs ++ rowP nLeave (fun _ => nTake) (fun _ => f0) cs).Perm (hvP cs).moves := two_perm
    refine st_drop ?_
    refine upd_ans (T := [(TP, qLam)]) (σ := [some (.str (S cs)), some (.str (S [s])), some (.ref p1), some (.ref p2), some (.ref D5), some (.ref p3), some (.ref p4), none]) rfl km10 rne (keys_of_ky (parts_perm (hvP_parts hc) pm5 (.refl _)).ky) (by rw [rl, rl]; omega) (fun R kk => ?_) fun H11 x11 tb11 km11 => ?_
    · exact lam3_ans (g := fun _ a => (nTake, f0)) (by exact gives_l1 (gives_str st_leave)) (by exact gives_var rfl) (by intro f c'; refine lok_lam (N := psRul) (by decide +kernel) (fun _ _ _ _ _ => pe_tupS (pa_cons pe_str (pa_cons (pe_disp (pps_cons pe_str pe_str pps_nil) rfl rfl (by simp) (by show 1 ≤ 15; decide)) pa_nil))) ?_; intro p a H Q q; exact gives_pair (σ := startF psRul [.str (S p), .str (S [a])] []) (by exact gives_str st_take) (by exact (by exact gives_d1 (by exact gives_str st_X) (by exact gives_str st_X))) q) tb10 n1 l2 c4 c3 fun E H2 x2 ap tb2 km => kk E H2 x2 ap tb2 (by rw [rows1] at km; exact km)
    have x911 := x11 H9 x10 ap10
    refine st_asg ?_
    refine prog_ans (σ := [some (.str (S cs)), some (.str (S [s])), some (.ref p1), some (.ref p2), some (.ref D5), some (.ref p3), some (.ref p4), none]) (pt := hvP cs) (es := [(nTake, [88]), (nLeave, [88])]) (hvP_parts hc) pm5 (.refl _) tb11 (by exact gives_var rfl) (by exact gives_str st_X) (by exact gives_l2 (gives_str st_take) (gives_str st_leave)) (fun H1 R x tb kk => ⟨_, rfl, kk D5 H1 (ExtN.refl _) tb (km11.extN x)⟩) (by exact gives_d2 (by exact gives_str st_take) (by exact gives_str st_X) (by exact gives_str st_leave) (by exact gives_str st_X) (by decide)) ?_
    intro p5 H12 x12' tb12 k5
    have x912 := x911.trans x12'
    have k1 := k1.extN x912
    have k2 := k2.extN x912
    have k3 := k3.extN x912
    have k4 := k4.extN x912
    -- late
    refine st_asg ?_
    refine lam3_ans (σ := [some (.str (S cs)), some (.str (S [s])), some (.ref p1), some (.ref p2), some (.ref D5), some (.ref p3), some (.ref p4), some (.ref p5)]) (g := fun _ a => (ltTo s a, f1 a)) (by exact gives_l2 (gives_str st_no) (gives_str st_yes)) (by exact gives_var rfl) (by intro f c'; refine lok_lam (N := ["_law_p", "_law_x", "_law_sign"]) (t := tTupS (tCons (tLateTo K) (tCons (tDisp [(tC (.str "X"), tCatT (tC (.str "X")) (tVar 1))]) tNil))) (by decide +kernel) (fun _ _ _ _ _ => pe_tupS (pa_cons (pe_ix ix_list (pe_lstS (pa_cons pe_str (pa_cons pe_str pa_nil))) (pe_callTy call_int1 (by rfl) mi (by decide +kernel) (pa_cons (pe_cmpR op_eq (pv 1) (pv 2) (nomark _)) pa_nil)) (fun _ _ => rfl)) (pa_cons (pe_disp (pps_cons pe_str (pe_op op_add_str pe_str (pv 1)) pps_nil) rfl rfl (by simp) (by show 1 ≤ 15; decide)) pa_nil))) ?_; intro p a H Q q; exact gives_pairW (σ := startF ["_law_p", "_law_x", "_law_sign"] [.str (S p), .str (S [a])] [some (.str (S [s]))]) (gives_late rfl rfl) (by exact (by exact gives_d1 (by exact gives_str st_X) (gives_cat (x := [88]) (y := [a]) (by exact gives_str st_X) (by exact gives_var rfl) (by show 2 ≤ 1000; decide)))) q) tb12 (by decide) (by decide) c4 c3 fun D6 H13 x13 ap13 tb13 km13 => ?_
    rw [rows2] at km13
    have pm6 : (rowP nNo (ltTo s) f1 cs ++ rowP nYes (ltTo s) f1 cs).Perm (ltP cs s).moves := by
      show List.Perm _ (rowP nNo (ltTo s) f1 cs ++ (rowP nYes (ltTo s) f1 cs ++ []))
      rw [List.append_nil]
    refine ⟨_, rfl, _, rfl, _, rfl, _, rfl, _, rfl, ?_⟩
    refine prog_ans (σ := [some (.str (S cs)), some (.str (S [s])), some (.ref p1), some (.ref p2), some (.ref D6), some (.ref p3), some (.ref p4), some (.ref p5)]) (pt := ltP cs s) (es := [(nYes, [88]), (nNo, [])]) (ltP_parts hc) pm6 (.swap _ _ _) tb13 (by exact gives_var rfl) (by exact gives_str st_X) (by exact gives_l2 (gives_str st_no) (gives_str st_yes)) (fun H1 R x tb kk => ⟨_, rfl, kk D6 H1 (ExtN.refl _) tb (km13.extN x)⟩) (by exact gives_d2 (by exact gives_str st_yes) (by exact gives_str st_X) (by exact gives_str st_no) (by exact gives_str st_nil) (by decide)) ?_
    intro p6 H14 x14 tb14 k6
    have x1214 := x13.trans x14
    refine ⟨by show 6 ≤ sizeLine; decide, fun L H15 s15 n15 e15 => ?_⟩
    have xe := same_extN s15
    exact q L p1 p2 p3 p4 p5 p6 H15 (x12.trans (x26.trans (x69.trans (x912.trans (x1214.trans xe))))) e15 ((k1.extN x1214).extN xe) ((k2.extN x1214).extN xe) ((k3.extN x1214).extN xe) ((k4.extN x1214).extN xe) ((k5.extN x1214).extN xe) (k6.extN xe)
end
end Tb

set_option Elab.async false
set_option linter.all false
set_option maxRecDepth 100000
set_option maxHeartbeats 2000000
/-! tuples that hold dicts: == and != -/
namespace PySem.SeqAt
open AutoSeq1 (wpAny_loadPart')
open MeetsSeq MeetsSeq2 MeetsSeq3 SeqRoads2
section
variable {prog : Program} {w : World}
theorem tuple_neIn (l b : Addr) (items items2 : Array Value) (n n2 : Nat) (dd dd2 : Option Addr) (sl sl2 : Array (Option Value)) (e : Nat → Bool) :
    MeetsIn prog w (Builtin.«tuple.__ne__» ⟨[.ref l, .ref b], []⟩)
      (fun A R s => s.heap.get? l = some { cls := .type "tuple", dict := dd, data := .seq items n, slots := sl } ∧ s.heap.get? b = some { cls := .type "tuple", dict := dd2, data := .seq items2 n2, slots := sl2 } ∧
        (∀ j (h1 : j < items.size) (h2 : j < items2.size), EqIn prog w A.in1 s items[j] items2[j] (e j)) ∧
        R (.ok (.ret (.bool (!((List.range (min items.size items2.size)).all e && items.size == items2.size))))) s) :=
  .of_wp fun A R s h => by
    obtain ⟨hp, g, d, tk, os⟩ := s; obtain ⟨hl, hb, he, h⟩ := h
    have f2 := AutoSeq1.sub_tuple_tuple
    have hZ : (items.toList.zip items2.toList).length = min items.size items2.size := by simp
    wp_walk using wpAny_loadPart' hl, wpAny_loadPart' hb, wpAny_forIn_list _ (fun rest b s' => b.1 = none ∧ s' = ⟨hp, g, d, tk, os⟩ ∧ ∃ i, rest = (items.toList.zip items2.toList).drop i ∧
      R (.ok (.ret (.bool (!(((List.range (min items.size items2.size)).drop i).all e && items.size == items2.size))))) ⟨hp, g, d, tk, os⟩) _
    case turn =>
      rintro ⟨y, x⟩ rest b s' ⟨hb', rfl, i, hz, hR⟩
      have hlt : i < (items.toList.zip items2.toList).length := by
        rcases Nat.lt_or_ge i (items.toList.zip items2.toList).length with h' | h'
        · exact h'
        · rw [List.drop_of_length_le h'] at hz; cases hz
      have hm : i < min items.size items2.size := hZ ▸ hlt
      have h1 : i < items.size := Nat.lt_of_lt_of_le hm (Nat.min_le_left _ _)
      have h2 : i < items2.size := Nat.lt_of_lt_of_le hm (Nat.min_le_right _ _)
      rw [List.drop_eq_getElem_cons hlt] at hz
      injection hz with hyx hrest
      have hy : y = items[i] := by have := congrArg Prod.fst hyx; simpa using this
      have hx : x = items2[i] := by have := congrArg Prod.snd hyx; simpa using this
      subst hy hx
      have hd : (List.range (min items.size items2.size)).drop i = i :: (List.range (min items.size items2.size)).drop (i + 1) := by simp [List.drop_eq_getElem_cons, hm]
      rw [hd, List.all_cons] at hR
      refine wpAny_bind (he i h1 h2 _ _ ?_)
      cases hy : e i with
      | true =>
        rw [hy] at hR
        wp_walk
        exact ⟨rfl, rfl, i + 1, hrest, by simpa using hR⟩
      | false =>
        rw [hy] at hR
        wp_walk
        exact ⟨_, rfl, by simpa using hR⟩
    case fin =>
      rintro ⟨b1, b2⟩ s' ⟨hb', rfl, i, hz, hR⟩
      simp only at hb'
      subst hb'
      have hge : min items.size items2.size ≤ i := by
        rcases Nat.lt_or_ge i (items.toList.zip items2.toList).length with h' | h'
        · rw [List.drop_eq_getElem_cons h'] at hz; cases hz
        · exact hZ ▸ h'
      rw [List.drop_of_length_le (by simpa using hge)] at hR
      wp_walk
      exact ⟨_, rfl, by simpa [Builtin.Tuple.tupleCompareSizes, bne] using hR⟩
    case h =>
      exact ⟨rfl, rfl, 0, rfl, by simpa using h⟩
end
section
variable {prog : Program} {w : World} {A : Around} {s : Shared}
theorem rneIn_tuples {E : Value → Shared → Prop} {l b : Addr} {items items2 : Array Value} {e : Nat → Bool} {Q : Value → Shared → Prop} (hl : s.heap.IsTuple l items) (hb : s.heap.IsTuple b items2) (hu : A.units < cLine)
    (he : ∀ j (h1 : j < items.size) (h2 : j < items2.size), EqIn prog w A.in1 s items[j] items2[j] (e j)) (h : Q (.bool (!((List.range (min items.size items2.size)).all e && items.size == items2.size))) s) :
    wpAny (model prog w) A (richCompare .NotEq (.ref l) (.ref b)) Q E s := by
  obtain ⟨⟨cls, dd, data, sl⟩, ho, hc, n, hd⟩ := id hl
  obtain ⟨⟨cls2, dd2, data2, sl2⟩, ho2, hc2, n2, hd2⟩ := id hb
  simp only at hc hd hc2 hd2
  subst hc hd hc2 hd2
  exact wpAny_richCompare_same_room (T := "tuple") (op := .NotEq) ⟨_, ho, rfl⟩ ⟨_, ho2, rfl⟩ F.slot_tuple_ne (call_meetsIn F.slot_tuple_ne ⟨_, ho, rfl⟩ F.entry_tuple_ne (F.args_tuple_ne_2 _ _) (tuple_neIn l b items items2 n n2 dd dd2 sl sl2 e)
    ⟨ho, ho2, he, show Value.bool (!((List.range (min items.size items2.size)).all e && items.size == items2.size)) ≠ Value.notImplemented ∧ Q (.bool (!((List.range (min items.size items2.size)).all e && items.size == items2.size))) s from ⟨(fun x => nomatch x), h⟩⟩) hu
end
end PySem.SeqAt
namespace PySem.W
open PySem PySem.Calls PyProof.Rows PyProof.V PySem.Spec
section
variable {prog : Program} {w : World} {A : Around} {E : Value → Shared → Prop} {s : Shared}
theorem ne_tuplesT {n : Nat} {l l' : Addr} {vs vs' : Array Value} {e : Nat → Bool} {Q : Value → Shared → Prop} (hl : s.heap.IsTuple l vs) (hl' : s.heap.IsTuple l' vs')
    (t : ∀ j (h1 : j < vs.size) (h2 : j < vs'.size), EqTree prog w s n vs[j] vs'[j] (e j)) (hu : A.units + (n + 1) < cLine) (h : Q (.bool (!((List.range (min vs.size vs'.size)).all e && vs.size == vs'.size))) s) :
    wpAny (model prog w) A (compareOp .NotEq (.ref l) (.ref l')) Q E s :=
  SeqAt.rneIn_tuples hl hl' (by omega) (fun j h1 h2 => (t j h1 h2).at A.in1 (by show A.units + 1 + _ < cLine; omega)) h
end
end PySem.W

set_option Elab.async false
set_option linter.all false
set_option maxRecDepth 100000
set_option maxHeartbeats 2000000
/-! data at any depth, dicts among them, that are equal -/
namespace Tb
open PySem PySem.Spec PyProof.Rows L2
/-- x and y are equal, and this is seen at most n deep -/
inductive DEq (H : Hp) : Nat → V → V → Prop
  | flat {n : Nat} {x : V} : flatB x = true → DEq H n x x
  | tup {n : Nat} {a b : Addr} {xs ys : List V} : Rd H a (.tup xs) → Rd H b (.tup ys) → xs.length = ys.length → (∀ (j : Nat) (x y : V), xs[j]? = some x → ys[j]? = some y → DEq H n x y) → DEq H (n + 1) (.ref a) (.ref b)
  | lst {n : Nat} {a b : Addr} {xs ys : List V} : Rd H a (.lst xs) → Rd H b (.lst ys) → xs.length = ys.length → (∀ (j : Nat) (x y : V), xs[j]? = some x → ys[j]? = some y → DEq H n x y) → DEq H (n + 1) (.ref a) (.ref b)
  | dK {n : Nat} {a b : Addr} {ks ls : List (Key × V)} : Rd H a (.dK ks) → Rd H b (.dK ls) → ks.length = ls.length → (∀ p ∈ ks, (valV ls p.1).isSome = true) → (∀ (p : Key × V) (y : V), p ∈ ks → valV ls p.1 = some y → DEq H n p.2 y) → DEq H (n + 1) (.ref a) (.ref b)
theorem DEq.two {H : Hp} {n : Nat} {a b : Addr} {x1 x2 y1 y2 : V} (ha : Rd H a (.tup [x1, x2])) (hb : Rd H b (.tup [y1, y2])) (h1 : DEq H n x1 y1) (h2 : DEq H n x2 y2) : DEq H (n + 1) (.ref a) (.ref b) :=
  .tup ha hb rfl fun j x y e1 e2 => by
    match j, e1, e2 with
    | 0, e1, e2 => cases e1; cases e2; exact h1
    | 1, e1, e2 => cases e1; cases e2; exact h2
section
variable {X : Cx} {pins : List (Addr × Obj)} {σ : L2.St} {H : Hp} {s : Shared}
theorem ix_of {xs : List V} {its : List Value} (r : Vals xs its) {j : Nat} (h : j < its.toArray.size) : ∃ x, xs[j]? = some x ∧ RelV x its.toArray[j] := by
  have h' : j < xs.length := by rw [r.length]; simpa using h
  obtain ⟨u, hu, ru⟩ := r.get (List.getElem?_eq_getElem h')
  have : its.toArray[j] = u := by
    have e : its[j]? = some its.toArray[j] := by simp at h ⊢
    rw [e] at hu
    exact Option.some.inj hu
  exact ⟨_, List.getElem?_eq_getElem h', by rw [this]; exact ru⟩
theorem all_true (n : Nat) : ((List.range n).all fun _ => true) = true := by simp
theorem DEq.tree (I : Inv X pins σ H s) {n : Nat} {x y : V} (t : DEq H n x y) : ∀ {v u : Value}, RelV x v → RelV y u → PySem.W.EqTree X.prog X.w s n v u true := by
  induction t with
  | flat hf => exact fun rx ry => .leaf fun A _ => eqAt_same rx ry hf
  | @tup n a b xs ys ha hb hl hx ih =>
    intro v u rx ry
    obtain rfl : v = Value.ref a := rx
    obtain rfl : u = Value.ref b := ry
    by_cases hab : a = b
    · rw [hab]
      exact .same
    obtain ⟨_, its, r1, p1⟩ := (show ObjOk X.prog X.w H s.heap a (.tup xs) from ha.ok I.hok)
    obtain ⟨_, its2, r2, p2⟩ := (show ObjOk X.prog X.w H s.heap b (.tup ys) from hb.ok I.hok)
    have q := PySem.W.EqTree.tuples (prog := X.prog) (w := X.w) (s := s) (n := n) (e := fun _ => true) hab (show s.heap.IsTuple a its.toArray from p1) (show s.heap.IsTuple b its2.toArray from p2) fun j h1 h2 => by
      obtain ⟨x, e1, rx⟩ := ix_of r1 h1
      obtain ⟨y, e2, ry⟩ := ix_of r2 h2
      exact ih j x y e1 e2 rx ry
    have hs : (its.toArray.size == its2.toArray.size) = true := by
      rw [List.size_toArray, List.size_toArray, ← r1.length, ← r2.length, hl]
      exact beq_self_eq_true _
    rw [all_true, hs] at q
    exact q
  | @lst n a b xs ys ha hb hl hx ih =>
    intro v u rx ry
    obtain rfl : v = Value.ref a := rx
    obtain rfl : u = Value.ref b := ry
    by_cases hab : a = b
    · rw [hab]
      exact .same
    obtain ⟨_, its, n1, r1, e1⟩ := (show ObjOk X.prog X.w H s.heap a (.lst xs) from ha.ok I.hok)
    obtain ⟨_, its2, n2, r2, e2⟩ := (show ObjOk X.prog X.w H s.heap b (.lst ys) from hb.ok I.hok)
    have hs : its.toArray.size = its2.toArray.size := by
      rw [List.size_toArray, List.size_toArray, ← r1.length, ← r2.length, hl]
    have q := PySem.W.EqTree.lists (prog := X.prog) (w := X.w) (s := s) (n := n) (e := fun _ => true) hab ⟨_, e1, rfl, _, rfl⟩ ⟨_, e2, rfl, _, rfl⟩ hs fun j h1 h2 => by
      obtain ⟨x, e1, rx⟩ := ix_of r1 h1
      obtain ⟨y, e2, ry⟩ := ix_of r2 h2
      exact ih j x y e1 e2 rx ry
    rw [all_true] at q
    exact q
  | @dK n a b ks ls ha hb hl hx _ ih =>
    intro v u rx ry
    obtain rfl : v = Value.ref a := rx
    obtain rfl : u = Value.ref b := ry
    by_cases hab : a = b
    · rw [hab]
      exact .same
    obtain ⟨_, ya, va, ra, da⟩ := dk_rd I.hok ha
    obtain ⟨_, yb, vb, rb, db⟩ := dk_rd I.hok hb
    have hit : ∀ k v, (k, v) ∈ va → ∃ p ∈ ks, p.1 = k ∧ RelV p.2 v := by
      intro k v hm
      obtain ⟨j, e1⟩ := List.mem_iff_getElem?.mp hm
      have hlt : j < ks.length := by rw [ra.length]; exact (List.getElem?_eq_some_iff.mp e1).1
      obtain ⟨q, hq, h1, h2⟩ := LiI.paired_get (show Paired _ ks va from ra) (List.getElem?_eq_getElem hlt)
      rw [e1] at hq
      obtain rfl := Option.some.inj hq
      exact ⟨ks[j], List.getElem_mem hlt, h1, h2⟩
    have q := PySem.W.EqTree.dicts (prog := X.prog) (w := X.w) (s := s) (knd := mixKind X.prog X.w) (n := n) (e := fun _ => true) hab ya yb da db fun k v z hm hv => by
      obtain ⟨p, hp, e1, r1⟩ := hit k v hm
      obtain ⟨y, hy⟩ := Option.isSome_iff_exists.mp (hx p hp)
      have rr : RelO (some y) (valueAt vb p.1) := by rw [← hy]; exact rb.val _
      obtain ⟨z', hz, rz⟩ := rr.some_of
      rw [e1, hv] at hz
      obtain rfl := Option.some.inj hz
      exact ih p y hp hy r1 rz
    have hs : (va.length == vb.length) = true := by
      rw [← ra.length, ← rb.length, hl]
      exact beq_self_eq_true _
    have h2 : (va.all fun p => (valueAt vb p.1).isSome && true) = true := by
      rw [List.all_eq_true]
      rintro ⟨k, v⟩ hm
      obtain ⟨p, hp, e1, r1⟩ := hit k v hm
      obtain ⟨y, hy⟩ := Option.isSome_iff_exists.mp (hx p hp)
      have rr : RelO (some y) (valueAt vb p.1) := by rw [← hy]; exact rb.val _
      obtain ⟨z', hz, rz⟩ := rr.some_of
      rw [e1] at hz
      show ((valueAt vb k).isSome && true) = true
      rw [hz]
      rfl
    rw [hs, h2] at q
    exact q
/-- == and != of two tuples that are equal -/
def rEqT : R2 := fun x y H Q => ∃ n a b xs ys, x = .ref a ∧ y = .ref b ∧ Rd H a (.tup xs) ∧ Rd H b (.tup ys) ∧ n ≤ 60 ∧ xs.length = ys.length ∧ (∀ (j : Nat) (x y : V), xs[j]? = some x → ys[j]? = some y → DEq H n x y) ∧ Q (.bl true) H
def rNeT : R2 := fun x y H Q => ∃ n a b xs ys, x = .ref a ∧ y = .ref b ∧ Rd H a (.tup xs) ∧ Rd H b (.tup ys) ∧ n ≤ 60 ∧ xs.length = ys.length ∧ (∀ (j : Nat) (x y : V), xs[j]? = some x → ys[j]? = some y → DEq H n x y) ∧ Q (.bl false) H
theorem op_eqT (hu : X.A.units + 64 < cLine) : OpR X (compareOp .Eq) rEqT := by
  intro pins s σ H x y v u Q I rx ry h
  obtain ⟨n, a, b, xs, ys, rfl, rfl, ha, hb, hn, hl, t, q⟩ := h
  obtain rfl : v = Value.ref a := rx
  obtain rfl : u = Value.ref b := ry
  obtain ⟨_, its, r1, p1⟩ := (show ObjOk X.prog X.w H s.heap a (.tup xs) from ha.ok I.hok)
  obtain ⟨_, its2, r2, p2⟩ := (show ObjOk X.prog X.w H s.heap b (.tup ys) from hb.ok I.hok)
  refine PySem.W.eq_tuplesT (n := n) (e := fun _ => true) (show s.heap.IsTuple a its.toArray from p1) (show s.heap.IsTuple b its2.toArray from p2) (fun j h1 h2 => ?_) (by omega) (fin_bl I q ?_)
  · obtain ⟨x, e1, rx⟩ := ix_of r1 h1
    obtain ⟨y, e2, ry⟩ := ix_of r2 h2
    exact (t j x y e1 e2).tree I rx ry
  · rw [all_true, List.size_toArray, List.size_toArray, ← r1.length, ← r2.length, hl]
    simp
theorem op_neT (hu : X.A.units + 64 < cLine) : OpR X (compareOp .NotEq) rNeT := by
  intro pins s σ H x y v u Q I rx ry h
  obtain ⟨n, a, b, xs, ys, rfl, rfl, ha, hb, hn, hl, t, q⟩ := h
  obtain rfl : v = Value.ref a := rx
  obtain rfl : u = Value.ref b := ry
  obtain ⟨_, its, r1, p1⟩ := (show ObjOk X.prog X.w H s.heap a (.tup xs) from ha.ok I.hok)
  obtain ⟨_, its2, r2, p2⟩ := (show ObjOk X.prog X.w H s.heap b (.tup ys) from hb.ok I.hok)
  refine PySem.W.ne_tuplesT (n := n) (e := fun _ => true) (show s.heap.IsTuple a its.toArray from p1) (show s.heap.IsTuple b its2.toArray from p2) (fun j h1 h2 => ?_) (by omega) (fin_bl I q ?_)
  · obtain ⟨x, e1, rx⟩ := ix_of r1 h1
    obtain ⟨y, e2, ry⟩ := ix_of r2 h2
    exact (t j x y e1 e2).tree I rx ry
  · rw [all_true, List.size_toArray, List.size_toArray, ← r1.length, ← r2.length, hl]
    simp
end
end Tb

set_option Elab.async false
set_option linter.all false
set_option maxRecDepth 100000
set_option maxHeartbeats 4000000
/-! a == b of two dicts whose keys are tuples, equal -/
namespace PySem.W
open PySem PySem.Calls PyProof.Rows PyProof.V PySem.Spec
open PySem.SeqAt (EqIn EqAt rcIn_lists rcIn_tuples)
section
variable {prog : Program} {w : World} {K : Type} [DecidableEq K] {knd : HeapKind prog w K} {A : Around} {E : Value → Shared → Prop} {s : Shared}
theorem keqH_samePairs {nm : String} {a b : Addr} {ka kb : List (K × Addr × Value)} {Q : Bool → Shared → Prop} (hu : knd.room A) (ha : (a == sysModules) = false) (hb : (b == sysModules) = false)
    (da : s.heap.DictOfH knd a ka) (db : s.heap.DictOfH knd b kb) (hl : ka.length = kb.length) (hits : ∀ x ∈ ka, ∃ q : Addr × Value, (x.1, q) ∈ kb ∧ EqIn prog w A s x.2.2 q.2 true) (h : Q true s) :
    wpAny (model prog w) A (Builtin.Dict.samePairs nm a b) Q E s := by
  obtain ⟨oa, es, ep, hoa, _, hda, hea, hia, hna⟩ := da
  obtain ⟨ob, es', ep', hob, _, hdb, heb, hib, hnb⟩ := db
  have hla : es.size = ka.length := size_of_entries hea
  have hlb : es'.size = kb.length := size_of_entries heb
  unfold Builtin.Dict.samePairs Builtin.Dict.showsAll
  rw [if_neg (show ¬ (a == sysModules) = true by rw [ha]; exact Bool.false_ne_true), if_neg (show ¬ (b == sysModules) = true by rw [hb]; exact Bool.false_ne_true)]
  refine wpAny_bind (wpAny_pure (wpAny_bind (wpAny_pure ?_)))
  refine wpAny_bind (wpAny_dictEntries hoa hda ?_)
  dsimp only
  refine wpAny_bind (wpAny_dictEntries hob hdb ?_)
  have hsz : es.size = es'.size := by rw [hla, hlb, hl]
  rw [if_neg (by rw [hsz]; simp)]
  refine wpAny_bind (wpAny_dictEpoch hoa hda ?_)
  refine wpAny_bind ?_
  rw [Std.Legacy.Range.forIn_eq_forIn_range']
  simp only [Std.Legacy.Range.size, Nat.sub_zero, Nat.add_sub_cancel, Nat.div_one]
  refine wpAny_forIn_list _
    (fun rest q s' => s' = s ∧ q = (none, ()) ∧ ∃ i, rest = List.range' i (es.size - i) ∧ i ≤ es.size)
    _ ?_ ?_ _ _ ⟨rfl, rfl, 0, by simp, Nat.zero_le _⟩
  · rintro x rest q s' ⟨rfl, rfl, i, hr, hi⟩
    have hlt : i < es.size := by
      rcases Nat.lt_or_ge i es.size with h | h
      · exact h
      · rw [Nat.sub_eq_zero_of_le h] at hr; simp at hr
    obtain ⟨rfl, hrest⟩ : x = i ∧ rest = List.range' (i + 1) (es.size - (i + 1)) := by
      have e : es.size - i = (es.size - (i + 1)) + 1 := by omega
      rw [e, List.range'_succ] at hr
      injection hr with h1 h2
      exact ⟨h1, h2⟩
    refine wpAny_bind (wpAny_dictEntries hoa hda ?_)
    have hlt' : x < ka.length := by rw [← hla]; exact hlt
    rw [entry_at hea x, List.getElem?_eq_getElem hlt']
    obtain ⟨k, p, hkv⟩ : ∃ k p, ka[x] = (k, p) := ⟨_, _, rfl⟩
    have hmem : (k, p) ∈ ka := by rw [← hkv]; exact List.getElem_mem hlt'
    rw [hkv]
    obtain ⟨q, hq, heq⟩ := hits _ hmem
    obtain ⟨j, hj⟩ := List.mem_iff_getElem?.mp hq
    show wpAny _ _ (holding [(entryOfKey knd (k, p)).key, (entryOfKey knd (k, p)).val] _ >>= _) _ _ _
    refine wpAny_bind (wpAny_holding (wpAny_bind (wpAny_dictFind_heap (k := k) hu (hia _ hmem) hob hdb heb hib hnb (fun hno => absurd hj (hno j q)) fun j' p' hj' => ?_)))
    have hep : p' = q := by
      have e1 : j' = j := idxH_unique hnb hj' hj
      rw [e1, hj] at hj'
      injection hj' with hj'
      injection hj' with _ e2
      exact e2.symm
    subst hep
    refine wpAny_bind (wpAny_dictEntries hob hdb ?_)
    rw [entry_at heb j', hj']
    refine wpAny_holding (heq _ _ ?_)
    show wpAny _ _ (if (!true) = true then _ else _) _ _ _
    rw [if_neg (by decide)]
    refine wpAny_bind (wpAny_dictEpoch hoa hda ?_)
    rw [if_neg (by simp)]
    exact wpAny_pure ⟨rfl, rfl, x + 1, hrest, hlt⟩
  · rintro q s' ⟨rfl, rfl, i, hr, hi⟩
    exact wpAny_pure h
theorem keqH_eq {a b : Addr} {ka kb : List (K × Addr × Value)} {Q : Value → Shared → Prop} (hr : knd.room A.in1) (ha : (a == sysModules) = false) (hb : (b == sysModules) = false)
    (da : s.heap.DictOfH knd a ka) (db : s.heap.DictOfH knd b kb) (hu : A.units < cLine) (hl : ka.length = kb.length) (hits : ∀ x ∈ ka, ∃ q : Addr × Value, (x.1, q) ∈ kb ∧ EqIn prog w A.in1 s x.2.2 q.2 true) (h : Q (.bool true) s) :
    wpAny (model prog w) A (compareOp .Eq (.ref a) (.ref b)) Q E s := by
  refine wpAny_richCompare_same_room (op := .Eq) da.typeIs db.typeIs PySem.F.slot_dict_eq (wpAny_call_entry PySem.F.slot_dict_eq da.typeIs PySem.F.entry_dict_eq ?_ (PySem.F.args_dict_eq_2 _ _)) hu
  show wpAny _ _ (Builtin.Dict.dictSlotArgs "__eq__" ⟨[.ref a, .ref b], []⟩ >>= _) _ _ s
  refine wpAny_bind ?_
  unfold Builtin.Dict.dictSlotArgs
  refine wpAny_bind (wpAny_notOrdered_dict da.typeIs ?_)
  show wpAny _ _ (pure (Value.ref a, Value.ref b)) _ _ s
  refine wpAny_pure ?_
  refine wpAny_bind (wpAny_isInstance (T := "dict") db.typeIs PySem.F.sub_dict_dict ?_)
  simp only [Bool.not_true, Bool.false_eq_true, if_false]
  refine wpAny_bind (wpAny_pure (wpAny_bind (wpAny_pure ?_)))
  refine wpAny_bind (keqH_samePairs hr ha hb da db hl hits ?_)
  refine wpAny_pure ⟨_, rfl, ?_, ?_⟩
  · exact fun x => nomatch x
  · simpa using h
end
end PySem.W
namespace Tb
open PySem PySem.Spec PyProof.Rows L2
theorem atKey_mem {κ : Type} [DecidableEq κ] {xs : List (κ × Addr × Value)} {k : κ} {p : Addr × Value} (h : atKey xs k = some p) : (k, p) ∈ xs := by
  unfold atKey at h
  obtain ⟨x, hx, rfl⟩ := Option.map_eq_some_iff.mp h
  have h1 := List.find?_some hx
  have h2 := List.mem_of_find?_eq_some hx
  obtain ⟨k', p'⟩ := x
  have e : k' = k := by simpa using h1
  rw [← e]
  exact h2
section
variable {X : Cx} {pins : List (Addr × Obj)} {σ : L2.St} {H : Hp} {s : Shared}
/-- a == b, two dicts whose keys are tuples, equal -/
def rEqDT : R2 := fun x y H Q => ∃ a b ks ls n, x = .ref a ∧ y = .ref b ∧ H a = some (.dT ks) ∧ H b = some (.dT ls) ∧ n ≤ 50 ∧ ks.length = ls.length ∧ (∀ p ∈ ks, ∃ y, valV ls p.1 = some y ∧ DEq H n p.2 y) ∧ Q (.bl true) H
theorem op_eqDT (hu : X.A.units + 64 < cLine) : OpR X (compareOp .Eq) rEqDT := by
  intro pins s σ H x y v u Q I rx ry h
  obtain ⟨a, b, ks, ls, n, rfl, rfl, ha, hb, hn, hl, t, q⟩ := h
  obtain rfl : v = Value.ref a := rx
  obtain rfl : u = Value.ref b := ry
  obtain ⟨za, sa, xa, ra, da⟩ := dt_of I.hok ha
  obtain ⟨zb, sb, xb, rb, db⟩ := dt_of I.hok hb
  have la : ks.length = xa.length := Paired.length ra
  have lb : ls.length = xb.length := Paired.length rb
  refine PySem.W.keqH_eq (tupleKind_room_in1 (by omega)) sa sb da db (by omega) (by rw [← la, ← lb, hl]) (fun z hz => ?_) (fin_bl I q rfl)
  obtain ⟨j, hj⟩ := List.mem_iff_getElem?.mp hz
  have hlt : j < ks.length := by rw [la]; exact (List.getElem?_eq_some_iff.mp hj).1
  obtain ⟨z', hz', h1, h2, h3⟩ := LiI.paired_get (show Paired _ ks xa from ra) (List.getElem?_eq_getElem hlt)
  rw [hj] at hz'
  obtain rfl := Option.some.inj hz'
  obtain ⟨y, hy, hd⟩ := t ks[j] (List.getElem_mem hlt)
  have rr : RelO (some y) ((atKey xb ks[j].1).map (·.2)) := by rw [← hy]; exact rb.val _
  obtain ⟨w', hw, rw'⟩ := rr.some_of
  obtain ⟨p, hp, hp2⟩ := Option.map_eq_some_iff.mp hw
  subst hp2
  refine ⟨p, by rw [← h1]; exact atKey_mem hp, ?_⟩
  exact (hd.tree I h3 rw').at X.A.in1 (by show X.A.units + 1 + n < cLine; omega)
end
end Tb

set_option Elab.async false
set_option linter.all false
set_option maxRecDepth 100000
set_option maxHeartbeats 4000000
namespace Tb
open PySem PySem.Spec PyProof.Rows L2 TL
section
variable {P : Program} {w : World} {K : PySem.W.Frag} {mg : Str → Option Value} {base : Heap}
/-! ### Program.__eq__ of two programs that are alike, their dicts in any order -/
theorem valV_of_mem {κ : Type} [DecidableEq κ] : ∀ {kvs : List (κ × V)}, (kvs.map (·.1)).Nodup → ∀ {p : κ × V}, p ∈ kvs → valV kvs p.1 = some p.2
  | q :: r, nd, p, h => by
    rw [List.map_cons, List.nodup_cons] at nd
    rcases List.mem_cons.mp h with e | e
    · rw [e]
      exact valV_pos rfl
    · rw [valV_neg fun z => nd.1 (by rw [z]; exact List.mem_map.mpr ⟨p, e, rfl⟩)]
      exact valV_of_mem nd.2 e
theorem paired_mem {α β : Type} {F : α → β → Prop} : ∀ {l : List α} {m : List β}, Paired F l m → ∀ {x : α}, x ∈ l → ∃ y ∈ m, F x y
  | _, _, .cons h t, x, hx => by
    rcases List.mem_cons.mp hx with e | e
    · exact ⟨_, List.mem_cons_self, by rw [e]; exact h⟩
    · obtain ⟨y, hy, f⟩ := paired_mem t e
      exact ⟨y, List.mem_cons_of_mem _ hy, f⟩
theorem paired_mem' {α β : Type} {F : α → β → Prop} : ∀ {l : List α} {m : List β}, Paired F l m → ∀ {y : β}, y ∈ m → ∃ x ∈ l, F x y
  | _, _, .cons h t, y, hy => by
    rcases List.mem_cons.mp hy with e | e
    · exact ⟨_, List.mem_cons_self, by rw [e]; exact h⟩
    · obtain ⟨x, hx, f⟩ := paired_mem' t e
      exact ⟨x, List.mem_cons_of_mem _ hx, f⟩
def PrEq (C : Addr) (a b : Addr) (H : Hp) : Prop := ∃ L B places ms ms' es es', PrAt C H a L B places ms es ∧ PrAt C H b L B places ms' es' ∧ ms.Perm ms' ∧ (ms.map Mv.key).Nodup ∧ (∀ m ∈ ms, (m.fl.map (·.1)).Nodup) ∧ es.Perm es' ∧ (es.map (·.1)).Nodup
/-- the class's words for isinstance -/
structure PrIs (K : PySem.W.Frag) (C : Addr) : Prop where
  ha : PySem.W.findIn K (.ref C) "__class__" = some (some (.builtin "object.__class__"))
  hn : PySem.W.specialIn K (.builtin "object.__class__") "__get__" = some (some (.builtin "getset_descriptor.__get__"))
  htk : PySem.W.takesIn K (.builtin "object.__class__") = some true
  hm : PySem.W.mroIn K C (.type "object") = some true
theorem kitOne_self {K : PySem.W.Frag} {C : Addr} : PySem.W.kitOne K (.ref C) (.ref C) = some true := by
  unfold PySem.W.kitOne
  rw [if_pos (by simp)]
theorem fkv_nd {fl : Fil} (h : (fl.map (·.1)).Nodup) : ((fkv fl).map (·.1)).Nodup := by
  unfold fkv
  rw [List.map_map]
  have : ((fun x : Key × V => x.1) ∘ fun q : List Nat × List Nat => ((Sum.inr (S q.1) : Key), V.str (S q.2))) = (fun c : List Nat => (Sum.inr (S c) : Key)) ∘ fun q : List Nat × List Nat => q.1 := rfl
  rw [this, ← List.map_map]
  exact List.Pairwise.map _ (fun a b hab z => hab (key_S.mp z)) h
theorem fkv_flat {fl : Fil} {p : Key × V} (h : p ∈ fkv fl) : flatB p.2 = true := by
  unfold fkv at h
  obtain ⟨q, _, rfl⟩ := List.mem_map.mp h
  rfl
theorem mv_deq {H : Hp} {kv kv' : List Key × V} {m : Mv} (nd : (m.fl.map (·.1)).Nodup) (h : MvAt H kv m) (h' : MvAt H kv' m) : DEq H 2 kv.2 kv'.2 := by
  obtain ⟨e1, t1, d1, v1, t1h, d1h⟩ := h
  obtain ⟨e2, t2, d2, v2, t2h, d2h⟩ := h'
  rw [v1, v2]
  refine DEq.two (.inl t1h) (.inl t2h) (.flat rfl) (.dK (.inl d1h) (.inl d2h) rfl (fun p hp => ?_) fun p y hp hy => ?_)
  · rw [valV_of_mem (fkv_nd nd) hp]
    rfl
  · rw [valV_of_mem (fkv_nd nd) hp] at hy
    rw [← Option.some.inj hy]
    exact .flat (fkv_flat hp)
theorem scEq : FnScope ["self", "other"] ["self", "other"] (defScope sEq) := ⟨rfl, rfl, rfl, by decide +kernel, rfl, by decide +kernel, by decide +kernel⟩
theorem ok_eq {f C : Addr} {fd : FuncData} {k : Nat} (F : Fun K "__eq__" "Program.__eq__" sEq f fd) (T : PrTxt K mg C) (I : PrIs K C) (mi : mg "isinstance" = none) : FnOk P w K mg base CX0 (k + 1) f fd ["self", "other"] (spEq (PrEq C)) := by
  refine F.ok scEq (fun vs H Q E h => ?_) (fun cdv A outer s H vs Q E hr h => ?_)
  · obtain ⟨a, b, rfl, _⟩ := h
    rfl
  · obtain ⟨a, b, rfl, ⟨L, B, places, ms, ms', es, es', pa, pb, pm, nk, nf, pe, ne⟩, q⟩ := h
    obtain ⟨dx, pl, mv, en, kk, h1, h2, h3, h4, h5⟩ := pa.ob
    obtain ⟨dx', pl', mv', en', kk', h1', h2', h3', h4', h5'⟩ := pb.ob
    have hu := hu_of hr
    have hu64 := hr.units
    refine ⟨_, pss_one (ps_ret (pe_and (pe_callB call_isi (by rfl) mi (by decide +kernel) (pa_cons (pv 1) (pa_cons (pe_glob (v := .ref C) (by rfl) T.mgC rfl) pa_nil))) (pe_and (pe_cmpR op_eq (pe_fld (pv 0) rfl) (pe_fld (pv 1) rfl) (nomark _)) (pe_and (pe_cmpR op_eq (pe_fld (pv 0) rfl) (pe_fld (pv 1) rfl) (nomark _)) (pe_and (pe_cmpR (op_eqT hu64) (pe_fld (pv 0) rfl) (pe_fld (pv 1) rfl) (nomark _)) (pe_and (pe_cmpR (op_eqDT hu64) (pe_fld (pv 0) rfl) (pe_fld (pv 1) rfl) (nomark _)) (pe_one (pe_cmpR (op_eqV hu64) (pe_fld (pv 0) rfl) (pe_fld (pv 1) rfl) (nomark _))))))))), ?_⟩
    refine ⟨_, rfl, _, .ref C, .ref C, .ref C, true, rfl, .own C, .base (.ins h1' T.cl I.ha I.hn I.htk I.hm), kitOne_self, true, rfl, iteT ?_⟩
    refine ⟨_, rfl, a, C, dx, _, _, rfl, h1, T.cl, T.nL, fl_l _ _ _ _ _, _, rfl, b, C, dx', _, _, rfl, h1', T.cl, T.nL, fl_l _ _ _ _ _, rfl, true, ?_, iteT ?_⟩
    · rw [decide_eq_true rfl]
    refine ⟨_, rfl, a, C, dx, _, _, rfl, h1, T.cl, T.nB, fl_b _ _ _ _ _, _, rfl, b, C, dx', _, _, rfl, h1', T.cl, T.nB, fl_b _ _ _ _ _, rfl, true, ?_, iteT ?_⟩
    · rw [decide_eq_true rfl]
    refine ⟨_, rfl, a, C, dx, _, _, rfl, h1, T.cl, T.nP, fl_p _ _ _ _ _, _, rfl, b, C, dx', _, _, rfl, h1', T.cl, T.nP, fl_p _ _ _ _ _, 1, pl, pl', txs places, txs places, rfl, rfl, .inl h2, .inl h2', by decide, rfl, ?_, true, rfl, iteT ?_⟩
    · intro j x y e1 e2
      rw [e1] at e2
      cases e2
      unfold txs at e1
      obtain ⟨c, _, rfl⟩ := List.mem_map.mp (List.mem_of_getElem? e1)
      exact .flat rfl
    refine ⟨_, rfl, a, C, dx, _, _, rfl, h1, T.cl, T.nM, fl_m _ _ _ _ _, _, rfl, b, C, dx', _, _, rfl, h1', T.cl, T.nM, fl_m _ _ _ _ _, mv, mv', kk, kk', 2, rfl, rfl, h3, h3', by decide, ?_, ?_, true, rfl, iteT ?_⟩
    · rw [Paired.length h4, Paired.length h4', pm.length_eq]
    · intro p hp
      obtain ⟨m, hm, f1⟩ := paired_mem h4 hp
      obtain ⟨p', hp', f2⟩ := paired_mem' h4' (pm.mem_iff.mp hm)
      have nd' : (kk'.map (·.1)).Nodup := by
        rw [keys_of h4']
        exact (pm.map Mv.key).nodup_iff.mp nk
      refine ⟨p'.2, ?_, mv_deq (nf m hm) f1 f2⟩
      rw [f1.1, ← f2.1]
      exact valV_of_mem nd' hp'
    refine ⟨_, rfl, a, C, dx, _, _, rfl, h1, T.cl, T.nE, fl_e _ _ _ _ _, _, rfl, b, C, dx', _, _, rfl, h1', T.cl, T.nE, fl_e _ _ _ _ _, 1, by decide, .inr ⟨en, en', fkv es, fkv es', rfl, rfl, h5, h5', ?_, ?_⟩, q H (fun _ _ e => e)⟩
    · unfold fkv
      rw [List.length_map, List.length_map, pe.length_eq]
    · intro p hp
      have hp2 : p ∈ fkv es' := by
        unfold fkv at hp ⊢
        exact (pe.map _).mem_iff.mp hp
      exact ⟨p.2, valV_of_mem (fkv_nd ((pe.map _).nodup_iff.mp ne)) hp2, .inl ⟨rfl, fkv_flat hp⟩⟩
end
section
variable {X : Cx} {C : Addr} {k j : Nat} {nm : Str} {sp : Sp} {o : Expr} {to : TE}
/-- the class's own ==, proved -/
structure EqM (P : Program) (w : World) (K : PySem.W.Frag) (mg : Str → Option Value) (base : Heap) (C : Addr) (k : Nat) (R : Addr → Addr → Hp → Prop) : Prop where
  ex : ∃ f fd, PySem.W.findIn K (.ref C) "__eq__" = some (some (.ref f)) ∧ PySem.W.isFn K (.ref f) = true ∧ FnOk P w K mg base CX0 k f fd ["self", "other"] (spEq R) ∧ Binds K fd ["self", "other"] []
theorem op_eqM {R : Addr → Addr → Hp → Prop} (D : EqM X.prog X.w X.K X.mg X.base C k R) (hr : Room j X.A) (hk : k ≤ j) : OpR X (compareOp .Eq) (rEqG (DIns C R)) := by
  obtain ⟨f, fd, hs, hf, F, b⟩ := D.ex
  exact op_eqG (rcG_ins F hs hf b pass0) (hr.mono hk)
end

end Tb

set_option Elab.async false
set_option linter.all false
set_option maxRecDepth 100000
set_option maxHeartbeats 4000000
namespace Tb
open PySem PySem.Spec PyProof.Rows L2 TL
open AutoSeq1 (wpAny_loadPart')
open MeetsSeq MeetsSeq2 MeetsSeq3 SeqRoads2
section
variable {X : Cx} {n : Nat} {D : Eqv}
/-- == tells True and leaves the frame's names -/
def EqK (X : Cx) (n : Nat) (D : Eqv) : Prop :=
  ∀ (A : Around) (pins : List (Addr × Obj)) (s : Shared) (σ : L2.St) (H : Hp) (x y : V) (u v : Value), Sub X n A → Inv X pins σ H s → RelV x u → RelV y v → D x y H →
    wpAny (model X.prog X.w) A (eqBool u v) (fun r s' => r = true ∧ Kept X s s' ∧ LoopI X pins σ H s') X.xe s
theorem eqK_ins {C f : Addr} {fd : FuncData} {R : Addr → Addr → Hp → Prop} (F : FnOk X.prog X.w X.K X.mg X.base CX0 n f fd ["self", "other"] (spEq R))
    (hs : PySem.W.findIn X.K (.ref C) "__eq__" = some (some (.ref f))) (hf : PySem.W.isFn X.K (.ref f) = true) (hb : Binds X.K fd ["self", "other"] []) : EqK X n (DIns C R) := by
  intro A pins s σ H x y u v sb I rx ry d
  obtain ⟨a, b, dx, dy, fs, gs, rfl, rfl, ha, hb', hr⟩ := d
  cases rx
  cases ry
  by_cases hab : a = b
  · subst hab
    exact SeqAt.EqAt.same (A := A) (s := s) (.ref a) X.prog X.w X.xe _ ⟨rfl, Kept.refl X s, H, I, Ext.rfl'⟩
  refine GQ.eqBool_refG hab (wpAny_mono (Q := fun r s' => r = .bool true ∧ Kept X s s' ∧ LoopI X pins σ H s') ?_ (fun r s' q => ⟨true, q.1, rfl, q.2⟩) fun _ _ z => z)
  obtain ⟨_, J1, _⟩ := ins_get I.hok ha
  obtain ⟨_, J2, _⟩ := ins_get I.hok hb'
  obtain ⟨_, J1, _⟩ := J1.look
  obtain ⟨_, J2, _⟩ := J2.look
  obtain ⟨m, hF⟩ := I.fr
  refine PySem.W.cmp_K (op := .Eq) (tb := .ref C) sb.room.units0 hF I.ok.mod.kin J1 J2.type (by simp [PySem.W.notFirst]) hs hf ?_
  have want : spEq R [.ref a, .ref b] H (fun v H' => v = .bl true ∧ Ext H H') E0 := ⟨a, b, rfl, hr, fun H' e => ⟨rfl, e⟩⟩
  have e0 : Env0 X.prog X.w X.K X.mg X.base A X.stack s H := by
    have e := I.env0
    exact ⟨by rw [sb.fr]; exact e.frames, e.mod, e.bs, e.bsz, e.funs, e.frf, e.hok, e.bare⟩
  have bound := hb s [.ref a, .ref b] I.kIn rfl
  rw [List.append_nil] at bound
  refine wpAny_call (codeAny_mono (F.run A X.stack s H ⟨[.ref a, .ref b], []⟩ [.ref a, .ref b] [.ref a, .ref b] _ E0 sb.room e0 bound (.cons rfl (.cons rfl .nil)) want) ?_)
  intro r s' z
  match r, z with
  | .error e, z => exact z.elim
  | .ok (.ret u), z =>
    obtain ⟨kp, vz, H', I', rz, ez, ext⟩ := kept_call I z
    subst ez
    cases rz
    exact ⟨rfl, kp, H', I', ext⟩
  | .ok .next, z => exact z.elim
  | .ok .brk, z => exact z.elim
  | .ok .cont, z => exact z.elim
variable {A : Around} {R : Result → Shared → Prop} {pins : List (Addr × Obj)} {σ : L2.St} {H : Hp} {a b : Addr} {xs ys : List V} {s0 : Shared}
theorem ne_turnsK (hD : Mon D) (hE : EqK X n D) (sb : Sub X (n + 1) A) (ha : H a = some (.lst xs)) (hb : H b = some (.lst ys)) (pr : Prs D xs ys H) (fin : ∀ s, Kept X s0 s → LoopI X pins σ H s → R (.ok (.ret (.bool false))) s) (bad : ∀ e s, X.xe e s → R (.error e) s) :
    ∀ (left i : Nat), i + left = xs.length → ∀ s, Kept X s0 s → LoopI X pins σ H s → wpAny (model X.prog X.w) A.in1 (Builtin.«list.__eq__.loop» ⟨[.ref a, .ref b, rawInt i, rawInt 3], []⟩) (GQ.FinOf X.prog X.w A R) (fun e s' => R (.error e) s') s
  | left, i, hi, s, kp, li => by
    obtain ⟨H1, I1, x1⟩ := id li
    obtain ⟨_, us, c1, rel1, g1⟩ := I1.hok a _ (x1 _ _ ha)
    obtain ⟨_, vs, c2, rel2, g2⟩ := I1.hok b _ (x1 _ _ hb)
    have lu : us.toArray.size = xs.length := by rw [List.size_toArray, rel1.length]
    have lv : vs.toArray.size = xs.length := by rw [List.size_toArray, ← rel2.length, ← pr.1]
    cases left with
    | zero =>
      have done := fin s kp li
      obtain ⟨hp, gs, dr, tk, os⟩ := s
      wp_walk using wpAny_loadPart' g1, wpAny_loadPart' g2
      rw [show us.toArray[((i : Nat) : Int).toNat]? = none from Array.getElem?_eq_none (by rw [lu]; omega), show vs.toArray[((i : Nat) : Int).toNat]? = none from Array.getElem?_eq_none (by rw [lv]; omega)]
      wp_walk using wpAny_loadPart' g1, wpAny_loadPart' g2
      show R (.ok (.ret (.bool (us.toArray.size != vs.toArray.size)))) _
      rwa [show (us.toArray.size != vs.toArray.size) = false by rw [lu, lv]; simp]
    | succ left =>
      have b1 : i < us.toArray.size := by rw [lu]; omega
      have b2 : i < vs.toArray.size := by rw [lv]; omega
      have p1 : i < xs.length := by omega
      have p2 : i < ys.length := by rw [← pr.1]; exact p1
      have r1 : RelV xs[i] us.toArray[i] := by
        obtain ⟨v1, e1, q1⟩ := rel1.get (List.getElem?_eq_getElem p1)
        rw [List.getElem?_eq_getElem (by simpa using b1)] at e1
        simp only [List.getElem_toArray]
        rwa [Option.some.inj e1]
      have r2 : RelV ys[i] vs.toArray[i] := by
        obtain ⟨v1, e1, q1⟩ := rel2.get (List.getElem?_eq_getElem p2)
        rw [List.getElem?_eq_getElem (by simpa using b2)] at e1
        simp only [List.getElem_toArray]
        rwa [Option.some.inj e1]
      have turn : wpAny (model X.prog X.w) A.in1 (eqBool us.toArray[i] vs.toArray[i]) (fun r s2 => r = true ∧ Kept X s0 s2 ∧ LoopI X pins σ H s2) X.xe s :=
        wpAny_mono (hE A.in1 pins s σ H1 _ _ _ _ sb.in1 I1 r1 r2 (hD _ _ _ _ x1 (pr.2 i _ _ (List.getElem?_eq_getElem p1) (List.getElem?_eq_getElem p2)))) (fun r s2 q => ⟨q.1, kp.trans q.2.1, let ⟨H2, I2, x2⟩ := q.2.2; ⟨H2, I2, x1.trans x2⟩⟩) fun _ _ z => z
      have go := ne_turnsK hD hE sb ha hb pr fin bad left (i + 1) (by omega)
      obtain ⟨hp, gs, dr, tk, os⟩ := s
      wp_walk using wpAny_loadPart' g1, wpAny_loadPart' g2
      rw [show us.toArray[((i : Nat) : Int).toNat]? = some us.toArray[i] from Array.getElem?_eq_getElem b1, show vs.toArray[((i : Nat) : Int).toNat]? = some vs.toArray[i] from Array.getElem?_eq_getElem b2]
      refine wpAny_bind (wpAny_mono turn ?_ bad)
      rintro r s2 ⟨rfl, k2, l2⟩
      have go2 := go s2 k2 l2
      obtain ⟨hp2, gs2, dr2, tk2, os2⟩ := s2
      wp_walk
      rw [show ((i : Int) + 1) = ((i + 1 : Nat) : Int) by omega]
      refine ⟨plainId_quiet plain_eq_loop _, codeAny_builtin entry_eq_loop ?_⟩
      rw [Around.under_plainId plain_eq_loop _]
      exact go2
theorem opk_neL (hD : Mon D) (hE : EqK X n D) (hr : Room (n + 1) X.A) : OpK X (compareOp .NotEq) (rNeL D) := by
  rintro pins s σ H x y v u Q I rx ry ⟨⟨a, b, xs, ys, rfl, rfl, ha, hb, pr⟩, q⟩
  cases rx
  cases ry
  obtain ⟨_, us, c1, rel1, g1⟩ := I.hok a _ ha
  obtain ⟨_, vs, c2, rel2, g2⟩ := I.hok b _ hb
  have lens : us.toArray.size = vs.toArray.size := by rw [List.size_toArray, List.size_toArray, ← rel1.length, ← rel2.length, pr.1]
  show wpAny (model X.prog X.w) X.A (richCompare .NotEq (.ref a) (.ref b)) _ _ _
  refine wpAny_richCompare_same_room (op := .NotEq) ⟨_, g1, rfl⟩ ⟨_, g2, rfl⟩ F.slot_list_ne (GQ.call_here F.slot_list_ne ⟨_, g1, rfl⟩ F.entry_list_ne (F.args_list_ne_2 _ _) ?_) hr.units0
  have loop := ne_turnsK (A := X.A) (s0 := s) (R := wants (fun v s' => v ≠ .notImplemented ∧ Kept X s s' ∧ EP X pins σ Q v s') X.xe) hD hE ⟨hr, rfl⟩ ha hb pr (fun s' kp l => by
    obtain ⟨H', I', e⟩ := l
    exact ⟨(fun z => nomatch z), kp, .bl false, H', I', rfl, q H' e⟩) (fun e s' z => z) xs.length 0 (by omega) s (Kept.refl X s) ⟨H, I, Ext.rfl'⟩
  obtain ⟨hp, gs, dr, tk, os⟩ := s
  have f3 := AutoSeq1.sub_list_list
  have hne : ¬ (us.toArray.size != vs.toArray.size) = true := by simp [lens]
  wp_walk using wpAny_loadPart' g1, wpAny_loadPart' g2
  refine ⟨plainId_quiet plain_eq_loop _, codeAny_builtin entry_eq_loop ?_⟩
  rw [Around.under_plainId plain_eq_loop _]
  exact loop
end
end Tb

set_option Elab.async false
set_option linter.all false
set_option maxRecDepth 100000
set_option maxHeartbeats 4000000
namespace Tb
open PySem PySem.Spec PyProof.Rows L2 TL
section
variable {X : Cx} {x : Str} {c : Nat} {te : TE}
theorem pek_neg {e : Expr} {pos : Pos} (h : PEK X x c e te) : PEK X x c (.UnaryOp .USub e pos) (fun σ H Q => te σ H fun v H' => ∃ i, v = .int i ∧ Q (.int (-i)) H') := by
  intro pins s σ H Q k I q
  refine wpAny_UnaryOp (thn (h pins s σ H _ k I q) ?_)
  rintro v s1 ⟨k1, y, H1, I1, r1, i, rfl, q1⟩
  obtain ⟨t, rfl⟩ := r1
  exact neg_int ⟨k1.keep (Nat.le_succ _) (fun _ h => h), .int (-i), H1, I1.tok _, ⟨_, rfl⟩, q1⟩
/-- [told for name in a local list], the frame's names left -/
theorem pek_told {i : Nat} {y : Str} {py pos : Pos} {elt tg : Expr} {scope : Scope} {own : List (Str × Nat)} {g : TG} (hc : X.calm = true) (hN : X.N.Nodup) (hi : X.N[i]? = some y) (hv : Vis X.env.scope y) (ok : BlkOk X.N X.env.scope scope own)
    (hg : ∀ (s : Shared) (H : Hp) (C : Addr) (cl : List (Str × Addr)) (fp : List Addr), PG (X.blk s H scope (compEnvC scope cl C X.env) fp) tg g) (he : ∀ (s : Shared) (H : Hp) (C : Addr) (cl : List (Str × Addr)) (fp : List Addr), PE (X.blk s H scope (compEnvC scope cl C X.env) fp) elt te)
    (d1 : (y == ("__debug__" : Str)) = false := by decide) (d2 : (y == ("__classdict__" : Str)) = false := by decide) (hs : ∀ z, foldedSetIterable (.Name y py) X.env z = pure z := by intro _; rfl) :
    PEK X x c (.ListComp elt [⟨tg, .Name y py, [], 0⟩] scope pos) (tLc (iList X.K (tVar i)) g tYes te (own.map (·.2))) := by
  intro pins s σ H Q k I h
  refine keepK k ?_
  obtain ⟨v, hσ, a, rfl, ⟨xs, hq⟩, plan⟩ := h
  rw [eval_ListComp]
  have bound : ∀ z ∈ scope.names, z.2 = .free → ∃ c, X.env.cells.lookup z.1 = some c := fun z hz e => (ok.free z hz e).elim (fun q => I.ok.has _ (.inl q)) fun q => I.ok.has _ (.inr q)
  refine wpAny_comprehension_free (use := none) rfl hs (closure_ok bound) ok.kind (fun z hz e => by rw [ok.uniq z hz, e]) (raw_name hi hv I hσ (fun u r => ?_) d1 d2)
  cases r
  obtain ⟨its, rel, pl, room⟩ := I.list hq
  refine wpAny_pyIter_list pl.isList ?_
  -- the walk's object, then the list's
  obtain ⟨it, hit⟩ : ∃ it, it = s.heap.objs.size := ⟨_, rfl⟩
  have up2 : ∀ b o, s.heap.get? b = some o → (s.heap.push { cls := .type "list_iterator", data := .fields #[.ref a, .int 0 0] }).get? b = some o := fun b o e => Heap.get?_push_of_some _ e
  obtain ⟨s2, hs2⟩ : ∃ s2 : Shared, s2 = { s with heap := s.heap.push { cls := .type "list_iterator", data := .fields #[.ref a, .int 0 0] } } := ⟨_, rfl⟩
  have I2 : Inv X pins σ H s2 := by
    rw [hs2]
    exact I.kept (t' := s.toks) up2
  have kept2 : Kept X s s2 := by
    rw [hs2]
    exact Kept.all up2
  have at2 : s2.heap.IsListIter it a 0 := by
    rw [hs2, hit]
    exact ⟨_, Heap.get?_push_size _ rfl, rfl, rfl⟩
  have fp2 : FpOk X pins H it := by
    rw [hit]
    exact I.fpOk (Nat.le_refl _) (I.hok.fresh (Nat.le_refl _))
  rw [← hit, ← hs2]
  refine wpAny_newObj_type (newEnv_comp ?_) (by show 0 ≤ sizeLine; decide)
  obtain ⟨D, hD⟩ : ∃ D, D = s2.heap.objs.size := ⟨_, rfl⟩
  have noD : H D = none := by
    rw [hD]
    exact I2.hok.fresh (Nat.le_refl _)
  obtain ⟨W, ⟨m0, w0⟩, turn⟩ := plan D noD
  obtain ⟨s3, hs3⟩ : ∃ s3 : Shared, s3 = { s2 with heap := s2.heap.push { cls := .type "list", data := .seq ([] : List Value).toArray } } := ⟨_, rfl⟩
  have up3 : ∀ b o, s2.heap.get? b = some o → s3.heap.get? b = some o := fun b o e => by
    rw [hs3]
    exact Heap.get?_push_of_some _ e
  have I3 : Inv X pins σ (upd H D (.lst [])) s3 := by
    rw [hs3] at up3 ⊢
    refine I2.laid (t' := s2.toks) up3 (Nat.le_of_eq hD.symm) ⟨Nat.zero_le _, [], 0, .nil, ?_⟩
    rw [hD]
    exact Heap.get?_push_size _ rfl
  have kept3 : Kept X s s3 := kept2.trans (Kept.all up3)
  have at3 : s3.heap.IsListIter it a 0 := at2.at fun o e => up3 it o e
  have lt2 : it < s2.heap.objs.size := by
    obtain ⟨o, e, _⟩ := at2
    exact Heap.lt_size e
  have lt3 : it < s3.heap.objs.size := by
    obtain ⟨o, e, _⟩ := at3
    exact Heap.lt_size e
  have noIt : (upd H D (.lst [])) it = none := by
    rw [upd_ne (by rw [hD]; exact Nat.ne_of_lt lt2)]
    exact fp2.1
  have fp3 : ∀ b ∈ [it], FpOk X pins (upd H D (.lst [])) b ∧ b < s3.heap.objs.size := fun b hb => by
    rw [List.mem_singleton.mp hb]
    exact ⟨⟨noIt, fp2.2⟩, lt3⟩
  have I4 := block_start I3 ok hN fp3
  have G := hg s3 (upd H D (.lst [])) s3.heap.objs.size (cellsFrom (s3.heap.objs.size + 1) scope.names (cloFrom X.env.cells scope.names [])) [it]
  have T := he s3 (upd H D (.lst [])) s3.heap.objs.size (cellsFrom (s3.heap.objs.size + 1) scope.names (cloFrom X.env.cells scope.names [])) [it]
  rw [← hD, ← hs3]
  show codeAny _ _ (.compStart (.ListComp elt [⟨tg, .Name y py, [], 0⟩] scope pos) 0 (.ref it) (.ref D) (compEnvC scope (cellsFrom (s3.heap.objs.size + 1) scope.names (cloFrom X.env.cells scope.names [])) s3.heap.objs.size X.env)) (compPost (model X.prog X.w) X.A X.xe none (fun u s' => Kept X s s' ∧ EP X pins σ Q u s') (.ref D) s3.heap.objs.size) { s3 with heap := pushCells (s3.heap.push { cls := .type "dict", data := .dict #[] }) scope.names }
  obtain ⟨ce, hce⟩ : ∃ ce, ce = compEnvC scope (cellsFrom (s3.heap.objs.size + 1) scope.names (cloFrom X.env.cells scope.names [])) s3.heap.objs.size X.env := ⟨_, rfl⟩
  have cL : ce.locals = s3.heap.objs.size := by rw [hce]; rfl
  rw [← hce] at I4 G T ⊢
  obtain ⟨H3, hH3⟩ : ∃ H3, H3 = upd H D (.lst []) := ⟨_, rfl⟩
  rw [← hH3] at I3 I4 G T w0 noIt fp3
  obtain ⟨s4, hs4⟩ : ∃ s4 : Shared, s4 = { s3 with heap := pushCells (s3.heap.push { cls := .type "dict", data := .dict #[] }) scope.names } := ⟨_, rfl⟩
  rw [← hs4] at I4 ⊢
  have at4 : s4.heap.IsListIter it a 0 := at3.at fun o e => by
    rw [hs4]
    exact pushCells_keeps _ _ _ _ (Heap.get?_push_of_some _ e)
  have mine : ∀ {σ' : L2.St} {H' : Hp} {s' : Shared}, Inv (X.blk s3 H3 scope ce [it]) [] σ' H' s' → H' it = none → ∀ b ∈ [it], FpOk (X.blk s3 H3 scope ce [it]) [] H' b := fun {σ' H' s'} I' hn b hb => by
    have e := List.mem_singleton.mp hb
    exact ⟨by rw [e]; exact hn, (I'.ok.exf b hb).1, I'.ok.exfs b hb, .inl hb, fun z d q => (I'.ok.exf b hb).2 z d q, fun p hp => nomatch (show p ∈ ([] : List (Addr × Obj)) from hp)⟩
  have R := turn_list (P := X.prog) (w := X.w) (K := X.K) (tg := tg) a it
  have run : codeAny (model X.prog X.w) X.A (.compLoop (.ListComp elt [⟨tg, .Name y py, [], 0⟩] scope pos) 0 (.ref it) (.ref D) ce) (compPost (model X.prog X.w) X.A X.xe none (fun u s' => Kept X s s' ∧ EP X pins σ Q u s') (.ref D) s3.heap.objs.size) s4 := by
    refine compLoop_any (fun n s' => ∃ (j : Nat) (H' : Hp), Inv (X.blk s3 H3 scope ce [it]) [] (wipe σ (own.map (·.2))) H' s' ∧ s'.heap.IsListIter it a j ∧ H' it = none ∧ W j n H') ?_ m0 ⟨0, H3, I4, at4, noIt, w0⟩
    rintro n s5 ⟨j, H5, I5, at5, n5, w5⟩
    rcases turn j n H5 w5 with ⟨stop, goal⟩ | ⟨go, Nx, next, step⟩
    · refine thnF (R.done (X.blk s3 H3 scope ce [it]) rfl rfl rfl hc j [] s5 _ H5 (fun _ _ => False) I5 (mine I5 n5) at5 stop) fun r s6 ⟨hr, I6⟩ => ?_
      subst hr
      have I7 : Inv X pins σ H5 s6 := I3.call' (ch := [it]) I6.os I6.base I6.hok I6.bare fun b hb => ⟨(fp3 b hb).1.2.2.2.1, (fp3 b hb).1.2.1, (fp3 b hb).1.2.2.2.2.1, (fp3 b hb).1.2.2.2.2.2⟩
      have noC : H5 s3.heap.objs.size = none := by
        have z : H5 ce.locals = none := I6.free
        rwa [cL] at z
      have hnL : X.env.locals ∉ ([it] : List Addr) := fun z => fp2.2.1 (List.mem_singleton.mp z).symm
      have kept6 : Kept X s s6 := kept3.trans (Kept.at fun o e => I6.base.any e I3.free hnL)
      obtain ⟨m, hn, _⟩ := I6.loc
      have hn : s6.heap.Ns ce.locals m := hn
      rw [cL] at hn
      obtain ⟨f0, f1, f2, f3, f4, f5⟩ := I3.fpOk (Nat.le_refl _) noC
      refine ⟨m, hn, fun h'' sb => ⟨kept6.trans (Kept.but sb f1), .ref D, H5, I7.turned (t' := s6.toks) (fun b o hb e => (sb.2 b hb).trans e) f0 f1 f3 f4 f5, rfl, goal⟩⟩
    · refine thnF (R.item (X.blk s3 H3 scope ce [it]) rfl rfl rfl hc j [] s5 _ H5 (fun _ _ => False) I5 (mine I5 n5) at5 go) fun r s6 ⟨u, hr, h6⟩ => ?_
      subst hr
      refine thnF h6 fun _ s7 ⟨z, H7, I7, r7, y7, at7, n7⟩ => ?_
      have n7 : H7 it = none := n7 it (List.mem_singleton.mpr rfl)
      have I7' := I7.pinned (mine I7 n7) (R.obj _ _ at7)
      refine thnF (G.run _ s7 _ H7 z u _ I7' r7 (step z H7 y7)) fun _ s8 ⟨σ8, H8, I8, wiped, q8⟩ => ?_
      refine wpAny_tests_nil ?_
      rw [if_pos rfl]
      have q8 : te σ8 H8 (fun y H4 => ∃ acc, H4 D = some (.lst acc) ∧ acc.length < sizeLine ∧ Nx (upd H4 D (.lst (acc ++ [y])))) := q8
      refine thnF (T.run _ s8 σ8 H8 _ I8 q8) fun w s10 ⟨yv, H10, I10, r10, acc, hD10, room10, nx⟩ => ?_
      refine app_ok (X := X.blk s3 H3 scope ce [it]) I10 hD10 room10 r10 fun s11 I11 => ?_
      obtain ⟨m', less, w'⟩ := next _ nx
      obtain ⟨o7, e7, _⟩ := id at7
      have pin := I11.pin (it, o7) (List.mem_append_right _ (List.mem_append_right _ (mem_pinsAt (List.mem_singleton.mpr rfl) e7)))
      refine ⟨m', less, j + 1, _, (I11.unpinned (pins := [])).weak (by rw [← wiped, wipe_length]) (fun i' v e => ?_), at7.at fun o e => ?_, pin.2.1, w'⟩
      · rw [← wiped] at e
        exact (wipe_some e).1
      · rw [e7] at e
        cases e
        exact pin.1
  exact codeAny_compStart_list run (R.self X.A 0 _ _ _ at4 run)
end
end Tb

set_option Elab.async false
set_option linter.all false
set_option maxRecDepth 100000
set_option maxHeartbeats 4000000
/-! a def that gives a text of one sign whose token was given out -/
namespace Tb
open PySem PySem.Spec PyProof.Rows L2 TL
def OneTok (u : Value) (s : Shared) : Prop := ∃ (c : Nat) (t : Tok), u = .str ⟨#[c]⟩ t ∧ 1 ≤ t ∧ t < s.toks
structure FnS (P : Program) (w : World) (K : PySem.W.Frag) (mg : Str → Option Value) (base : Heap) (k : Nat) (f : Addr) (fd : FuncData) (ps : List Str) (sp : Sp) : Prop where
  len : ∀ vs H Q E, sp vs H Q E → vs.length = ps.length
  run : ∀ (A : Around) (outer : List PySem.Env) (s : Shared) (H : Hp) (args : Args) (us : List Value) (vs : List V) (Q : VK) (E : XK), 1 ≤ s.toks → Room k A → Env0 P w K mg base A outer s H → BindsTo s fd args (ps.zip us) → Vals vs us → sp vs H Q E →
    codeAny (model P w) A (.call (.ref f) args) (fun r s' => CR CX0 outer P w H s Q E r s' ∧ ∀ u, r = .ok (.ret u) → OneTok u s') s
def PSsV (X : Cx) (sts : List Stmt) (t : TS) : Prop := ∀ (pins : List (Addr × Obj)) (s : Shared) (σ : L2.St) (H : Hp) (D : Ends), 1 ≤ s.toks → Inv X pins σ H s → t D σ H →
  wpAny (model X.prog X.w) X.A (execs sts X.env) (fun f s' => SP X pins D f s' ∧ ∀ u, f = .ret u → OneTok u s') X.xe s
section
variable {P : Program} {w : World} {K : PySem.W.Frag} {mg : Str → Option Value} {base : Heap}
theorem fun_okS {x qual : Str} {st : Stmt} {f : Addr} {fd : FuncData} {N ps : List Str} {k : Nat} {sp : Sp} (F : Fun K x qual st f fd) (S : FnScope N ps (defScope st)) (len : ∀ vs H Q E, sp vs H Q E → vs.length = ps.length)
    (hbody : ∀ (cdv : Value) (A : Around) (outer : List PySem.Env) (s : Shared) (H : Hp) (vs : List V) (Q : VK) (E : XK), Room k (A.deeper (envOfC qual (defScope st) s.heap.objs.size f cdv)) → sp vs H Q E →
      ∃ t, PSsV (cxOf CX0 P w K mg base N qual (defScope st) f cdv A outer s H E) (defBody st) t ∧ t { nx := fun _ _ => False, rt := Q } (L2.start N vs) H) : FnS P w K mg base (k + 1) f fd ps sp := by
  obtain ⟨oc, od, kV, doc, pm, an, cdv, ct, osl, rfl, lk, hcd⟩ := F.ex
  refine ⟨len, fun A outer s H args us vs Q E h0 hr e0 hb r hsp => ?_⟩
  have hl := len _ _ _ _ hsp
  have KX : K.In s.heap := e0.mod.kin.keeps fun b o e => (e0.bs b o e).1
  have lim : s.heap.NoLimit := e0.mod.nolimit.keeps fun b o e => (e0.bs b o e).1
  have kinds : ∀ y ∈ ps.zip us, (defScope st).names.lookup y.1 = some .local ∨ ((defScope st).names.lookup y.1 = some .cell ∧ ((cellsFrom (s.heap.objs.size + 1) (defScope st).names []).lookup y.1).isSome = true) := fun ⟨n, v⟩ hy => by
    rcases S.par n (List.of_mem_zip hy).1 with q | q
    · exact .inl q
    · exact .inr ⟨q, PySem.W.cellsFrom_some _ _ _ (.inl q)⟩
  refine codeAny_call_function hr.depth (KX _ _ lk) rfl S.co S.gen rfl (PySem.W.codeRec_of KX hcd) (hb _ _ _ _ ?_)
  refine PySem.wpAny_with_toks h0 (wpAny_newFunctionEnv_cells S.kind kinds fun env he s1 x h1 => ?_)
  subst he
  refine ⟨lim.keeps x.toInCall.keep, codeAny_func ?_⟩
  obtain ⟨t, body, goal⟩ := hbody cdv A outer s H vs Q E (hr.deeper _) hsp
  refine wpAny_mono (body [] s1 (L2.start N vs) H _ h1 (inv_start S hr.hd e0 hl r x) goal) ?_ fun e s' hs => wpAny_mono hs (fun _ _ z => ⟨z, fun _ y => nomatch y⟩) fun _ _ z => ⟨z, fun _ y => nomatch y⟩
  rintro fl s' ⟨hs, tok⟩
  match fl, hs, tok with
  | .ret u, ⟨v, σ', H', J, rv, q⟩, tok => exact ⟨⟨v, H', J.os, J.bare, J.base, J.hok, rv, q⟩, fun u' z => by cases z; exact tok _ rfl⟩
  | .next, ⟨_, _, _, z⟩, _ => exact z.elim
  | .brk, ⟨_, _, _, z⟩, _ => exact False.elim z
  | .cont, ⟨_, _, _, z⟩, _ => exact False.elim z
end
section
variable {X : Cx} {a b : Expr} {ta tb : TE} {pos pos2 : Pos}
theorem psv_ix (ha : PE X a ta) (hb : PE X b tb) (hs : PlainIx b) : PSsV X [.Return (some (.Subscript a b pos)) pos2] (tRet (tOp rIxS ta tb)) := by
  intro pins s σ H D h0 I h
  refine wpAny_execs_cons (wpAny_Return_some (Subscript_ (thnT h0 (ha.run pins s σ H _ I h) ?_)))
  rintro v s1 h1 ⟨y, H1, I1, r1, q1⟩
  refine thnT h1 (hb.run pins s1 σ H1 _ I1 q1) ?_
  rintro u s2 h2 ⟨y2, H2, I2, r2, z, i, c, rfl, rfl, hz, he, q⟩
  obtain ⟨t, rfl⟩ := r1
  obtain ⟨t', rfl⟩ := r2
  obtain ⟨j, e1, e2, _, e4, e5⟩ := atI_get he
  have hl : z.cps.toList.length = z.length := by simp [Str.length]
  rw [hl] at e1 e4 e5
  have big := line63
  refine tail_any (typeIs_str s2 z t) slot_str_getitem.lookup (getItem_str (c := c) ?_ (by rw [e1]; simpa using e2) ?_) (hs _ _)
  · rw [decide_eq_false (show ¬ i < -(2 ^ 63 : Int) by omega), decide_eq_false (show ¬ i ≥ 2 ^ 63 by omega), Bool.or_false]
  · exact ⟨⟨.str ⟨#[c]⟩, σ, H2, I2.tok _, ⟨_, rfl⟩, q⟩, fun u z => by cases z; exact ⟨c, s2.toks, rfl, h2, Nat.lt_succ_self _⟩⟩
end
section
variable {P : Program} {w : World} {K : PySem.W.Frag} {mg : Str → Option Value} {base : Heap}
/-- one sign of a text -/
def spPickS : Sp := fun vs H Q _ => ∃ (p : Addr) (n : Nat), Src H p n ∧ n < 1000000 ∧ ∃ z : Str, vs = [.ref p, .str z] ∧ 0 < z.length ∧ z.length ≤ sizeLine ∧ z.length < 1073741824 ∧ ∀ c H', c ∈ z.cps.toList → But p H H' → Src H' p (n + 1) → Q (.str ⟨#[c]⟩) H'
theorem pick_tok {f : Addr} {fd : FuncData} {k : Nat} (F : Fun K "_law_pick" "_law_pick" sPick f fd) (DD : Df P w K mg base (k + 1) "_law_draw" ["_law_source_here", "_law_many"] spDrawS) (ml : mg "len" = none) : FnS P w K mg base (k + 2) f fd ["_law_source_here", "_law_things"] spPickS := by
  refine fun_okS F scPick (fun vs H Q E h => ?_) (fun cdv A outer s H vs Q E hr h => ?_)
  · obtain ⟨_, _, _, _, _, rfl, _⟩ := h
    rfl
  · obtain ⟨p, n, hp, hn, z, rfl, l0, lz, l1, q⟩ := h
    refine ⟨_, psv_ix (pv 1) (pe_df DD hr (pa_cons (pv 0) (pa_cons (pe_callB call_len_str (by rfl) ml PySem.boot_len (pa_cons (pv 1) pa_nil)) pa_nil))) (fun _ _ => rfl), ?_⟩
    refine ⟨_, rfl, _, rfl, _, rfl, z, rfl, lz, p, _, n, rfl, hp, hn, by omega, by omega, fun d H' d1 b' s' => ?_⟩
    have hd : d < z.cps.toList.length := by
      rw [Array.length_toList]
      have e : z.length = z.cps.size := rfl
      omega
    exact ⟨z, d, z.cps.toList[d], rfl, rfl, lz, atI_nat (List.getElem?_eq_getElem hd), q _ _ (List.getElem_mem hd) b' s'⟩
end
section
variable {X : Cx} {x : Str} {k j i : Nat} {f : Addr} {fd : FuncData} {ps : List Str} {sp : Sp} {nm : Str} {e : Expr} {es : List Expr} {t : TA} {p pos pos' pos2 : Pos} {rest : List Stmt} {u : Nat → TS}
/-- x = pick(..): behind it the sign's token is known -/
theorem psst_sign (F : FnS X.prog X.w X.K X.mg X.base k f fd ps sp) (B : Binds X.K fd ps []) (kp : PySem.W.keepIn X.K (.ref f) = true) (m : X.mg nm = some (.ref f)) (hr : Room j X.A) (hN : X.N.Nodup) (hi : X.N[i]? = some x) (hk : X.env.scope.names.lookup x = some .local) (ha : PA X (e :: es) t)
    (hrest : ∀ c, PSsK X x c rest (u c)) (hg : Gl X nm := by rfl) (le : k ≤ j := by omega) (d1 : (nm == ("__debug__" : Str)) = false := by decide) (st : starEach (e :: es) X.env = (false, eval e X.env) :: starEach es X.env := by rfl) (pl : (backTo pos (starEach es X.env)).any (·.1) = false := by rfl)
    (hs : swapsWith (.Call (.Name nm p) (e :: es) [] pos) (some (.Name x pos')) pos2.line X.env = pure false := by rfl) :
    PSsT X (.Assign [.Name x pos'] (.Call (.Name nm p) (e :: es) [] pos) pos2 :: rest) (fun D σ H => tCall sp [] E0 t σ H fun v H' => ∃ c, v = .str ⟨#[c]⟩ ∧ u c D (σ.set i (some (.str ⟨#[c]⟩))) H') := by
  intro pins s σ H D h0 I q
  refine wpAny_execs_cons (wpAny_Assign_Name (wpAny_Call_Name_kw (PySem.wpAny_with_toks h0 (ld_glob I hg m ?_ d1))) hs)
  intro h1
  refine PySem.W.callWith_K (h₀ := X.base) I.ok.mod.kin kp (thnT h1 (ha.run pos pins s σ H _ I q) ?_) st pl
  rintro us s1 h2 ⟨vs, H1, I1, r, q1⟩
  have q1 : sp vs H1 (fun v H' => ∃ c, v = .str ⟨#[c]⟩ ∧ u c D (σ.set i (some (.str ⟨#[c]⟩))) H') E0 := by rw [List.append_nil] at q1; exact q1
  have bnd : BindsTo s1 fd ⟨us, []⟩ (ps.zip us) := by
    have z := B s1 us I1.kIn (by rw [List.append_nil, ← r.length]; exact F.len _ _ _ _ q1)
    rwa [List.append_nil] at z
  refine ⟨I1.kIn, wpAny_call (codeAny_mono (F.run X.A X.stack s1 H1 ⟨us, []⟩ us vs _ E0 h2 (hr.mono le) I1.env0 bnd r q1) ?_)⟩
  rintro res s' ⟨z, tok⟩
  match res, z, tok with
  | .error e, z, _ => exact z.elim
  | .ok (.ret w), z, tok =>
    obtain ⟨c', tk, rfl, t1, t2⟩ := tok _ rfl
    obtain ⟨v, H2, I2, r2, c, rfl, q2⟩ := I1.after z
    obtain ⟨tk', e⟩ := r2
    cases e
    refine store_okX I2 hN hi hk (v := V.str ⟨#[c']⟩) ⟨tk, rfl⟩ fun s3 m3 I3 n3 e3 t3 _ => ?_
    exact thn (hrest c' pins s3 _ H2 D ⟨tk, m3, t1, by rw [t3]; exact Nat.lt_succ_of_lt t2, n3, e3⟩ I3 q2) fun _ _ z => z.2
  | .ok .next, z, _ => exact z.elim
  | .ok .brk, z, _ => exact z.elim
  | .ok .cont, z, _ => exact z.elim
end
end Tb

set_option Elab.async false
set_option linter.all false
set_option maxRecDepth 100000
set_option maxHeartbeats 2000000
/-! a known program against the law's own -/
namespace Tb
open PySem PySem.Spec PyProof.Rows L2 TL
theorem PrAt.ext {C : Addr} {H H' : Hp} (x : Ext H H') {p : Addr} {L B : List Nat} {places : List (List Nat)} {ms : List Mv} {es : Fil} (h : PrAt C H p L B places ms es) : PrAt C H' p L B places ms es := h.extN fun b o e _ => x b o e
theorem mon_progs (C : Addr) : Mon (DIns C (PrEq C)) := mon_ins fun a b H H' x ⟨L, B, places, ms, ms', es, es', p, q, r⟩ => ⟨L, B, places, ms, ms', es, es', p.ext x, q.ext x, r⟩
theorem keptF_nd {fl : Fil} (nd : (fl.map (·.1)).Nodup) (h : Ones fl) : ((keptF fl).map (·.1)).Nodup := by
  rw [heads_keys h] at nd
  have h1 : (fl.map fun q => q.1.headD 0).Nodup := List.Pairwise.of_map _ (fun a b hab z => hab (congrArg (fun c => [c]) z)) nd
  have h2 : (sortN (fl.map fun q => q.1.headD 0)).Nodup := (sortN_perm _).nodup_iff.mpr h1
  unfold keptF
  refine List.Nodup.sublist ((List.filter_sublist).map _) ?_
  rw [List.map_map]
  exact List.Pairwise.map _ (fun a b hab z => hab (List.cons.inj z).1) h2
theorem known_eq {C : Addr} {H : Hp} {a b : Addr} {pt : Pt} (good : PartsQ pt) (h1 : PrAt C H a (sortN pt.letters) (sortN pt.boxes) pt.places (pt.moves.map keptM) pt.ends) (h2 : LikeP C H b pt) : DIns C (PrEq C) (.ref a) (.ref b) H := by
  obtain ⟨ms, es, h2, pm, pe⟩ := h2
  obtain ⟨dx, pl, mv, en, kk, o1, r1⟩ := id h1.ob
  obtain ⟨dx', pl', mv', en', kk', o2, r2⟩ := id h2.ob
  refine ⟨a, b, dx, dx', _, _, rfl, rfl, o1, o2, _, _, _, _, _, _, _, h1, h2, (pm.map keptM).symm, ?_, fun m hm => ?_, pe.symm, good.ek⟩
  · have e : (pt.moves.map keptM).map Mv.key = pt.moves.map Mv.key := by
      rw [List.map_map]
      exact List.map_congr_left fun m _ => keptM_key m
    rw [e]
    exact keys_of_ky good.ky
  · obtain ⟨m0, hm0, rfl⟩ := List.mem_map.mp hm
    exact keptF_nd (good.mv m0 hm0).2.2.2.nd (good.mv m0 hm0).2.2.2.ones
theorem eqK_of {X : Cx} {C : Addr} {k : Nat} {R : Addr → Addr → Hp → Prop} (D : EqM X.prog X.w X.K X.mg X.base C k R) : EqK X k (DIns C R) :=
  let ⟨_, _, hs, hf, F, b⟩ := D.ex
  eqK_ins F hs hf b
end Tb

set_option Elab.async false
set_option linter.all false
set_option maxRecDepth 100000
set_option maxHeartbeats 4000000
/-! text[::k] -/
namespace Tb
open PySem PySem.Spec PyProof.Rows L2 TL
section
variable {X : Cx}
def tStepS (k : Int) (te : TE) : TE := fun σ H Q => te σ H fun x H1 => ∃ z, x = .str z ∧ z.length ≤ sizeLine ∧ Q (.str (Txt.sliceBy z none none (k, 0))) H1
theorem pe_stepS {e st : Expr} {te : TE} {ts : TO} {k : Int} {p3 pos : Pos} (hk : (k == 0) = false) (he : PE X e te) (hst : PO X (some st) ts) (hts : ∀ σ H Q, Q (some k) H → ts σ H Q) : PE X (.Subscript e (.Slice none none (some st) p3) pos) (tStepS k te) := by
  refine ⟨fun pins s σ H Q I h => ?_⟩
  refine Subscript_ (thn (he.run pins s σ H _ I h) fun v s1 ⟨x, H1, I1, r1, q1⟩ => ?_)
  obtain ⟨z, ex, hz, q⟩ := q1
  subst ex
  obtain ⟨t, rfl⟩ := r1
  refine wpAny_Slice (thn (po_none.run pins s1 σ H1 (fun o H2 => o = none ∧ H2 = H1) I1 ⟨rfl, rfl⟩) fun vl s2 ⟨l, H2, I2, pl, el, e2⟩ => ?_)
  subst el e2
  refine thn (po_none.run pins s2 σ H2 (fun o H3 => o = none ∧ H3 = H2) I2 ⟨rfl, rfl⟩) fun vu s3 ⟨u, H3, I3, pu, eu, e3⟩ => ?_
  subst eu e3
  refine thn (hst.run pins s3 σ H3 (fun o H4 => o = some k ∧ H4 = H3) I3 (hts _ _ _ ⟨rfl, rfl⟩)) fun vs s4 ⟨o, H4, I4, ps, eo, e4⟩ => ?_
  subst eo e4
  obtain ⟨l, rfl, hl⟩ := IsPart.raw pl
  obtain ⟨u, rfl, hu⟩ := IsPart.raw pu
  obtain ⟨c, rfl, hc⟩ := IsPart.raw ps
  cases l with
  | some _ => exact nomatch hl
  | none =>
  cases u with
  | some _ => exact nomatch hu
  | none =>
  cases c with
  | none => exact nomatch hc
  | some c =>
  obtain ⟨k', uk⟩ := c
  obtain rfl : k' = k := Option.some.inj hc
  have I5 : Inv X pins σ H4 { s4 with heap := s4.heap.push { cls := .type "slice", data := .fields #[.none, .none, .int k' uk] } } := I4.kept (t' := s4.toks) fun b ob q => Heap.get?_push_of_some _ q
  show wpAny (model X.prog X.w) X.A (subscriptTail e (.Slice none none (some st) p3) (.str z t) (.ref s4.heap.objs.size)) (EP X pins σ Q) X.xe { s4 with heap := s4.heap.push { cls := .type "slice", data := .fields #[.none, .none, .int k' uk] } }
  refine tail_any (ops := [.ref s4.heap.objs.size, .str z t]) (typeIs_str _ _ _) F.slot_str_getitem.lookup ?_ (by with_unfolding_all rfl)
  refine wpAny_getItem_str_slice (l := none) (u := none) (st := some (k', uk)) ⟨_, Heap.get?_push_size _ rfl, rfl, rfl⟩ hk (post_val_or_str ⟨Nat.le_trans (Txt.sliceBy_le z _ _ (k', uk) (by simpa using hk)) hz, fun t' c => ?_⟩)
  exact ⟨.str (Txt.sliceBy z none none (k', uk)), H4, I5.tok _, ⟨_, rfl⟩, q⟩
end
theorem step_rev (a : List Nat) : Txt.sliceBy (S a) none none (-1, 0) = S a.reverse := by
  have h := step_rev_list (S a) 0
  have e : (Txt.sliceBy (S a) none none (-1, 0)).cps.toList = a.reverse := by
    rw [h, len_S]
    apply List.ext_getElem
    · simp
    · intro i h1 h2
      simp at h1 h2
      simp [S, Array.getD, show a.length - 1 - i < a.length by omega]
  have e2 : (Txt.sliceBy (S a) none none (-1, 0)).cps = a.reverse.toArray := Array.toArray_toList.symm.trans (congrArg List.toArray e)
  show (⟨(Txt.sliceBy (S a) none none (-1, 0)).cps⟩ : Str) = S a.reverse
  rw [e2]
  rfl
end Tb

set_option Elab.async false
set_option linter.all false
set_option maxRecDepth 100000
set_option maxHeartbeats 4000000
/-! text[::2] -/
namespace Tb
open PySem PySem.Spec PySem.Builtin PySem.Builtin.Str PyProof.Rows L2 TL
theorem picked_two (n : Nat) : strSliceIndices none none 2 n = (List.range ((n + 1) / 2)).map fun k => 2 * k := by
  unfold strSliceIndices sliceRange
  have h2 : (2 : Int) > 0 := by decide
  simp only [h2, if_true]
  have hc : (if (0 : Int) < (n : Int) then ((n : Int) - 0 + 2 - 1) / 2 else 0).toNat = (n + 1) / 2 := by
    split <;> omega
  rw [hc]
  refine List.map_congr_left fun k hk => ?_
  omega
theorem half_get : ∀ (a : List Nat) (k : Nat), (half a)[k]? = a[2 * k]?
  | [], k => by simp [half]
  | [x], 0 => rfl
  | [x], k + 1 => by
    rw [show 2 * (k + 1) = 2 * k + 1 + 1 by omega]
    simp [half]
  | x :: y :: r, 0 => rfl
  | x :: y :: r, k + 1 => by
    rw [show 2 * (k + 1) = 2 * k + 1 + 1 by omega, show half (x :: y :: r) = x :: half r from rfl, List.getElem?_cons_succ, List.getElem?_cons_succ, List.getElem?_cons_succ]
    exact half_get r k
theorem step_two (a : List Nat) : Txt.sliceBy (S a) none none (2, 0) = S (half a) := by
  unfold Txt.sliceBy slicePicked
  have h1 : ¬ (((((some ((2 : Int), (0 : Tok))).map (·.1)).getD 1 == 1) && ((strSliceIndices ((none : Option (Int × Tok)).map (·.1)) ((none : Option (Int × Tok)).map (·.1)) (((some ((2 : Int), (0 : Tok))).map (·.1)).getD 1) (S a).length).length == (S a).length)) = true) := by
    have : ((((some ((2 : Int), (0 : Tok))).map (·.1)).getD 1 == 1)) = false := rfl
    rw [this]; simp
  rw [if_neg h1]
  have e : (strSliceIndices none none 2 (S a).length).filterMap ((S a).cps[·]?) = half a := by
    rw [len_S, picked_two, filterMap_get, List.map_map]
    · refine List.ext_getElem? fun i => ?_
      rw [half_get, List.getElem?_map]
      by_cases hi : i < (a.length + 1) / 2
      · have h3 : 2 * i < a.length := by omega
        rw [List.getElem?_range hi]
        simp [S, Array.getD, h3]
      · have h3 : a.length ≤ 2 * i := by omega
        rw [List.getElem?_eq_none (by rw [List.length_range]; omega), List.getElem?_eq_none h3]
        rfl
    · intro i hi
      obtain ⟨k, hk, rfl⟩ := List.mem_map.mp hi
      have hk' := List.mem_range.mp hk
      show 2 * k < (S a).cps.size
      rw [show (S a).cps.size = a.length from len_S a]
      omega
  show (⟨((strSliceIndices none none 2 (S a).length).filterMap ((S a).cps[·]?)).toArray⟩ : Str) = S (half a)
  rw [e]
  rfl
end Tb

set_option Elab.async false
set_option linter.all false
set_option maxRecDepth 100000
set_option maxHeartbeats 4000000
/-! text.find(sign) -/
namespace Tb
open PySem PySem.Spec PySem.Builtin PySem.Builtin.Str PyProof.Rows L2 TL
theorem at_one {a : List Nat} {s i : Nat} : StrLaws.At (S a) (S [s]) (S a).length i ↔ a[i]? = some s := StrLaws.subAt_one (S a) s i
theorem find_out {a : List Nat} {s : Nat} (h : s ∉ a) : Txt.find (S a) (S [s]) = -1 := by
  rcases find_whole (S a) (S [s]) with ⟨e, _⟩ | ⟨i, _, hi, _⟩
  · exact e
  · exact (h (List.mem_of_getElem? (at_one.mp hi))).elim
theorem find_in {u v : List Nat} {s : Nat} (h : s ∉ u) : Txt.find (S (u ++ s :: v)) (S [s]) = (u.length : Int) := by
  have h0 : (u ++ s :: v)[u.length]? = some s := by simp
  rcases find_whole (S (u ++ s :: v)) (S [s]) with ⟨_, e⟩ | ⟨i, e, hi, hn⟩
  · exact (e u.length (at_one.mpr h0)).elim
  · have hi := at_one.mp hi
    have h1 : ¬ u.length < i := fun z => hn _ z (at_one.mpr h0)
    have h2 : ¬ i < u.length := fun z => by
      rw [List.getElem?_append_left z] at hi
      exact h (List.mem_of_getElem? hi)
    rw [e, show i = u.length by omega]
end Tb

set_option Elab.async false
set_option linter.all false
set_option maxRecDepth 100000
set_option maxHeartbeats 2000000
/-! what the law's own text operations give, by lists of signs -/
namespace Tb
open PySem PySem.Spec PySem.Builtin PySem.Builtin.Str PyProof.Rows L2 TL
theorem cut_rev (a : List Nat) : cutBy (S a) none none (some (-1)) = S a.reverse := (show cutBy (S a) none none (some (-1)) = Txt.sliceBy (S a) none none (-1, 0) from rfl).trans (step_rev a)
theorem cut_two (a : List Nat) : cutBy (S a) none none (some 2) = S (half a) := (show cutBy (S a) none none (some 2) = Txt.sliceBy (S a) none none (2, 0) from rfl).trans (step_two a)
theorem toList_S (a : List Nat) : (S a).cps.toList = a := by simp [S]
theorem cut_from (a : List Nat) (i : Nat) (h : i ≤ a.length) : cutBy (S a) (some (i : Int)) none none = S (a.drop i) := by
  have e : cutBy (S a) (some (i : Int)) none none = Txt.slice (S a) (some (i : Int)) none := rfl
  have z := slice_closes_from (x := S a) (i := i) (by rw [toList_S]; omega)
  rw [e, eq_of_beq z, toList_S, show ((i : Int)).toNat = i by simp, List.take_of_length_le (by rw [List.length_drop]; omega)]
  rfl
theorem cut_to (a : List Nat) (i : Nat) (h : i ≤ a.length) : cutBy (S a) none (some (i : Int)) none = S (a.take i) := by
  have e : cutBy (S a) none (some (i : Int)) none = Txt.slice (S a) none (some (i : Int)) := rfl
  have z := slice_closes_to (x := S a) (j := i) (by rw [toList_S]; omega)
  rw [e, eq_of_beq z, toList_S, show ((i : Int) - 0).toNat = i by simp]
  rfl
theorem cut_last (a : List Nat) : cutBy (S a) (some (-1)) none none = S (a.drop (a.length - 1)) := by
  have e : cutBy (S a) (some (-1)) none none = Txt.slice (S a) (some (-1)) none := rfl
  cases a with
  | nil => rfl
  | cons x r =>
    have z := slice_closes_from_neg (x := S (x :: r)) (i := -1) (by omega) (by rw [len_S, List.length_cons]; omega) rfl rfl
    rw [e, eq_of_beq z, toList_S, len_S]
    simp only [List.length_cons]
    rw [show ((-1 : Int) + ((r.length + 1 : Nat) : Int)).toNat = r.length by omega, List.take_of_length_le (by rw [List.length_drop, List.length_cons]; omega), Nat.add_sub_cancel]
    rfl
theorem last_is {a : List Nat} {s : Nat} : (S (a.drop (a.length - 1)) == (⟨#[s]⟩ : Str)) = decide (a.getLast? = some s) := by
  have e : (⟨#[s]⟩ : Str) = S [s] := rfl
  rw [e]
  have key : a.drop (a.length - 1) = [s] ↔ a.getLast? = some s := by
    rcases List.eq_nil_or_concat a with rfl | ⟨b, c, rfl⟩
    · simp
    · simp
  by_cases h : a.getLast? = some s
  · rw [key.mpr h, decide_eq_true h]
    simp
  · rw [decide_eq_false h, beq_eq_false_iff_ne]
    intro z
    refine h (key.mp ?_)
    rw [← toList_S (a.drop _), z, toList_S]
theorem mul_sign (s n : Nat) : Txt.mul ⟨#[s]⟩ (n : Int) = S (List.replicate n s) := by
  have z := mul_one_list s n
  show (⟨(Txt.mul ⟨#[s]⟩ (n : Int)).cps⟩ : Str) = S _
  rw [← Array.toArray_toList (xs := (Txt.mul ⟨#[s]⟩ (n : Int)).cps), z]
  rfl
theorem rep_cps (l : List Nat) : ∀ (k : Nat) (acc : Array Nat), ((List.replicate k l.toArray).foldl (· ++ ·) acc).toList = acc.toList ++ (List.replicate k l).flatten
  | 0, acc => by simp
  | k + 1, acc => by
    rw [List.replicate_succ, List.foldl_cons, rep_cps l k]
    simp [List.replicate_succ]
theorem mul_99 (a : List Nat) : Txt.mul (S a) 99 = S (List.replicate 99 a).flatten := by
  unfold Txt.mul
  rw [if_neg (by decide)]
  split
  · rename_i h
    have : a = [] := by
      rw [len_S] at h
      cases a with
      | nil => rfl
      | cons x r => simp at h
    subst this
    rfl
  · have z := rep_cps a 99 #[]
    show (⟨(List.replicate 99 a.toArray).foldl (· ++ ·) #[]⟩ : Str) = S _
    rw [← Array.toArray_toList (xs := (List.replicate 99 a.toArray).foldl (· ++ ·) #[]), z]
    rfl
theorem mulOk_of {x : Str} {n : Nat} (hn : n ≤ 100000) (h : x.length * n ≤ 100000) : MulOk x (n : Int) := by
  refine ⟨?_, fun h1 _ z => ?_, fun _ _ => ?_⟩
  · rw [decide_eq_false (show ¬ (n : Int) < -(2 ^ 63 : Int) by omega), decide_eq_false (show ¬ (n : Int) ≥ 2 ^ 63 by omega)]
    rfl
  · have h2 : (x.length : Int) ≤ (2 ^ 63 - 1) / (n : Int) := by
      refine (Int.le_ediv_iff_mul_le (by omega)).mpr ?_
      have : ((x.length * n : Nat) : Int) ≤ 100000 := Int.ofNat_le.mpr h
      rw [Int.natCast_mul] at this
      omega
    omega
  · unfold tooLong
    refine decide_eq_false ?_
    rw [Int.toNat_natCast]
    have : (100000 : Nat) < sizeLine := Nat.lt_of_lt_of_le (show 100000 < 1000000 by omega) (show 1000000 ≤ sizeLine by decide)
    omega
end Tb

set_option Elab.async false
set_option linter.all false
set_option maxRecDepth 100000
set_option maxHeartbeats 2000000
namespace Tb
open PySem PySem.Spec PyProof.Rows L2 TL LamX
/-- all but lists and tables stay -/
def Kpt (H H' : Hp) : Prop := ∀ b o, H b = some o → (∀ xs, o ≠ .lst xs) → (∀ ps, o ≠ .tbl ps) → H' b = some o
theorem Kpt.trans {H H1 H2 : Hp} (a : Kpt H H1) (b : Kpt H1 H2) : Kpt H H2 := fun c o h l t => b c o (a c o h l t) l t
theorem Kpt.same {H H' : Hp} (s : Same H H') : Kpt H H' := fun b o h _ _ => s b o h
theorem Kpt.extN {H H' : Hp} (x : ExtN H H') : Kpt H H' := fun b o h _ t => x b o h t
theorem Kpt.but {H H' : Hp} {p : Addr} {n : Nat} (s : Src H p n) (x : But p H H') : Kpt H H' := fun b o h l _ => x b o h fun z => by
  obtain ⟨u, e, _, _, _, eu, _⟩ := s
  rw [z, e] at h
  exact l _ ((Option.some.inj h).symm.trans eu)
theorem Kpt.upd {H : Hp} {l : Addr} {xs ys : List V} (e : H l = some (.lst xs)) : Kpt H (upd H l (.lst ys)) := fun b o h n _ => by
  rw [upd_ne fun z => ?_]
  · exact h
  · rw [z, e] at h
    exact n _ (Option.some.inj h).symm
abbrev KnP (C : Addr) (H : Hp) (p : Addr) (pt : Pt) : Prop := PrAt C H p (sortN pt.letters) (sortN pt.boxes) pt.places (pt.moves.map keptM) pt.ends
theorem PrAt.kpt {C : Addr} {H H' : Hp} (x : Kpt H H') {p : Addr} {L B : List Nat} {places : List (List Nat)} {ms : List Mv} {es : Fil} (h : PrAt C H p L B places ms es) : PrAt C H' p L B places ms es := by
  obtain ⟨dx, pl, mv, en, kk, h1, h2, h3, h4, h5⟩ := h.ob
  exact ⟨dx, pl, mv, en, kk, x _ _ h1 (by intro _ z; cases z) (by intro _ z; cases z), x _ _ h2 (by intro _ z; cases z) (by intro _ z; cases z), x _ _ h3 (by intro _ z; cases z) (by intro _ z; cases z),
    Paired.mono (fun kv m ⟨e, t, d, a, b, c⟩ => ⟨e, t, d, a, x _ _ b (by intro _ z; cases z) (by intro _ z; cases z), x _ _ c (by intro _ z; cases z) (by intro _ z; cases z)⟩) h4, x _ _ h5 (by intro _ z; cases z) (by intro _ z; cases z)⟩
theorem Src.extN {H H' : Hp} {p : Addr} {n : Nat} (h : Src H p n) (x : ExtN H H') : Src H' p n := by
  obtain ⟨o, e, g, s, c, eo, r⟩ := h
  subst eo
  exact ⟨_, x _ _ e (by intro _ z; cases z), g, s, c, rfl, r⟩
/-- what is told of a known program, in the def's words -/
theorem told_ans {C p : Addr} {H : Hp} {pt : Pt} {pl0 t : List Nat} {places : List (List Nat)} {r : Option (List Nat)} (h : KnP C H p pt) (hpl : pt.places = pl0 :: places) (pg : PgOk (sortN pt.boxes) (pt.moves.map keptM) pt.ends) (tl : toldE (pt.moves.map keptM) (sortN pt.boxes) pt.ends pl0 t = r)
    (ht : ∀ c ∈ t, c ∈ pt.letters) (len : t.length ≤ 1188) {Q : VK} {E : XK} (q : ∀ H', Same H H' → Q (optV r) H') : spToldG C [.ref p, .str (S t)] H Q E := by
  rw [KnP, hpl] at h
  refine ⟨p, t, _, _, pl0, places, _, _, rfl, h, pg, fun c hc => (sortN_perm _).mem_iff.mpr (ht c hc), ?_, by omega, fun H' s => ?_⟩
  · have b := pg.lB
    have : t.length * (7 * (sortN pt.boxes).length) ≤ 1188 * 42 := Nat.mul_le_mul len (by omega)
    omega
  · rw [tl]
    exact q H' s
/-- a comprehension over a list, the values given one by one -/
theorem lc_told {K : PySem.W.Frag} {te : TE} {vs : List Nat} {σ : L2.St} {H1 : Hp} {D a : Addr} {Qd : Hp → Prop} {sl : Nat} {xs ys : List V} (hS : SqL K H1 a xs) (len : xs.length = ys.length) (nD : H1 D = none) (hl : xs.length < sizeLine)
    (he : ∀ (i : Nat) x y, xs[i]? = some x → ys[i]? = some y → ∀ H' (R : VK), Same H1 H' → (∀ H'', Same H' H'' → R y H'') → te ((wipe σ vs).set sl (some x)) H' R)
    (hd : ∀ H', Same H1 H' → H' D = some (.lst ys) → Qd H') (hw : ∀ x, wipe ((wipe σ vs).set sl (some x)) vs = wipe σ vs := by intro _; rfl) :
    ∃ W : Nat → Nat → Hp → Prop, (∃ m, W 0 m (upd H1 D (.lst []))) ∧ ∀ i m H, W i m H →
      ((Itl K a).stop i H ∧ Qd H) ∨ ((Itl K a).go i H ∧ ∃ Nx : Hp → Prop, (∀ H', Nx H' → ∃ m', m' < m ∧ W (i + 1) m' H') ∧ ∀ x H', (Itl K a).yld i H x H' → gName sl x (wipe σ vs) H' fun σ2 H2 => wipe σ2 vs = wipe σ vs ∧ tYes σ2 H2 fun b H3 =>
        if b = true then te σ2 H3 fun y H4 => ∃ acc, H4 D = some (.lst acc) ∧ acc.length < sizeLine ∧ Nx (upd H4 D (.lst (acc ++ [y]))) else Nx H3) := by
  refine lc_it (walk_list (xs := xs)) (fun i H => Same H1 H ∧ H D = some (.lst (ys.take i))) ⟨same_upd nD, upd_same⟩ (fun i H _ h => SqL.ext hS fun b o e => h.1 b o e) ?_ ?_
  · rintro i x H H' hi ⟨s, e⟩ ⟨rfl, hx⟩
    have hi' : i < ys.length := by rw [← len]; exact (List.getElem?_eq_some_iff.mp hx).1
    have hy := List.getElem?_eq_getElem hi'
    refine ⟨hw _, tYes_if (he i x _ hx hy _ _ s fun H2 s2 => ⟨_, s2 _ _ e, ?_, fun b o eb => ?_, ?_⟩)⟩
    · rw [List.length_take]
      omega
    · rw [upd_ne (ne_of_none eb nD)]
      exact s2 _ _ (s _ _ eb)
    · rw [upd_same, List.take_add_one, hy]
      rfl
  · rintro H ⟨s, e⟩
    rw [len, List.take_length] at e
    exact hd H s e
/-! the letters and what is due -/
theorem st_six : Str.ofString "abcxyz" = S [97, 98, 99, 120, 121, 122] := by decide +kernel
theorem letters_ok {all : List Nat} {m : Nat} (h : all.Perm [97, 98, 99, 120, 121, 122]) (h1 : 1 ≤ m) (h5 : m ≤ 5) : okLetters (all.take m) = true := by
  have len : all.length = 6 := h.length_eq
  have nd : all.Nodup := h.nodup_iff.mpr (by decide)
  unfold okLetters
  rw [Bool.and_eq_true, Bool.and_eq_true, Bool.and_eq_true]
  refine ⟨List.all_eq_true.mpr fun x hx => ?_, decide_eq_true ?_, decide_eq_true ?_, decide_eq_true (nd.sublist (List.take_sublist _ _))⟩
  · have := h.mem_iff.mp (List.mem_of_mem_take hx)
    have all6 : ∀ y ∈ [97, 98, 99, 120, 121, 122], isLow y = true := by decide
    exact all6 x this
  · rw [List.length_take]; omega
  · rw [List.length_take]; omega
theorem filter_is (t : List Nat) (s : Nat) : (t.filter fun c => decide (c = s)) = List.replicate (t.count s) s := by
  rw [List.eq_replicate_iff]
  refine ⟨?_, fun b hb => of_decide_eq_true (List.mem_filter.mp hb).2⟩
  rw [List.count_eq_countP, List.countP_eq_length_filter]
  rfl
theorem filter_not (t : List Nat) (s : Nat) : (t.filter fun c => !decide (c = s)) = t.filter fun x => decide (x ≠ s) := List.filter_congr fun x _ => by simp
theorem split_at {t : List Nat} {s : Nat} (h : s ∈ t) : ∃ u v, t = u ++ s :: v ∧ s ∉ u := List.eq_append_cons_of_mem h
end Tb

set_option Elab.async false
set_option linter.all false
set_option maxRecDepth 100000
set_option maxHeartbeats 2000000
/-! the values of the loop's expressions; slots: 3 the sign, 5 the turn, 6 the text, 7 where the sign stands -/
namespace Tb
open PySem PySem.Spec PyProof.Rows L2 TL LamX
theorem small {n : Nat} (h : n ≤ 100000) : n ≤ sizeLine := Nat.le_trans h (by decide)
abbrev tSlc (te : TE) (tl th ts : TP') : TE := fun σ H Q => te σ H fun v H1 => tl σ H1 fun l H2 => th σ H2 fun u H3 => ts σ H3 fun k H4 => ∃ z, v = .str z ∧ (k.getD 1 == 0) = false ∧ (cutBy z l u k).length ≤ sizeLine ∧ Q (.str (cutBy z l u k)) H4
abbrev tP0 : TP' := fun _ H Q => Q none H
abbrev tP1 (te : TE) : TP' := fun σ H Q => te σ H fun v H' => ∃ i, v = .int i ∧ Q (some i) H'
abbrev tNegI (te : TE) : TE := fun σ H Q => te σ H fun v H' => ∃ i, v = .int i ∧ Q (.int (-i)) H'
abbrev tMt (r : Str → V → Hp → VK → Prop) (to te : TE) : TE := fun σ H Q => to σ H fun v H1 => ∃ z, v = .str z ∧ te σ H1 fun b H2 => r z b H2 Q
abbrev rGtI : R2 := fun a b H Q => ∃ i j, a = .int i ∧ b = .int j ∧ Q (.bl (decide (i > j))) H
abbrev rLtI : R2 := fun a b H Q => ∃ i j, a = .int i ∧ b = .int j ∧ Q (.bl (decide (i < j))) H
abbrev rAddI : R2 := fun a b H Q => ∃ i j, a = .int i ∧ b = .int j ∧ Q (.int (i + j)) H
abbrev rMulS : R2 := fun a b H Q => ∃ i j, a = .str i ∧ b = .int j ∧ MulOk i j ∧ Q (.str (Txt.mul i j)) H
abbrev rEqS : R2 := fun a b H Q => ∃ i j : Str, a = .str i ∧ b = .str j ∧ Q (.bl (i == j)) H
abbrev tRep (c : Nat) (to : TE) : TE := fun σ H Q => to σ H fun v H1 => ∃ z, v = .str z ∧ z.length ≤ 16777216 ∧ Q (.str (Txt.replace z ⟨#[c]⟩ Str.empty)) H1
section
variable {σ : L2.St} {t : List Nat} {s : Nat} {H : Hp}
theorem gives_rev (h6 : σ[6]? = some (some (.str (S t)))) (len : t.length ≤ 1188) : Gives (tSlc (tVar 6) tP0 tP0 (tP1 (tNegI (tC (.int 1))))) σ (.str (S t.reverse)) := fun H R q =>
  ⟨_, h6, 1, rfl, _, rfl, _, rfl, rfl, by rw [cut_rev, len_S, List.length_reverse]; exact small (by omega), by rw [cut_rev]; exact q⟩
theorem half_le : ∀ t : List Nat, (half t).length ≤ t.length
  | [] => Nat.le_refl _
  | [a] => Nat.le_refl _
  | a :: b :: r => by
    have := half_le r
    show (half r).length + 1 ≤ r.length + 1 + 1
    omega
theorem gives_half (h6 : σ[6]? = some (some (.str (S t)))) (len : t.length ≤ 1188) : Gives (tSlc (tVar 6) tP0 tP0 (tP1 (tC (.int 2)))) σ (.str (S (half t))) := fun H R q =>
  ⟨_, h6, 2, rfl, _, rfl, rfl, by rw [cut_two, len_S]; exact small (Nat.le_trans (half_le t) (by omega)), by rw [cut_two]; exact q⟩
theorem gives_lateT (h6 : σ[6]? = some (some (.str (S t)))) (h3 : σ[3]? = some (some (.str (S [s])))) (len : t.length ≤ 1188) :
    Gives (tIf (tTest (tOp rEqS (tSlc (tVar 6) (tP1 (tNegI (tC (.int 1)))) tP0 tP0) (tVar 3))) (tVar 6) (tC (.str Str.empty))) σ (.str (S (if t.getLast? = some s then t else []))) := fun H R q => by
  refine ⟨_, h6, 1, rfl, _, rfl, _, rfl, rfl, ?_, _, h3, _, _, rfl, rfl, _, rfl, ?_⟩
  rotate_left
  dsimp only
  rotate_left
  · rw [cut_last, len_S, List.length_drop]
    exact small (by omega)
  · rw [cut_last, show (S (t.drop (t.length - 1)) == S [s]) = decide (t.getLast? = some s) from last_is]
    by_cases h : t.getLast? = some s
    · rw [decide_eq_true h, if_pos rfl]
      rw [if_pos h] at q
      exact ⟨_, h6, q⟩
    · rw [decide_eq_false h, if_neg Bool.false_ne_true]
      rw [if_neg h] at q
      exact q
theorem gives_sort (h6 : σ[6]? = some (some (.str (S t)))) (h3 : σ[3]? = some (some (.str (S [s])))) (len : t.length ≤ 1188) :
    Gives (tCatT (tOp rMulS (tVar 3) (tMt (fun z b H Q => ∃ y, b = .str y ∧ Q (.int (Txt.count z y)) H) (tVar 6) (tVar 3))) (tRep s (tVar 6))) σ (.str (S ((t.filter fun c => decide (c = s)) ++ t.filter fun c => !decide (c = s)))) := fun H R q => by
  have cnt : t.count s ≤ 1188 := Nat.le_trans (List.count_le_length) len
  have fl : (t.filter fun x => decide (x ≠ s)).length ≤ 1188 := Nat.le_trans (List.length_filter_le _ _) len
  refine ⟨_, h3, _, h6, _, rfl, _, h3, _, rfl, _, _, rfl, rfl, ?_, _, h6, _, rfl, by rw [len_S]; omega, _, _, rfl, rfl, ?_, ?_⟩
  · rw [show Txt.count (S t) (S [s]) = (t.count s : Int) from count_S t s]
    exact mulOk_of (by omega) (by rw [len_S]; show 1 * _ ≤ _; omega)
  · rw [show Txt.count (S t) (S [s]) = (t.count s : Int) from count_S t s, show Txt.mul (S [s]) (t.count s : Int) = _ from mul_sign s _, replace_S, len_S, len_S, List.length_replicate]
    exact small (by omega)
  · rw [show Txt.count (S t) (S [s]) = (t.count s : Int) from count_S t s, show Txt.mul (S [s]) (t.count s : Int) = _ from mul_sign s _, replace_S, S_app, ← filter_is, ← filter_not]
    exact q
/-- r is what the exchange tells -/
def ExR (t : List Nat) (s : Nat) (r : Option (List Nat)) : Prop := (s ∉ t ∧ r = none) ∨ ∃ u v, t = u ++ s :: v ∧ s ∉ u ∧ r = some (v ++ s :: u)
theorem exR_of (t : List Nat) (s : Nat) : ∃ r, ExR t s r := by
  by_cases h : s ∈ t
  · obtain ⟨u, v, e, hu⟩ := split_at h
    exact ⟨_, .inr ⟨u, v, e, hu, rfl⟩⟩
  · exact ⟨_, .inl ⟨h, rfl⟩⟩
theorem exR_told {cs : List Nat} {r : Option (List Nat)} (x : ExR t s r) (h : okLetters cs = true) (hs : s ∈ cs) (ht : ∀ c ∈ t, c ∈ cs) : toldE ((xcP cs s).moves.map keptM) (sortN (xcP cs s).boxes) (xcP cs s).ends nAhead t = r := by
  rcases x with ⟨hn, rfl⟩ | ⟨u, v, rfl, hu, rfl⟩
  · exact told_exch_none h ht hn
  · exact told_exch h hs (fun c hc => ht c (List.mem_append_left _ hc)) (fun c hc => ht c (List.mem_append_right _ (List.mem_cons_of_mem _ hc))) hu
theorem gives_exch {r : Option (List Nat)} (x : ExR t s r) (h6 : σ[6]? = some (some (.str (S t)))) (h3 : σ[3]? = some (some (.str (S [s])))) (h7 : σ[7]? = some (some (.int (Txt.find (S t) (S [s]))))) (len : t.length ≤ 1188) :
    Gives (tIf (tTest (tOp rLtI (tVar 7) (tC (.int 0)))) (tC .non) (tCatT (tCatT (tSlc (tVar 6) (tP1 (tOp rAddI (tVar 7) (tC (.int 1)))) tP0 tP0) (tVar 3)) (tSlc (tVar 6) tP0 (tP1 (tVar 7)) tP0))) σ (optV r) := fun H R q => by
  rcases x with ⟨hn, rfl⟩ | ⟨u, v, rfl, hu, rfl⟩
  · rw [find_out hn] at h7
    refine ⟨_, h7, _, _, rfl, rfl, _, rfl, ?_⟩
    dsimp only
    rw [show decide ((-1 : Int) < 0) = true by decide, if_pos rfl]
    exact q
  · rw [find_in hu] at h7
    rw [List.length_append, List.length_cons] at len
    refine ⟨_, h7, _, _, rfl, rfl, _, rfl, ?_⟩
    dsimp only
    rw [show decide ((u.length : Int) < 0) = false from decide_eq_false (by omega), if_neg Bool.false_ne_true]
    have e1 : cutBy (S (u ++ s :: v)) (some ((u.length : Int) + 1)) none none = S v := by
      rw [show ((u.length : Int) + 1) = ((u.length + 1 : Nat) : Int) by omega, cut_from _ _ (by rw [List.length_append, List.length_cons]; omega)]
      simp
    have e2 : cutBy (S (u ++ s :: v)) none (some (u.length : Int)) none = S u := by
      rw [cut_to _ _ (by rw [List.length_append]; omega)]
      simp
    refine ⟨_, h6, _, h7, _, _, rfl, rfl, _, rfl, _, rfl, rfl, ?_, _, h3, _, _, rfl, rfl, ?_, _, h6, _, h7, _, rfl, _, rfl, rfl, ?_, _, _, rfl, rfl, ?_, ?_⟩
    · rw [e1, len_S]
      exact small (by omega)
    · rw [e1, len_S, len_S]
      exact small (by show v.length + 1 ≤ _; omega)
    · rw [e2, len_S]
      exact small (by omega)
    · rw [e1, e2, S_app, len_S, len_S, List.length_append]
      exact small (by show v.length + 1 + u.length ≤ _; omega)
    · rw [e1, e2, S_app, S_app, List.append_assoc]
      exact q
/-- the text, or ninety-nine of it -/
theorem text_ans {cs : List Nat} {k : Int} {R : VK} (h6 : σ[6]? = some (some (.str (S t)))) (h5 : σ[5]? = some (some (.int k))) (mem : ∀ c ∈ t, c ∈ cs) (len : t.length ≤ 12) (q : ∀ t' : List Nat, (∀ c ∈ t', c ∈ cs) → t'.length ≤ 1188 → R (.str (S t')) H) :
    tIf (tTest (tOp rGtI (tVar 5) (tC (.int 0)))) (tVar 6) (tOp rMulS (tVar 6) (tC (.int 99))) σ H R := by
  refine ⟨_, h5, _, _, rfl, rfl, _, rfl, ?_⟩
  dsimp only
  split
  · exact ⟨_, h6, q t mem (by omega)⟩
  · refine ⟨_, h6, _, _, rfl, rfl, mulOk_of (n := 99) (by omega) (by rw [len_S]; omega), ?_⟩
    rw [mul_99]
    refine q _ (fun c hc => ?_) ?_
    · obtain ⟨l, hl, hc⟩ := List.mem_flatten.mp hc
      rw [(List.mem_replicate.mp hl).2] at hc
      exact mem c hc
    · rw [List.length_flatten, List.map_replicate, List.sum_replicate_nat]
      omega
end
end Tb

set_option Elab.async false
set_option linter.all false
set_option maxRecDepth 100000
set_option maxHeartbeats 8000000
namespace Tb
open PySem PySem.Spec PyProof.Rows L2 TL LamX
abbrev nLaw : List Str := ["_law_script", "_law_source_here", "_law_letters", "_law_sign", "_law_found", "_law_turn", "_law_text_here", "_law_at", "_law_due", "_law_program"]
theorem scLaw : FnScope nLaw ["_law_script"] (defScope sLaw) := ⟨rfl, rfl, rfl, by decide +kernel, rfl, by decide +kernel, by decide +kernel⟩
theorem st_if {tt : TT} {t u' u : TS} {D : Ends} {σ : L2.St} {H : Hp} (h : tt σ H fun b H1 => if b = true then t { D with nx := u D } σ H1 else u' { D with nx := u D } σ H1) : tSeq (tIfS tt t u') u D σ H := h
theorem ite_no {A B : Prop} (h : B) : if false = true then A else B := by
  rw [if_neg Bool.false_ne_true]
  exact h
theorem st_for {wi : TI} {g : TG} {t u : TS} {D : Ends} {σ : L2.St} {H : Hp} (h : tFor wi g t { D with nx := u D } σ H) : tSeq (tFor wi g t) u D σ H := h
theorem lst3 {t1 t2 t3 : TE} {σ : L2.St} {H : Hp} {Q : VK} {v1 v2 v3 : V} (h1 : Gives t1 σ v1) (h2 : Gives t2 σ v2) (h3 : Gives t3 σ v3) (q : New H (.lst [v1, v2, v3]) Q) : tLstS (tCons t1 (tCons t2 (tCons t3 tNil))) σ H Q :=
  h1 _ _ (h2 _ _ (h3 _ _ ⟨by show 3 ≤ sizeLine; decide, q⟩))
theorem st_nxt {u : TS} {D : Ends} {σ : L2.St} {H : Hp} (h : u D σ H) : tNext { D with nx := u D } σ H := h
def spLaw (K : PySem.W.Frag) (TP : Addr) : Sp := fun vs H Q _ => ∃ (a : Addr) (ns : List Int), vs = [.ref a] ∧ SqL K H a (ns.map V.int) ∧ H TP = some (.tbl #[]) ∧ ∀ H', Q (.bl true) H'
/-- what the loop knows of the heap -/
structure Al (C p L p1 p2 p3 p4 p5 p6 : Addr) (cs : List Nat) (s n : Nat) (H : Hp) : Prop where
  src : Src H p n
  lst : H L = some (.lst [.ref p1, .ref p2, .ref p3, .ref p4, .ref p5, .ref p6])
  a1 : KnP C H p1 (plP cs)
  a2 : KnP C H p2 (baP cs)
  a3 : KnP C H p3 (xcP cs s)
  a4 : KnP C H p4 (srP cs s)
  a5 : KnP C H p5 (hvP cs)
  a6 : KnP C H p6 (ltP cs s)
theorem Al.mv {C p L p1 p2 p3 p4 p5 p6 : Addr} {cs : List Nat} {s n m : Nat} {H H' : Hp} (a : Al C p L p1 p2 p3 p4 p5 p6 cs s n H) (k : Kpt H H') (sr : Src H' p m) (l : H' L = H L) : Al C p L p1 p2 p3 p4 p5 p6 cs s m H' :=
  ⟨sr, l.trans a.lst, a.a1.kpt k, a.a2.kpt k, a.a3.kpt k, a.a4.kpt k, a.a5.kpt k, a.a6.kpt k⟩
theorem Al.same {C p L p1 p2 p3 p4 p5 p6 : Addr} {cs : List Nat} {s n : Nat} {H H' : Hp} (a : Al C p L p1 p2 p3 p4 p5 p6 cs s n H) (k : Same H H') : Al C p L p1 p2 p3 p4 p5 p6 cs s n H' := a.mv (.same k) (a.src.same k) ((k _ _ a.lst).trans a.lst.symm)
section
variable {P : Program} {w : World} {K : PySem.W.Frag} {mg : Str → Option Value} {base : Heap}
theorem ok_law {f C fP : Addr} {fd fdP : FuncData} {TP : Addr} {qn : Str} (FL : Fun K "law" "law" sLaw f fd)
    (DSrc : Df P w K mg base 1 "_law_source" ["_law_script"] (spSource K)) (DS : Df P w K mg base 3 "_law_signs" ["_law_source_here", "_law_signs_here", "_law_many"] spSigns) (DD : Df P w K mg base 1 "_law_draw" ["_law_source_here", "_law_many"] spDrawS)
    (FS : FnS P w K mg base 2 fP fdP ["_law_source_here", "_law_things"] spPickS) (bP : Binds K fdP ["_law_source_here", "_law_things"] []) (kP : PySem.W.keepIn K (.ref fP) = true) (mP : mg "_law_pick" = some (.ref fP))
    (DPl : Df P w K mg base 7 "plain" ["letters"] (spKnown1 C plP)) (DBa : Df P w K mg base 7 "backward" ["letters"] (spKnown1 C baP)) (DXc : Df P w K mg base 7 "exchanging" ["letters", "sign"] (spKnown2 C xcP)) (DSr : Df P w K mg base 7 "sorting" ["letters", "sign"] (spKnown2 C srP))
    (DHv : Df P w K mg base 7 "halving" ["letters"] (spKnown1 C hvP)) (DLt : Df P w K mg base 7 "late" ["letters", "sign"] (spKnown2 C ltP)) (DPs : Df P w K mg base 7 "_law_programs" ["_law_letters", "_law_sign"] (spLPrograms [(TP, qn)] C))
    (DTx : Df P w K mg base 3 "_law_text" ["_law_source_here", "_law_letters", "_law_most"] spLText) (DTo : Df P w K mg base 8 "told" ["program", "text"] (spToldG C)) (DE : EqM P w K mg base C 1 (PrEq C)) (mr : mg "range" = none) :
    FnOk P w K mg base CX0 9 f fd ["_law_script"] (spLaw K TP) := by
  refine FL.ok scLaw (fun vs H Q E h => ?_) (fun cdv A outer s H vs Q E hr h => ?_)
  · obtain ⟨a, ns, rfl, _⟩ := h
    rfl
  · obtain ⟨a, ns, rfl, hS, tb, q⟩ := h
    have hu := hu_of hr
    refine ⟨_, pss_tok (i := 1) scLaw.nd rfl rfl (pe_df DSrc hr (pa_cons (pv 0) pa_nil))
      (psst_cons (pst_set (i := 2) scLaw.nd rfl (.inl rfl) (PET.of (pe_df DS hr (pa_cons (pv 1) (pa_cons pe_str (pa_cons (pe_op op_add pe_int (pe_df DD hr (pa_cons (pv 1) (pa_cons pe_int pa_nil)))) pa_nil))))))
      (psst_sign (i := 3) FS bP kP mP hr scLaw.nd rfl rfl (pa_cons (pv 1) (pa_cons (pv 2) pa_nil)) fun c =>
        pssk_cons (psk_set (i := 4) scLaw.nd rfl rfl (by decide) (pek_lst (pak_cons (pek_df DPl hr (pak_cons (pek_var 2) pak_nil)) (pak_cons (pek_df DBa hr (pak_cons (pek_var 2) pak_nil)) (pak_cons (pek_df DXc hr (pak_cons (pek_var 2) (pak_cons (pek_var 3) pak_nil))) (pak_cons (pek_df DSr hr (pak_cons (pek_var 2) (pak_cons (pek_var 3) pak_nil))) (pak_cons (pek_df DHv hr (pak_cons (pek_var 2) pak_nil)) pak_nil)))))))
        (pssk_cons (psk_expr (pek_app (pek_var 4) (pek_df DLt hr (pak_cons (pek_var 2) (pak_cons (pek_var 3) pak_nil)))))
        (pssk_cons (psk_if (ptk_cmp (opk_neL (mon_progs C) (eqK_of DE) (hr.mono (by omega))) (pek_var 4) (pek_df DPs hr (pak_cons (pek_var 2) (pak_cons (pek_var 3) pak_nil))) (nomark _)) (pssk_one (psk_ret pek_bl)) pssk_nil)
        (pssk_cons (psk_forR (i := 5) PassesOwn.never rfl scLaw.nd rfl rfl (by decide) (by rfl) mr (pak_cons pek_int pak_nil)
          (pssk_cons (psk_setC (i := 6) scLaw.nd rfl rfl rfl (pek_df DTx hr (pak_cons (pek_var 1) (pak_cons (pek_var 2) (pak_cons pek_int pak_nil)))))
          (pssk_cons (psk_setC (i := 6) scLaw.nd rfl rfl rfl (pek_ifExp (ptk_cmp opk_gt (pek_var 5) pek_int (nomark _)) (pek_var 6) (pek_op opk_mulS (pek_var 6) pek_int)))
          (pssk_cons (psk_set (i := 7) scLaw.nd rfl rfl (by decide) (pek_m1 F.slot_str_find F.type_str_find mtk_find (pek_var 6) (pek_var 3)))
          (pssk_cons (psk_set (i := 8) scLaw.nd rfl rfl (by decide) (pek_lst (pak_cons (pek_var 6) (pak_cons (pek_slc (pek_var 6) ppk_none ppk_none (ppk_some (pek_neg pek_int))) (pak_cons (pek_ifExp (ptk_cmp opk_lt (pek_var 7) pek_int (nomark _)) pek_non (pek_op opk_addS (pek_op opk_addS (pek_slc (pek_var 6) (ppk_some (pek_op opk_addI (pek_var 7) pek_int)) ppk_none ppk_none) (pek_var 3)) (pek_slc (pek_var 6) ppk_none (ppk_some (pek_var 7)) ppk_none))) pak_nil)))))
          (pssk_cons (psk_set (i := 8) scLaw.nd rfl rfl (by decide) (pek_op opk_cat (pek_var 8) (pek_lst (pak_cons (pek_op opk_addS (pek_op opk_mulS (pek_var 3) (pek_m1 F.slot_str_count F.type_str_count mtk_count (pek_var 6) (pek_var 3))) (pek_replace rfl (pek_var 6))) (pak_cons (pek_slc (pek_var 6) ppk_none ppk_none (ppk_some pek_int)) (pak_cons (pek_ifExp (ptk_cmp opk_eqS (pek_slc (pek_var 6) (ppk_some (pek_neg pek_int)) ppk_none ppk_none) (pek_var 3) (nomark _)) (pek_var 6) pek_str) pak_nil))))))
          (pssk_one (psk_if (ptk_cmp (opk_neSame (by exact hu)) (pek_told (i := 4) (own := [("_law_program", 9)]) (g := gName 9) (te := tCall (spToldG C) [] E0 (tCons (tVar 9) (tCons (tVar 6) tNil))) rfl scLaw.nd rfl (.inl rfl) (blkOk_by (own := [("_law_program", 9)]) (N := nLaw) (sc := defScope sLaw) (by decide +kernel)) (fun _ _ _ _ _ => pg_name (i := 9) scLaw.nd rfl (.inl rfl)) (fun _ _ _ _ _ => pe_df DTo hr (pa_cons (pv 9) (pa_cons (pv 6) pa_nil)))) (pek_var 8) (nomark _)) (pssk_one (psk_ret pek_bl)) pssk_nil))))))))
        (pssk_one (psk_ret pek_bl))))))), ?_⟩
    refine st_asg ?_
    refine ⟨_, rfl, a, ns, rfl, hS, fun p o H1 s1 np e1 so => ?_⟩
    have src1 : Src H1 p 0 := ⟨o, e1, so⟩
    have tb1 := s1 _ _ tb
    have neT : TP ≠ p := fun z => by
      rw [z, np] at tb
      cases tb
    refine st_asg (σ := [some (.ref a), some (.ref p), none, none, none, none, none, none, none, none]) ?_
    refine ⟨_, rfl, _, rfl, p, 5, 0, rfl, src1, by decide, by decide, by decide, fun d H2 d5 b2 src2 => ⟨1, d, rfl, rfl, p, 1, 1 + d, [97, 98, 99, 120, 121, 122], ?_, src2, by decide, by decide, fun H3 all b3 src3 pm => ?_⟩⟩
    · rw [show (Str.ofString "abcxyz") = S [97, 98, 99, 120, 121, 122] from st_six]
      simp [num]
    have hc : okLetters (all.take (1 + d)) = true := letters_ok pm (by omega) (by omega)
    have tb3 := b3 _ _ (b2 _ _ tb1 neT) neT
    obtain ⟨cs, hcs⟩ : ∃ cs, cs = all.take (1 + d) := ⟨_, rfl⟩
    rw [← hcs] at hc ⊢
    obtain ⟨low, len1, len5, nd⟩ := low_of hc
    refine ⟨_, rfl, _, rfl, p, _, src3, by decide, S cs, rfl, by rw [len_S]; exact len1, by rw [len_S]; exact Nat.le_trans len5 (by decide), by rw [len_S]; omega, fun s H4 hs b4 src4 => ⟨s, rfl, ?_⟩⟩
    have hs : s ∈ cs := by rwa [toList_S] at hs
    have tb4 := b4 _ _ tb3 neT
    have src4 : Src H4 p 8 := src4
    refine st_asg (σ := [some (.ref a), some (.ref p), some (.str (S cs)), some (.str (S [s])), none, none, none, none, none, none]) ?_
    refine ⟨_, rfl, cs, rfl, hc, fun p1 H5 s5 n5 new1 => ?_⟩
    refine ⟨_, rfl, cs, rfl, hc, fun p2 H6 s6 n6 new2 => ?_⟩
    refine ⟨_, rfl, _, rfl, cs, s, rfl, hc, hs, fun p3 H7 s7 n7 new3 => ?_⟩
    refine ⟨_, rfl, _, rfl, cs, s, rfl, hc, hs, fun p4 H8 s8 n8 new4 => ?_⟩
    refine ⟨_, rfl, cs, rfl, hc, fun p5 H9 s9 n9 new5 => ?_⟩
    refine ⟨by show 5 ≤ sizeLine; decide, fun L H10 s10 nL eL => ?_⟩
    refine st_drop (σ := [some (.ref a), some (.ref p), some (.str (S cs)), some (.str (S [s])), some (.ref L), none, none, none, none, none]) ?_
    refine ⟨_, rfl, L, _, rfl, eL, _, rfl, _, rfl, cs, s, rfl, hc, hs, fun p6 H11 s11 n11 new6 => ⟨_, s11 _ _ eL, by show 5 < sizeLine; decide, ?_⟩⟩
    -- the found
    have neL : L ≠ p := fun z => by
      obtain ⟨o', e', _⟩ := ((src4.same s5).same s6).same s7 |>.same s8 |>.same s9
      rw [z, e'] at nL
      cases nL
    have tb11 := s11 _ _ (s10 _ _ (s9 _ _ (s8 _ _ (s7 _ _ (s6 _ _ (s5 _ _ tb4))))))
    have neTL : TP ≠ L := fun z => by
      have := s9 _ _ (s8 _ _ (s7 _ _ (s6 _ _ (s5 _ _ tb4))))
      rw [z, nL] at this
      cases this
    have e11 := s11 _ _ eL
    obtain ⟨H12, hH12⟩ : ∃ H12, H12 = upd H11 L (.lst ([.ref p1, .ref p2, .ref p3, .ref p4, .ref p5] ++ [.ref p6])) := ⟨_, rfl⟩
    have u12 : Kpt H11 H12 := by rw [hH12]; exact Kpt.upd e11
    have k10 : Kpt H10 H12 := (Kpt.same s11).trans u12
    have k9 : Kpt H9 H12 := (Kpt.same s10).trans k10
    have k8 : Kpt H8 H12 := (Kpt.same s9).trans k9
    have k7 : Kpt H7 H12 := (Kpt.same s8).trans k8
    have k6 : Kpt H6 H12 := (Kpt.same s7).trans k7
    have k5 : Kpt H5 H12 := (Kpt.same s6).trans k6
    have src12 : Src H12 p 8 := by
      obtain ⟨o', e', r'⟩ := (((src4.same s5).same s6).same s7 |>.same s8 |>.same s9).same s10 |>.same s11
      refine ⟨o', ?_, r'⟩
      rw [hH12, upd_ne (Ne.symm neL)]
      exact e'
    have tb12 : H12 TP = some (.tbl #[]) := by rw [hH12, upd_ne neTL]; exact tb11
    have al12 : Al C p L p1 p2 p3 p4 p5 p6 cs s 8 H12 := ⟨src12, by rw [hH12]; exact upd_same, new1.at.kpt k5, new2.at.kpt k6, new3.at.kpt k7, new4.at.kpt k8, new5.at.kpt k9, new6.at.kpt u12⟩
    show tSeq _ _ _ _ (upd H11 L (.lst ([.ref p1, .ref p2, .ref p3, .ref p4, .ref p5] ++ [.ref p6])))
    rw [← hH12]
    refine st_if ?_
    refine ⟨_, rfl, _, rfl, _, rfl, cs, s, rfl, hc, hs, (fun q hq => by rw [List.mem_singleton.mp hq]; exact TabS.nil tb12), fun L2 q1 q2 q3 q4 q5 q6 H13 x13 e13 l1 l2 l3 l4 l5 l6 => ?_⟩
    have al13 : Al C p L p1 p2 p3 p4 p5 p6 cs s 8 H13 := al12.mv (.extN x13) (al12.src.extN x13) ((x13 _ _ al12.lst (by intro _ z; cases z)).trans al12.lst.symm)
    refine ⟨⟨L, L2, _, _, rfl, rfl, al13.lst, e13, Prs.cons (known_eq (plP_parts hc) al13.a1 l1) (Prs.cons (known_eq (baP_parts hc) al13.a2 l2) (Prs.cons (known_eq (xcP_parts hc hs) al13.a3 l3) (Prs.cons (known_eq (srP_parts hc hs) al13.a4 l4) (Prs.cons (known_eq (hvP_parts hc) al13.a5 l5) (Prs.cons (known_eq (ltP_parts hc) al13.a6 l6) Prs.nil)))))⟩, fun H14 x14 => ⟨false, rfl, ?_⟩⟩
    have al14 := al13.same x14
    refine ite_no (st_nxt (st_for ?_))
    clear src1 tb1 tb3 tb4 tb11 tb12 u12 k10 k9 k8 k7 k6 k5 src12 al12 al13
    refine ⟨5, rfl, by decide, by decide, for_range (lo := 0) (n := 5) (fun i σ' H' => ∃ x5 x6 x7 x8 x9, σ' = [some (.ref a), some (.ref p), some (.str (S cs)), some (.str (S [s])), some (.ref L), x5, x6, x7, x8, x9] ∧ Al C p L p1 p2 p3 p4 p5 p6 cs s (8 + 110 * i) H') ⟨_, _, _, _, _, rfl, al14⟩ ?_ ?_⟩
    · rintro i σ' H' hi ⟨x5, x6, x7, x8, x9, rfl, al⟩
      refine st_asg (σ := [some (.ref a), some (.ref p), some (.str (S cs)), some (.str (S [s])), some (.ref L), some (.int (0 + i)), x6, x7, x8, x9]) ?_
      refine ⟨_, rfl, _, rfl, p, _, 12, cs, rfl, al.src, by omega, by omega, by omega, by decide, fun J1 t b1 sr1 lt mem => ?_⟩
      have aj1 := al.mv (.but al.src b1) sr1 ((b1 _ _ al.lst neL).trans al.lst.symm)
      refine st_asg (σ := [some (.ref a), some (.ref p), some (.str (S cs)), some (.str (S [s])), some (.ref L), some (.int (0 + i)), some (.str (S t)), x7, x8, x9]) ?_
      refine text_ans rfl rfl mem lt fun t mem lt => ?_
      obtain ⟨r, x⟩ := exR_of t s
      refine st_asg (σ := [some (.ref a), some (.ref p), some (.str (S cs)), some (.str (S [s])), some (.ref L), some (.int (0 + i)), some (.str (S t)), x7, x8, x9]) ?_
      refine ⟨_, rfl, _, rfl, _, rfl, _, rfl, ?_⟩
      refine st_asg (σ := [some (.ref a), some (.ref p), some (.str (S cs)), some (.str (S [s])), some (.ref L), some (.int (0 + i)), some (.str (S t)), some (.int (Txt.find (S t) (S [s]))), x8, x9]) ?_
      refine lst3 (gives_var rfl) (gives_rev rfl lt) (gives_exch x rfl rfl rfl lt) fun d1 J2 s2 n2 ed1 => ?_
      refine st_asg (σ := [some (.ref a), some (.ref p), some (.str (S cs)), some (.str (S [s])), some (.ref L), some (.int (0 + i)), some (.str (S t)), some (.int (Txt.find (S t) (S [s]))), some (.ref d1), x9]) ?_
      refine ⟨_, rfl, lst3 (gives_sort rfl rfl lt) (gives_half rfl lt) (gives_lateT rfl rfl lt) fun d2 J3 s3 n3 ed2 => ?_⟩
      refine ⟨d1, d2, _, _, _, rfl, rfl, s3 _ _ ed1, ed2, by show 3 + 3 ≤ sizeLine; decide, rfl, fun d3 J4 s4 n4 ed3 => ?_⟩
      have aj4 := ((aj1.same s2).same s3).same s4
      show tIfS _ _ _ _ [some (.ref a), some (.ref p), some (.str (S cs)), some (.str (S [s])), some (.ref L), some (.int (0 + i)), some (.str (S t)), some (.int (Txt.find (S t) (S [s]))), some (.ref d3), x9] _
      refine ⟨_, rfl, L, rfl, ⟨_, SqL.of aj4.lst⟩, fun D nD => lc_told (SqL.of aj4.lst) (ys := [.str (S t), .str (S t.reverse), optV r, .str (S ((t.filter fun c => decide (c = s)) ++ t.filter fun c => !decide (c = s))), .str (S (half t)), .str (S (if t.getLast? = some s then t else []))]) rfl nD (by show 6 < sizeLine; decide) ?_ ?_⟩
      · intro j v y hx hy J5 R s5 q5
        have aj5 := aj4.same s5
        match j, hx, hy with
        | 0, rfl, rfl => exact ⟨_, rfl, _, rfl, told_ans (E := E0) aj5.a1 rfl (pg_plain hc) (told_plain hc mem) mem lt q5⟩
        | 1, rfl, rfl => exact ⟨_, rfl, _, rfl, told_ans (E := E0) aj5.a2 rfl (pg_back hc) (told_back hc mem) mem lt q5⟩
        | 2, rfl, rfl => exact ⟨_, rfl, _, rfl, told_ans (E := E0) aj5.a3 rfl (pg_exch hc hs) (exR_told x hc hs mem) mem lt q5⟩
        | 3, rfl, rfl => exact ⟨_, rfl, _, rfl, told_ans (E := E0) aj5.a4 rfl (pg_sort hc hs) (told_sort hc mem) mem lt q5⟩
        | 4, rfl, rfl => exact ⟨_, rfl, _, rfl, told_ans (E := E0) aj5.a5 rfl (pg_half hc) (told_half hc mem) mem lt q5⟩
        | 5, rfl, rfl => exact ⟨_, rfl, _, rfl, told_ans (E := E0) aj5.a6 rfl (pg_late hc) (told_late hc mem) mem lt q5⟩
        | j + 6, hx, _ => simp at hx
      · intro J5 s5 e5
        refine ⟨_, rfl, D, d3, _, rfl, rfl, SqL.of e5, SqL.of (s5 _ _ ed3), ?_, false, rfl, ite_no ⟨_, _, _, _, _, rfl, ?_⟩⟩
        · cases r <;> rfl
        · have := aj4.same s5
          rw [show 8 + 110 * (i + 1) = 8 + 110 * i + 110 by omega]
          exact this
    · intro σ' H' _
      exact q H'
end
end Tb

set_option Elab.async false
set_option linter.all false
set_option maxRecDepth 100000
set_option maxHeartbeats 4000000
namespace Tb
open PySem PySem.Spec PyProof.Rows L2 TL
def lw : PySem.W.OpenLaw := PySem.Challenge.rw_textboxes_k15_known_programs
theorem all_mk {w : World} {K : PySem.W.Frag} {h : Heap} {mg : Str → Option Value} {fa C cP TP : Addr} {g0 g1 g2 g3 g4 g5 g6 g7 g8 g9 g10 g11 g12 g13 g14 g15 g16 g17 g18 g19 g20 g21 g22 g23 g24 g25 g26 g27 g28 g29 g30 g31 g32 g33 g34 g35 g36 g37 g38 gCinit gCmove gCend gCeq gPletters gPboxes gPplaces gSinit gSmove gSmove_in_parts gSfirst gSbehind gSended gStold gRinit gRpieces pPletters pPboxes pPplaces CS CR : Addr} (X : K.In h) (G : h.Ns mainGlobals mg) (hfa : mg "law" = some (.ref fa)) (ht : ∀ q ∈ [TP], h.get? q = some (PySem.W.tabObj #[]))
    {od0 an0 od1 an1 od2 an2 od3 an3 od4 an4 od5 an5 od6 an6 od7 an7 od8 an8 od9 an9 od10 an10 od11 an11 od12 an12 od13 an13 od14 an14 od15 an15 od16 an16 od17 an17 od18 an18 od19 an19 od20 an20 od21 an21 od22 an22 od23 an23 od24 an24 od25 an25 od26 an26 od27 an27 od28 an28 od29 an29 od30 an30 od31 an31 od32 an32 od33 an33 od34 an34 od35 an35 od36 an36 od37 an37 od38 an38 odCinit anCinit odCmove anCmove odCend anCend odCeq anCeq odPletters anPletters odPboxes anPboxes odPplaces anPplaces odSinit anSinit odSmove anSmove odSmove_in_parts anSmove_in_parts odSfirst anSfirst odSbehind anSbehind odSended anSended odStold anStold odRinit anRinit odRpieces anRpieces : Option Addr} {sl0 sl1 sl2 sl3 sl4 sl5 sl6 sl7 sl8 sl9 sl10 sl11 sl12 sl13 sl14 sl15 sl16 sl17 sl18 sl19 sl20 sl21 sl22 sl23 sl24 sl25 sl26 sl27 sl28 sl29 sl30 sl31 sl32 sl33 sl34 sl35 sl36 sl37 sl38 slCinit slCmove slCend slCeq slPletters slPboxes slPplaces slSinit slSmove slSmove_in_parts slSfirst slSbehind slSended slStold slRinit slRpieces : Array (Option Value)} {oc0 kV0 dc0 pm0 cd0 ct0 oc1 kV1 dc1 pm1 cd1 ct1 oc2 kV2 dc2 pm2 cd2 ct2 oc3 kV3 dc3 pm3 cd3 ct3 oc4 kV4 dc4 pm4 cd4 ct4 oc5 kV5 dc5 pm5 cd5 ct5 oc6 kV6 dc6 pm6 cd6 ct6 oc7 kV7 dc7 pm7 cd7 ct7 oc8 kV8 dc8 pm8 cd8 ct8 oc9 kV9 dc9 pm9 cd9 ct9 oc10 kV10 dc10 pm10 cd10 ct10 oc11 kV11 dc11 pm11 cd11 ct11 oc12 kV12 dc12 pm12 cd12 ct12 oc13 kV13 dc13 pm13 cd13 ct13 oc14 kV14 dc14 pm14 cd14 ct14 oc15 kV15 dc15 pm15 cd15 ct15 oc16 kV16 dc16 pm16 cd16 ct16 oc17 kV17 dc17 pm17 cd17 ct17 oc18 kV18 dc18 pm18 cd18 ct18 oc19 kV19 dc19 pm19 cd19 ct19 oc20 kV20 dc20 pm20 cd20 ct20 oc21 kV21 dc21 pm21 cd21 ct21 oc22 kV22 dc22 pm22 cd22 ct22 oc23 kV23 dc23 pm23 cd23 ct23 oc24 kV24 dc24 pm24 cd24 ct24 oc25 kV25 dc25 pm25 cd25 ct25 oc26 kV26 dc26 pm26 cd26 ct26 oc27 kV27 dc27 pm27 cd27 ct27 oc28 kV28 dc28 pm28 cd28 ct28 oc29 kV29 dc29 pm29 cd29 ct29 oc30 kV30 dc30 pm30 cd30 ct30 oc31 kV31 dc31 pm31 cd31 ct31 oc32 kV32 dc32 pm32 cd32 ct32 oc33 kV33 dc33 pm33 cd33 ct33 oc34 kV34 dc34 pm34 cd34 ct34 oc35 kV35 dc35 pm35 cd35 ct35 oc36 kV36 dc36 pm36 cd36 ct36 oc37 kV37 dc37 pm37 ct37 oc38 kV38 dc38 pm38 cd38 ct38 ocCinit kVCinit dcCinit pmCinit cdCinit ctCinit ocCmove kVCmove dcCmove pmCmove cdCmove ctCmove ocCend kVCend dcCend pmCend cdCend ctCend ocCeq kVCeq dcCeq pmCeq cdCeq ctCeq ocPletters kVPletters dcPletters pmPletters cdPletters ctPletters ocPboxes kVPboxes dcPboxes pmPboxes cdPboxes ctPboxes ocPplaces kVPplaces dcPplaces pmPplaces cdPplaces ctPplaces ocSinit kVSinit dcSinit pmSinit cdSinit ctSinit ocSmove kVSmove dcSmove pmSmove cdSmove ctSmove ocSmove_in_parts kVSmove_in_parts dcSmove_in_parts pmSmove_in_parts cdSmove_in_parts ctSmove_in_parts ocSfirst kVSfirst dcSfirst pmSfirst cdSfirst ctSfirst ocSbehind kVSbehind dcSbehind pmSbehind cdSbehind ctSbehind ocSended kVSended dcSended pmSended cdSended ctSended ocStold kVStold dcStold pmStold cdStold ctStold ocRinit kVRinit dcRinit pmRinit cdRinit ctRinit ocRpieces kVRpieces dcRpieces pmRpieces cdRpieces ctRpieces : Value} {rrPletters rrPboxes rrPplaces : List Value} {tk_BOXES tk_LONGEST_NAME tk_MOST_BOXES tk_MOST_LETTERS tk_MOST_PLACES tk_SHORT : Tok}
    (a0 : PySem.W.nsIn K mainGlobals "is_text" = some (some (.ref g0))) (k0 : PySem.W.keepIn K (.ref g0) = true)
    (l0 : K.lookup g0 = some ⟨oc0, od0, .func (PySem.W.fnOf "is_text" "is_text" (defArgs sIsText) (defBody sIsText) (defScope sIsText) .none kV0 dc0 pm0 an0 cd0 ct0), sl0⟩) (e0 : PySem.W.codeIn K cd0 "is_text" = true)
    (a1 : PySem.W.nsIn K mainGlobals "is_name" = some (some (.ref g1))) (k1 : PySem.W.keepIn K (.ref g1) = true)
    (l1 : K.lookup g1 = some ⟨oc1, od1, .func (PySem.W.fnOf "is_name" "is_name" (defArgs sIsName) (defBody sIsName) (defScope sIsName) .none kV1 dc1 pm1 an1 cd1 ct1), sl1⟩) (e1 : PySem.W.codeIn K cd1 "is_name" = true)
    (a2 : PySem.W.nsIn K mainGlobals "is_filling" = some (some (.ref g2))) (k2 : PySem.W.keepIn K (.ref g2) = true)
    (l2 : K.lookup g2 = some ⟨oc2, od2, .func (PySem.W.fnOf "is_filling" "is_filling" (defArgs sIsFilling) (defBody sIsFilling) (defScope sIsFilling) .none kV2 dc2 pm2 an2 cd2 ct2), sl2⟩) (e2 : PySem.W.codeIn K cd2 "is_filling" = true)
    (a3 : PySem.W.nsIn K mainGlobals "are_different" = some (some (.ref g3))) (k3 : PySem.W.keepIn K (.ref g3) = true)
    (l3 : K.lookup g3 = some ⟨oc3, od3, .func (PySem.W.fnOf "are_different" "are_different" (defArgs sAreDiff) (defBody sAreDiff) (defScope sAreDiff) .none kV3 dc3 pm3 an3 cd3 ct3), sl3⟩) (e3 : PySem.W.codeIn K cd3 "are_different" = true)
    (a4 : PySem.W.nsIn K mainGlobals "in_order" = some (some (.ref g4))) (k4 : PySem.W.keepIn K (.ref g4) = true)
    (l4 : K.lookup g4 = some ⟨oc4, od4, .func (PySem.W.fnOf "in_order" "in_order" (defArgs sInOrder) (defBody sInOrder) (defScope sInOrder) .none kV4 dc4 pm4 an4 cd4 ct4), sl4⟩) (e4 : PySem.W.codeIn K cd4 "in_order" = true)
    (a5 : PySem.W.nsIn K mainGlobals "are_letters" = some (some (.ref g5))) (k5 : PySem.W.keepIn K (.ref g5) = true)
    (l5 : K.lookup g5 = some ⟨oc5, od5, .func (PySem.W.fnOf "are_letters" "are_letters" (defArgs sAreLetters) (defBody sAreLetters) (defScope sAreLetters) .none kV5 dc5 pm5 an5 cd5 ct5), sl5⟩) (e5 : PySem.W.codeIn K cd5 "are_letters" = true)
    (a6 : PySem.W.nsIn K mainGlobals "are_names" = some (some (.ref g6))) (k6 : PySem.W.keepIn K (.ref g6) = true)
    (l6 : K.lookup g6 = some ⟨oc6, od6, .func (PySem.W.fnOf "are_names" "are_names" (defArgs sAreNames) (defBody sAreNames) (defScope sAreNames) .none kV6 dc6 pm6 an6 cd6 ct6), sl6⟩) (e6 : PySem.W.codeIn K cd6 "are_names" = true)
    (a7 : PySem.W.nsIn K mainGlobals "is_pair" = some (some (.ref g7))) (k7 : PySem.W.keepIn K (.ref g7) = true)
    (l7 : K.lookup g7 = some ⟨oc7, od7, .func (PySem.W.fnOf "is_pair" "is_pair" (defArgs sIsPair) (defBody sIsPair) (defScope sIsPair) .none kV7 dc7 pm7 an7 cd7 ct7), sl7⟩) (e7 : PySem.W.codeIn K cd7 "is_pair" = true)
    (a8 : PySem.W.nsIn K mainGlobals "is_one_of" = some (some (.ref g8))) (k8 : PySem.W.keepIn K (.ref g8) = true)
    (l8 : K.lookup g8 = some ⟨oc8, od8, .func (PySem.W.fnOf "is_one_of" "is_one_of" (defArgs sIsOneOf) (defBody sIsOneOf) (defScope sIsOneOf) .none kV8 dc8 pm8 an8 cd8 ct8), sl8⟩) (e8 : PySem.W.codeIn K cd8 "is_one_of" = true)
    (a9 : PySem.W.nsIn K mainGlobals "_are_boxes" = some (some (.ref g9))) (k9 : PySem.W.keepIn K (.ref g9) = true)
    (l9 : K.lookup g9 = some ⟨oc9, od9, .func (PySem.W.fnOf "_are_boxes" "_are_boxes" (defArgs sAreBoxes) (defBody sAreBoxes) (defScope sAreBoxes) .none kV9 dc9 pm9 an9 cd9 ct9), sl9⟩) (e9 : PySem.W.codeIn K cd9 "_are_boxes" = true)
    (a10 : PySem.W.nsIn K mainGlobals "_are_places" = some (some (.ref g10))) (k10 : PySem.W.keepIn K (.ref g10) = true)
    (l10 : K.lookup g10 = some ⟨oc10, od10, .func (PySem.W.fnOf "_are_places" "_are_places" (defArgs sArePlaces) (defBody sArePlaces) (defScope sArePlaces) .none kV10 dc10 pm10 an10 cd10 ct10), sl10⟩) (e10 : PySem.W.codeIn K cd10 "_are_places" = true)
    (a11 : PySem.W.nsIn K mainGlobals "_are_fillings" = some (some (.ref g11))) (k11 : PySem.W.keepIn K (.ref g11) = true)
    (l11 : K.lookup g11 = some ⟨oc11, od11, .func (PySem.W.fnOf "_are_fillings" "_are_fillings" (defArgs sAreFillings) (defBody sAreFillings) (defScope sAreFillings) .none kV11 dc11 pm11 an11 cd11 ct11), sl11⟩) (e11 : PySem.W.codeIn K cd11 "_are_fillings" = true)
    (a12 : PySem.W.nsIn K mainGlobals "_are_moves" = some (some (.ref g12))) (k12 : PySem.W.keepIn K (.ref g12) = true)
    (l12 : K.lookup g12 = some ⟨oc12, od12, .func (PySem.W.fnOf "_are_moves" "_are_moves" (defArgs sAreMoves) (defBody sAreMoves) (defScope sAreMoves) .none kV12 dc12 pm12 an12 cd12 ct12), sl12⟩) (e12 : PySem.W.codeIn K cd12 "_are_moves" = true)
    (a13 : PySem.W.nsIn K mainGlobals "_are_ends" = some (some (.ref g13))) (k13 : PySem.W.keepIn K (.ref g13) = true)
    (l13 : K.lookup g13 = some ⟨oc13, od13, .func (PySem.W.fnOf "_are_ends" "_are_ends" (defArgs sAreEnds) (defBody sAreEnds) (defScope sAreEnds) .none kV13 dc13 pm13 an13 cd13 ct13), sl13⟩) (e13 : PySem.W.codeIn K cd13 "_are_ends" = true)
    (a14 : PySem.W.nsIn K mainGlobals "_kept_moves" = some (some (.ref g14))) (k14 : PySem.W.keepIn K (.ref g14) = true)
    (l14 : K.lookup g14 = some ⟨oc14, od14, .func (PySem.W.fnOf "_kept_moves" "_kept_moves" (defArgs sKept) (defBody sKept) (defScope sKept) .none kV14 dc14 pm14 an14 cd14 ct14), sl14⟩) (e14 : PySem.W.codeIn K cd14 "_kept_moves" = true)
    (a15 : PySem.W.nsIn K mainGlobals "parts_of" = some (some (.ref g15))) (k15 : PySem.W.keepIn K (.ref g15) = true)
    (l15 : K.lookup g15 = some ⟨oc15, od15, .func (PySem.W.fnOf "parts_of" "parts_of" (defArgs sPartsOf) (defBody sPartsOf) (defScope sPartsOf) .none kV15 dc15 pm15 an15 cd15 ct15), sl15⟩) (e15 : PySem.W.codeIn K cd15 "parts_of" = true)
    (a16 : PySem.W.nsIn K mainGlobals "length_of" = some (some (.ref g16))) (k16 : PySem.W.keepIn K (.ref g16) = true)
    (l16 : K.lookup g16 = some ⟨oc16, od16, .func (PySem.W.fnOf "length_of" "length_of" (defArgs sLenOf) (defBody sLenOf) (defScope sLenOf) .none kV16 dc16 pm16 an16 cd16 ct16), sl16⟩) (e16 : PySem.W.codeIn K cd16 "length_of" = true)
    (a17 : PySem.W.nsIn K mainGlobals "_with_beginning" = some (some (.ref g17))) (k17 : PySem.W.keepIn K (.ref g17) = true)
    (l17 : K.lookup g17 = some ⟨oc17, od17, .func (PySem.W.fnOf "_with_beginning" "_with_beginning" (defArgs sWith) (defBody sWith) (defScope sWith) .none kV17 dc17 pm17 an17 cd17 ct17), sl17⟩) (e17 : PySem.W.codeIn K cd17 "_with_beginning" = true)
    (a18 : PySem.W.nsIn K mainGlobals "put_together" = some (some (.ref g18))) (k18 : PySem.W.keepIn K (.ref g18) = true)
    (l18 : K.lookup g18 = some ⟨oc18, od18, .func (PySem.W.fnOf "put_together" "put_together" (defArgs sPut) (defBody sPut) (defScope sPut) .none kV18 dc18 pm18 an18 cd18 ct18), sl18⟩) (e18 : PySem.W.codeIn K cd18 "put_together" = true)
    (a19 : PySem.W.nsIn K mainGlobals "rope_of" = some (some (.ref g19))) (k19 : PySem.W.keepIn K (.ref g19) = true)
    (l19 : K.lookup g19 = some ⟨oc19, od19, .func (PySem.W.fnOf "rope_of" "rope_of" (defArgs sRopeOf) (defBody sRopeOf) (defScope sRopeOf) .none kV19 dc19 pm19 an19 cd19 ct19), sl19⟩) (e19 : PySem.W.codeIn K cd19 "rope_of" = true)
    (a20 : PySem.W.nsIn K mainGlobals "written" = some (some (.ref g20))) (k20 : PySem.W.keepIn K (.ref g20) = true)
    (l20 : K.lookup g20 = some ⟨oc20, od20, .func (PySem.W.fnOf "written" "written" (defArgs sWritten) (defBody sWritten) (defScope sWritten) .none kV20 dc20 pm20 an20 cd20 ct20), sl20⟩) (e20 : PySem.W.codeIn K cd20 "written" = true)
    (a21 : PySem.W.nsIn K mainGlobals "check_text" = some (some (.ref g21))) (k21 : PySem.W.keepIn K (.ref g21) = true)
    (l21 : K.lookup g21 = some ⟨oc21, od21, .func (PySem.W.fnOf "check_text" "check_text" (defArgs sCheck) (defBody sCheck) (defScope sCheck) .none kV21 dc21 pm21 an21 cd21 ct21), sl21⟩) (e21 : PySem.W.codeIn K cd21 "check_text" = true)
    (a22 : PySem.W.nsIn K mainGlobals "filled" = some (some (.ref g22))) (k22 : PySem.W.keepIn K (.ref g22) = true)
    (l22 : K.lookup g22 = some ⟨oc22, od22, .func (PySem.W.fnOf "filled" "filled" (defArgs sFilled) (defBody sFilled) (defScope sFilled) .none kV22 dc22 pm22 an22 cd22 ct22), sl22⟩) (e22 : PySem.W.codeIn K cd22 "filled" = true)
    (a23 : PySem.W.nsIn K mainGlobals "told" = some (some (.ref g23))) (k23 : PySem.W.keepIn K (.ref g23) = true)
    (l23 : K.lookup g23 = some ⟨oc23, od23, .func (PySem.W.fnOf "told" "told" (defArgs sTold) (defBody sTold) (defScope sTold) .none kV23 dc23 pm23 an23 cd23 ct23), sl23⟩) (e23 : PySem.W.codeIn K cd23 "told" = true)
    (a24 : PySem.W.nsIn K mainGlobals "plain" = some (some (.ref g24))) (k24 : PySem.W.keepIn K (.ref g24) = true)
    (l24 : K.lookup g24 = some ⟨oc24, od24, .func (PySem.W.fnOf "plain" "plain" (defArgs sPlain) (defBody sPlain) (defScope sPlain) .none kV24 dc24 pm24 an24 cd24 ct24), sl24⟩) (e24 : PySem.W.codeIn K cd24 "plain" = true)
    (a25 : PySem.W.nsIn K mainGlobals "backward" = some (some (.ref g25))) (k25 : PySem.W.keepIn K (.ref g25) = true)
    (l25 : K.lookup g25 = some ⟨oc25, od25, .func (PySem.W.fnOf "backward" "backward" (defArgs sBackward) (defBody sBackward) (defScope sBackward) .none kV25 dc25 pm25 an25 cd25 ct25), sl25⟩) (e25 : PySem.W.codeIn K cd25 "backward" = true)
    (a26 : PySem.W.nsIn K mainGlobals "exchanging" = some (some (.ref g26))) (k26 : PySem.W.keepIn K (.ref g26) = true)
    (l26 : K.lookup g26 = some ⟨oc26, od26, .func (PySem.W.fnOf "exchanging" "exchanging" (defArgs sExch) (defBody sExch) (defScope sExch) .none kV26 dc26 pm26 an26 cd26 ct26), sl26⟩) (e26 : PySem.W.codeIn K cd26 "exchanging" = true)
    (a27 : PySem.W.nsIn K mainGlobals "sorting" = some (some (.ref g27))) (k27 : PySem.W.keepIn K (.ref g27) = true)
    (l27 : K.lookup g27 = some ⟨oc27, od27, .func (PySem.W.fnOf "sorting" "sorting" (defArgs sSorting) (defBody sSorting) (defScope sSorting) .none kV27 dc27 pm27 an27 cd27 ct27), sl27⟩) (e27 : PySem.W.codeIn K cd27 "sorting" = true)
    (a28 : PySem.W.nsIn K mainGlobals "halving" = some (some (.ref g28))) (k28 : PySem.W.keepIn K (.ref g28) = true)
    (l28 : K.lookup g28 = some ⟨oc28, od28, .func (PySem.W.fnOf "halving" "halving" (defArgs sHalving) (defBody sHalving) (defScope sHalving) .none kV28 dc28 pm28 an28 cd28 ct28), sl28⟩) (e28 : PySem.W.codeIn K cd28 "halving" = true)
    (a29 : PySem.W.nsIn K mainGlobals "late" = some (some (.ref g29))) (k29 : PySem.W.keepIn K (.ref g29) = true)
    (l29 : K.lookup g29 = some ⟨oc29, od29, .func (PySem.W.fnOf "late" "late" (defArgs sLate) (defBody sLate) (defScope sLate) .none kV29 dc29 pm29 an29 cd29 ct29), sl29⟩) (e29 : PySem.W.codeIn K cd29 "late" = true)
    (a30 : PySem.W.nsIn K mainGlobals "_law_source" = some (some (.ref g30))) (k30 : PySem.W.keepIn K (.ref g30) = true)
    (l30 : K.lookup g30 = some ⟨oc30, od30, .func (PySem.W.fnOf "_law_source" "_law_source" (defArgs sSource) (defBody sSource) (defScope sSource) .none kV30 dc30 pm30 an30 cd30 ct30), sl30⟩) (e30 : PySem.W.codeIn K cd30 "_law_source" = true)
    (a31 : PySem.W.nsIn K mainGlobals "_law_draw" = some (some (.ref g31))) (k31 : PySem.W.keepIn K (.ref g31) = true)
    (l31 : K.lookup g31 = some ⟨oc31, od31, .func (PySem.W.fnOf "_law_draw" "_law_draw" (defArgs sDraw) (defBody sDraw) (defScope sDraw) .none kV31 dc31 pm31 an31 cd31 ct31), sl31⟩) (e31 : PySem.W.codeIn K cd31 "_law_draw" = true)
    (a32 : PySem.W.nsIn K mainGlobals "_law_pick" = some (some (.ref g32))) (k32 : PySem.W.keepIn K (.ref g32) = true)
    (l32 : K.lookup g32 = some ⟨oc32, od32, .func (PySem.W.fnOf "_law_pick" "_law_pick" (defArgs sPick) (defBody sPick) (defScope sPick) .none kV32 dc32 pm32 an32 cd32 ct32), sl32⟩) (e32 : PySem.W.codeIn K cd32 "_law_pick" = true)
    (a33 : PySem.W.nsIn K mainGlobals "_law_order" = some (some (.ref g33))) (k33 : PySem.W.keepIn K (.ref g33) = true)
    (l33 : K.lookup g33 = some ⟨oc33, od33, .func (PySem.W.fnOf "_law_order" "_law_order" (defArgs sOrder) (defBody sOrder) (defScope sOrder) .none kV33 dc33 pm33 an33 cd33 ct33), sl33⟩) (e33 : PySem.W.codeIn K cd33 "_law_order" = true)
    (a34 : PySem.W.nsIn K mainGlobals "_law_signs" = some (some (.ref g34))) (k34 : PySem.W.keepIn K (.ref g34) = true)
    (l34 : K.lookup g34 = some ⟨oc34, od34, .func (PySem.W.fnOf "_law_signs" "_law_signs" (defArgs sSigns) (defBody sSigns) (defScope sSigns) .none kV34 dc34 pm34 an34 cd34 ct34), sl34⟩) (e34 : PySem.W.codeIn K cd34 "_law_signs" = true)
    (a35 : PySem.W.nsIn K mainGlobals "_law_text" = some (some (.ref g35))) (k35 : PySem.W.keepIn K (.ref g35) = true)
    (l35 : K.lookup g35 = some ⟨oc35, od35, .func (PySem.W.fnOf "_law_text" "_law_text" (defArgs sLText) (defBody sLText) (defScope sLText) .none kV35 dc35 pm35 an35 cd35 ct35), sl35⟩) (e35 : PySem.W.codeIn K cd35 "_law_text" = true)
    (a36 : PySem.W.nsIn K mainGlobals "_law_moves" = some (some (.ref g36))) (k36 : PySem.W.keepIn K (.ref g36) = true)
    (l36 : K.lookup g36 = some ⟨oc36, od36, .func (PySem.W.fnOf "_law_moves" "_law_moves" (defArgs sLMoves) (defBody sLMoves) (defScope sLMoves) .none kV36 dc36 pm36 an36 cd36 ct36), sl36⟩) (e36 : PySem.W.codeIn K cd36 "_law_moves" = true)
    (a37 : PySem.W.nsIn K mainGlobals "_law_programs" = some (some (.ref g37))) (k37 : PySem.W.keepIn K (.ref g37) = true)
    (l37 : K.lookup g37 = some ⟨oc37, od37, .func (PySem.W.fnOf "_law_programs" "_law_programs" (defArgs sLPrograms) (defBody sLPrograms) (defScope sLPrograms) .none kV37 dc37 pm37 an37 (.ref cP) ct37), sl37⟩) (e37 : PySem.W.codeIn K (.ref cP) "_law_programs" = true)
    (a38 : PySem.W.nsIn K mainGlobals "law" = some (some (.ref g38))) (k38 : PySem.W.keepIn K (.ref g38) = true)
    (l38 : K.lookup g38 = some ⟨oc38, od38, .func (PySem.W.fnOf "law" "law" (defArgs sLaw) (defBody sLaw) (defScope sLaw) .none kV38 dc38 pm38 an38 cd38 ct38), sl38⟩) (e38 : PySem.W.codeIn K cd38 "law" = true)
    (aC : PySem.W.nsIn K mainGlobals "Program" = some (some (.ref C))) (pgC : PySem.W.plainGet K C Str.empty = true) (hdC : PySem.W.hasDictIn K C = true) (poC : PySem.W.plainOver K C = true) (saC : PySem.W.findIn K (.ref C) "__setattr__" = some (some (.builtin "object.__setattr__"))) (mkC : PySem.W.makesIn K C = true) (kcC : PySem.W.keepIn K (.ref C) = true)
    (aCinit : PySem.W.findIn K (.ref C) "__init__" = some (some (.ref gCinit))) (iCinit : PySem.W.isFn K (.ref gCinit) = true) (kCinit : PySem.W.keepIn K (.ref gCinit) = true)
    (lCinit : K.lookup gCinit = some ⟨ocCinit, odCinit, .func (PySem.W.fnOf "__init__" "Program.__init__" (defArgs sInit) (defBody sInit) (defScope sInit) .none kVCinit dcCinit pmCinit anCinit cdCinit ctCinit), slCinit⟩) (eCinit : PySem.W.codeIn K cdCinit "Program.__init__" = true)
    (aCmove : PySem.W.findIn K (.ref C) "move" = some (some (.ref gCmove))) (iCmove : PySem.W.isFn K (.ref gCmove) = true) (kCmove : PySem.W.keepIn K (.ref gCmove) = true)
    (lCmove : K.lookup gCmove = some ⟨ocCmove, odCmove, .func (PySem.W.fnOf "move" "Program.move" (defArgs sMove) (defBody sMove) (defScope sMove) .none kVCmove dcCmove pmCmove anCmove cdCmove ctCmove), slCmove⟩) (eCmove : PySem.W.codeIn K cdCmove "Program.move" = true)
    (aCend : PySem.W.findIn K (.ref C) "end" = some (some (.ref gCend))) (iCend : PySem.W.isFn K (.ref gCend) = true) (kCend : PySem.W.keepIn K (.ref gCend) = true)
    (lCend : K.lookup gCend = some ⟨ocCend, odCend, .func (PySem.W.fnOf "end" "Program.end" (defArgs sEnd) (defBody sEnd) (defScope sEnd) .none kVCend dcCend pmCend anCend cdCend ctCend), slCend⟩) (eCend : PySem.W.codeIn K cdCend "Program.end" = true)
    (aCeq : PySem.W.findIn K (.ref C) "__eq__" = some (some (.ref gCeq))) (iCeq : PySem.W.isFn K (.ref gCeq) = true) (kCeq : PySem.W.keepIn K (.ref gCeq) = true)
    (lCeq : K.lookup gCeq = some ⟨ocCeq, odCeq, .func (PySem.W.fnOf "__eq__" "Program.__eq__" (defArgs sEq) (defBody sEq) (defScope sEq) .none kVCeq dcCeq pmCeq anCeq cdCeq ctCeq), slCeq⟩) (eCeq : PySem.W.codeIn K cdCeq "Program.__eq__" = true)
    (aPletters : PySem.W.findIn K (.ref C) "letters" = some (some (.ref pPletters))) (sPletters : PySem.W.specialIn K (.ref pPletters) "__get__" = some (some (.builtin "property.__get__"))) (tPletters : PySem.W.takesIn K (.ref pPletters) = some true) (rPletters : PySem.W.recIn K pPletters "property" = some (.ref gPletters :: rrPletters)) (kPletters : PySem.W.keepIn K (.ref gPletters) = true)
    (lPletters : K.lookup gPletters = some ⟨ocPletters, odPletters, .func (PySem.W.fnOf "letters" "Program.letters" (defArgs sLettersP) (defBody sLettersP) (defScope sLettersP) .none kVPletters dcPletters pmPletters anPletters cdPletters ctPletters), slPletters⟩) (ePletters : PySem.W.codeIn K cdPletters "Program.letters" = true)
    (aPboxes : PySem.W.findIn K (.ref C) "boxes" = some (some (.ref pPboxes))) (sPboxes : PySem.W.specialIn K (.ref pPboxes) "__get__" = some (some (.builtin "property.__get__"))) (tPboxes : PySem.W.takesIn K (.ref pPboxes) = some true) (rPboxes : PySem.W.recIn K pPboxes "property" = some (.ref gPboxes :: rrPboxes)) (kPboxes : PySem.W.keepIn K (.ref gPboxes) = true)
    (lPboxes : K.lookup gPboxes = some ⟨ocPboxes, odPboxes, .func (PySem.W.fnOf "boxes" "Program.boxes" (defArgs sBoxesP) (defBody sBoxesP) (defScope sBoxesP) .none kVPboxes dcPboxes pmPboxes anPboxes cdPboxes ctPboxes), slPboxes⟩) (ePboxes : PySem.W.codeIn K cdPboxes "Program.boxes" = true)
    (aPplaces : PySem.W.findIn K (.ref C) "places" = some (some (.ref pPplaces))) (sPplaces : PySem.W.specialIn K (.ref pPplaces) "__get__" = some (some (.builtin "property.__get__"))) (tPplaces : PySem.W.takesIn K (.ref pPplaces) = some true) (rPplaces : PySem.W.recIn K pPplaces "property" = some (.ref gPplaces :: rrPplaces)) (kPplaces : PySem.W.keepIn K (.ref gPplaces) = true)
    (lPplaces : K.lookup gPplaces = some ⟨ocPplaces, odPplaces, .func (PySem.W.fnOf "places" "Program.places" (defArgs sPlacesP) (defBody sPlacesP) (defScope sPlacesP) .none kVPplaces dcPplaces pmPplaces anPplaces cdPplaces ctPplaces), slPplaces⟩) (ePplaces : PySem.W.codeIn K cdPplaces "Program.places" = true)
    (is1 : PySem.W.findIn K (.ref C) "__class__" = some (some (.builtin "object.__class__"))) (is2 : PySem.W.specialIn K (.builtin "object.__class__") "__get__" = some (some (.builtin "getset_descriptor.__get__"))) (is3 : PySem.W.takesIn K (.builtin "object.__class__") = some true) (is4 : PySem.W.mroIn K C (.type "object") = some true)
    (n_letters : PySem.W.findIn K (.ref C) "_letters" = some none)
    (n_boxes : PySem.W.findIn K (.ref C) "_boxes" = some none)
    (n_places : PySem.W.findIn K (.ref C) "_places" = some none)
    (n_moves : PySem.W.findIn K (.ref C) "_moves" = some none)
    (n_ends : PySem.W.findIn K (.ref C) "_ends" = some none)
    (aS : PySem.W.nsIn K mainGlobals "Steps" = some (some (.ref CS))) (pgS : PySem.W.plainGet K CS Str.empty = true) (hdS : PySem.W.hasDictIn K CS = true) (poS : PySem.W.plainOver K CS = true) (saS : PySem.W.findIn K (.ref CS) "__setattr__" = some (some (.builtin "object.__setattr__"))) (mkS : PySem.W.makesIn K CS = true) (kcS : PySem.W.keepIn K (.ref CS) = true)
    (aSinit : PySem.W.findIn K (.ref CS) "__init__" = some (some (.ref gSinit))) (iSinit : PySem.W.isFn K (.ref gSinit) = true) (kSinit : PySem.W.keepIn K (.ref gSinit) = true)
    (lSinit : K.lookup gSinit = some ⟨ocSinit, odSinit, .func (PySem.W.fnOf "__init__" "Steps.__init__" (defArgs sStInit) (defBody sStInit) (defScope sStInit) .none kVSinit dcSinit pmSinit anSinit cdSinit ctSinit), slSinit⟩) (eSinit : PySem.W.codeIn K cdSinit "Steps.__init__" = true)
    (aSmove : PySem.W.findIn K (.ref CS) "move" = some (some (.ref gSmove))) (iSmove : PySem.W.isFn K (.ref gSmove) = true) (kSmove : PySem.W.keepIn K (.ref gSmove) = true)
    (lSmove : K.lookup gSmove = some ⟨ocSmove, odSmove, .func (PySem.W.fnOf "move" "Steps.move" (defArgs sStMove) (defBody sStMove) (defScope sStMove) .none kVSmove dcSmove pmSmove anSmove cdSmove ctSmove), slSmove⟩) (eSmove : PySem.W.codeIn K cdSmove "Steps.move" = true)
    (aSmove_in_parts : PySem.W.findIn K (.ref CS) "_move_in_parts" = some (some (.ref gSmove_in_parts))) (iSmove_in_parts : PySem.W.isFn K (.ref gSmove_in_parts) = true) (kSmove_in_parts : PySem.W.keepIn K (.ref gSmove_in_parts) = true)
    (lSmove_in_parts : K.lookup gSmove_in_parts = some ⟨ocSmove_in_parts, odSmove_in_parts, .func (PySem.W.fnOf "_move_in_parts" "Steps._move_in_parts" (defArgs sStMip) (defBody sStMip) (defScope sStMip) .none kVSmove_in_parts dcSmove_in_parts pmSmove_in_parts anSmove_in_parts cdSmove_in_parts ctSmove_in_parts), slSmove_in_parts⟩) (eSmove_in_parts : PySem.W.codeIn K cdSmove_in_parts "Steps._move_in_parts" = true)
    (aSfirst : PySem.W.findIn K (.ref CS) "first" = some (some (.ref gSfirst))) (iSfirst : PySem.W.isFn K (.ref gSfirst) = true) (kSfirst : PySem.W.keepIn K (.ref gSfirst) = true)
    (lSfirst : K.lookup gSfirst = some ⟨ocSfirst, odSfirst, .func (PySem.W.fnOf "first" "Steps.first" (defArgs sStFirst) (defBody sStFirst) (defScope sStFirst) .none kVSfirst dcSfirst pmSfirst anSfirst cdSfirst ctSfirst), slSfirst⟩) (eSfirst : PySem.W.codeIn K cdSfirst "Steps.first" = true)
    (aSbehind : PySem.W.findIn K (.ref CS) "behind" = some (some (.ref gSbehind))) (iSbehind : PySem.W.isFn K (.ref gSbehind) = true) (kSbehind : PySem.W.keepIn K (.ref gSbehind) = true)
    (lSbehind : K.lookup gSbehind = some ⟨ocSbehind, odSbehind, .func (PySem.W.fnOf "behind" "Steps.behind" (defArgs sStBehind) (defBody sStBehind) (defScope sStBehind) .none kVSbehind dcSbehind pmSbehind anSbehind cdSbehind ctSbehind), slSbehind⟩) (eSbehind : PySem.W.codeIn K cdSbehind "Steps.behind" = true)
    (aSended : PySem.W.findIn K (.ref CS) "ended" = some (some (.ref gSended))) (iSended : PySem.W.isFn K (.ref gSended) = true) (kSended : PySem.W.keepIn K (.ref gSended) = true)
    (lSended : K.lookup gSended = some ⟨ocSended, odSended, .func (PySem.W.fnOf "ended" "Steps.ended" (defArgs sStEnded) (defBody sStEnded) (defScope sStEnded) .none kVSended dcSended pmSended anSended cdSended ctSended), slSended⟩) (eSended : PySem.W.codeIn K cdSended "Steps.ended" = true)
    (aStold : PySem.W.findIn K (.ref CS) "told" = some (some (.ref gStold))) (iStold : PySem.W.isFn K (.ref gStold) = true) (kStold : PySem.W.keepIn K (.ref gStold) = true)
    (lStold : K.lookup gStold = some ⟨ocStold, odStold, .func (PySem.W.fnOf "told" "Steps.told" (defArgs sStTold) (defBody sStTold) (defScope sStTold) .none kVStold dcStold pmStold anStold cdStold ctStold), slStold⟩) (eStold : PySem.W.codeIn K cdStold "Steps.told" = true)
    (nS_program : PySem.W.findIn K (.ref CS) "_program" = some none)
    (nS_boxes : PySem.W.findIn K (.ref CS) "_boxes" = some none)
    (nS_moves : PySem.W.findIn K (.ref CS) "_moves" = some none)
    (aR : PySem.W.nsIn K mainGlobals "Rope" = some (some (.ref CR))) (pgR : PySem.W.plainGet K CR Str.empty = true) (hdR : PySem.W.hasDictIn K CR = true) (poR : PySem.W.plainOver K CR = true) (saR : PySem.W.findIn K (.ref CR) "__setattr__" = some (some (.builtin "object.__setattr__"))) (mkR : PySem.W.makesIn K CR = true) (kcR : PySem.W.keepIn K (.ref CR) = true)
    (aRinit : PySem.W.findIn K (.ref CR) "__init__" = some (some (.ref gRinit))) (iRinit : PySem.W.isFn K (.ref gRinit) = true) (kRinit : PySem.W.keepIn K (.ref gRinit) = true)
    (lRinit : K.lookup gRinit = some ⟨ocRinit, odRinit, .func (PySem.W.fnOf "__init__" "Rope.__init__" (defArgs sRpInit) (defBody sRpInit) (defScope sRpInit) .none kVRinit dcRinit pmRinit anRinit cdRinit ctRinit), slRinit⟩) (eRinit : PySem.W.codeIn K cdRinit "Rope.__init__" = true)
    (aRpieces : PySem.W.findIn K (.ref CR) "pieces" = some (some (.ref gRpieces))) (iRpieces : PySem.W.isFn K (.ref gRpieces) = true) (kRpieces : PySem.W.keepIn K (.ref gRpieces) = true)
    (lRpieces : K.lookup gRpieces = some ⟨ocRpieces, odRpieces, .func (PySem.W.fnOf "pieces" "Rope.pieces" (defArgs sRpPieces) (defBody sRpPieces) (defScope sRpPieces) .none kVRpieces dcRpieces pmRpieces anRpieces cdRpieces ctRpieces), slRpieces⟩) (eRpieces : PySem.W.codeIn K cdRpieces "Rope.pieces" = true)
    (nR_left : PySem.W.findIn K (.ref CR) "left" = some none)
    (nR_middle : PySem.W.findIn K (.ref CR) "middle" = some none)
    (nR_right : PySem.W.findIn K (.ref CR) "right" = some none)
    (nR_length : PySem.W.findIn K (.ref CR) "length" = some none)
    (rs1 : PySem.W.findIn K (.ref CR) "__class__" = some (some (.builtin "object.__class__"))) (rs4 : PySem.W.mroIn K CR (.type "object") = some true) (rs5 : PySem.W.kitOne K (.ref CR) (.type "str") = some false) (rs6 : PySem.W.findIn K (.ref CR) "__eq__" = some (some (.builtin "object.__eq__")))
    (hdP : PySem.W.codeHdIn K cP TP = true) (nlP : K.lookup TP = none)
    (z_all : PySem.W.nsIn K mainGlobals "all" = some none)
    (z_dict : PySem.W.nsIn K mainGlobals "dict" = some none)
    (z_int : PySem.W.nsIn K mainGlobals "int" = some none)
    (z_isinstance : PySem.W.nsIn K mainGlobals "isinstance" = some none)
    (z_len : PySem.W.nsIn K mainGlobals "len" = some none)
    (z_list : PySem.W.nsIn K mainGlobals "list" = some none)
    (z_range : PySem.W.nsIn K mainGlobals "range" = some none)
    (z_set : PySem.W.nsIn K mainGlobals "set" = some none)
    (z_sorted : PySem.W.nsIn K mainGlobals "sorted" = some none)
    (z_str : PySem.W.nsIn K mainGlobals "str" = some none)
    (z_tuple : PySem.W.nsIn K mainGlobals "tuple" = some none)
    (v_BOXES : PySem.W.nsIn K mainGlobals "BOXES" = some (some (.str (Str.ofString "ABCDEFGHIJKLMNOPQRSTUVWXYZ") tk_BOXES)))
    (v_LONGEST_NAME : PySem.W.nsIn K mainGlobals "LONGEST_NAME" = some (some (.int 8 tk_LONGEST_NAME)))
    (v_MOST_BOXES : PySem.W.nsIn K mainGlobals "MOST_BOXES" = some (some (.int 6 tk_MOST_BOXES)))
    (v_MOST_LETTERS : PySem.W.nsIn K mainGlobals "MOST_LETTERS" = some (some (.int 5 tk_MOST_LETTERS)))
    (v_MOST_PLACES : PySem.W.nsIn K mainGlobals "MOST_PLACES" = some (some (.int 50 tk_MOST_PLACES)))
    (v_SHORT : PySem.W.nsIn K mainGlobals "SHORT" = some (some (.int 500 tk_SHORT)))
    : LamX.LawAtS lw w K CX0 9 63 "_law_script" mg fa h := by
  have e := hfa.symm.trans (PySem.W.mg_of X G a38)
  cases e
  refine ⟨PySem.W.fnOf "law" "law" (defArgs sLaw) (defBody sLaw) (defScope sLaw) .none kV38 dc38 pm38 an38 cd38 ct38, [(cP, TP)], spLaw K TP, fun p hp => by rw [List.mem_singleton.mp hp]; exact ht _ (List.mem_singleton.mpr rfl), fun p hp => by rw [List.mem_singleton.mp hp]; exact nlP, fun p hp => by rw [List.mem_singleton.mp hp]; exact PySem.W.codeHd_of_K X hdP, fun s v => .of_eq rfl, fun H a ns _ _ hT hS => ⟨a, ns, rfl, hS, hT _ (List.mem_singleton.mpr rfl), fun _ => rfl⟩, fun base _ _ hTB => ?_⟩
  have TB : LamX.TabB base mg cP TP := hTB _ (List.mem_singleton.mpr rfl)
  have T : PrTxt K mg C := ⟨⟨pgC, hdC, poC, saC⟩, n_letters, n_boxes, n_places, n_moves, n_ends, PySem.W.mg_of X G aC⟩
  have IS : PrIs K C := ⟨is1, is2, is3, is4⟩
  have m_all := PySem.W.mg_none_of X G z_all
  have m_dict := PySem.W.mg_none_of X G z_dict
  have m_int := PySem.W.mg_none_of X G z_int
  have m_isinstance := PySem.W.mg_none_of X G z_isinstance
  have m_len := PySem.W.mg_none_of X G z_len
  have m_list := PySem.W.mg_none_of X G z_list
  have m_range := PySem.W.mg_none_of X G z_range
  have m_set := PySem.W.mg_none_of X G z_set
  have m_sorted := PySem.W.mg_none_of X G z_sorted
  have m_str := PySem.W.mg_none_of X G z_str
  have m_tuple := PySem.W.mg_none_of X G z_tuple
  have c_BOXES := PySem.W.mg_of X G v_BOXES
  have c_LONGEST_NAME := PySem.W.mg_of X G v_LONGEST_NAME
  have c_MOST_BOXES := PySem.W.mg_of X G v_MOST_BOXES
  have c_MOST_LETTERS := PySem.W.mg_of X G v_MOST_LETTERS
  have c_MOST_PLACES := PySem.W.mg_of X G v_MOST_PLACES
  have c_SHORT := PySem.W.mg_of X G v_SHORT
  have F0 := fun_mk (st := sIsText) l0 e0 k0
  have D_is_text : Df lw.prog w K mg base 1 "is_text" ["thing"] (spIsText K) := ⟨⟨_, _, ok_isText (k := 0) F0 m_isinstance m_str, F0.binds (ps := ["thing"]) (fun _ _ _ _ _ _ us hl => match us, hl with | [_], _ => rfl), k0, PySem.W.mg_of X G a0⟩⟩
  have F1 := fun_mk (st := sIsName) l1 e1 k1
  have D_is_name : Df lw.prog w K mg base 2 "is_name" ["thing"] (spIsName K) := ⟨⟨_, _, ok_isName (k := 0) F1 D_is_text m_len ⟨_, c_LONGEST_NAME⟩, F1.binds (ps := ["thing"]) (fun _ _ _ _ _ _ us hl => match us, hl with | [_], _ => rfl), k1, PySem.W.mg_of X G a1⟩⟩
  have F2 := fun_mk (st := sIsFilling) l2 e2 k2
  have D_is_filling : Df lw.prog w K mg base 2 "is_filling" ["thing", "boxes"] (spIsFilling K) := ⟨⟨_, _, ok_isFilling (k := 0) F2 D_is_text m_isinstance m_str, F2.binds (ps := ["thing", "boxes"]) (fun _ _ _ _ _ _ us hl => match us, hl with | [_, _], _ => rfl), k2, PySem.W.mg_of X G a2⟩⟩
  have F3 := fun_mk (st := sAreDiff) l3 e3 k3
  have D_are_different : Df lw.prog w K mg base 1 "are_different" ["strings"] (spAreDiff K) := ⟨⟨_, _, ok_areDiff (k := 0) F3 m_len m_set, F3.binds (ps := ["strings"]) (fun _ _ _ _ _ _ us hl => match us, hl with | [_], _ => rfl), k3, PySem.W.mg_of X G a3⟩⟩
  have F4 := fun_mk (st := sInOrder) l4 e4 k4
  have D_in_order : Df lw.prog w K mg base 1 "in_order" ["signs"] (spInOrder) := ⟨⟨_, _, ok_inOrder (k := 0) F4 m_sorted, F4.binds (ps := ["signs"]) (fun _ _ _ _ _ _ us hl => match us, hl with | [_], _ => rfl), k4, PySem.W.mg_of X G a4⟩⟩
  have F5 := fun_mk (st := sAreLetters) l5 e5 k5
  have D_are_letters : Df lw.prog w K mg base 2 "are_letters" ["thing", "most"] (spAreLetters K) := ⟨⟨_, _, ok_areLetters (k := 0) F5 D_is_text D_are_different m_len, F5.binds (ps := ["thing", "most"]) (fun _ _ _ _ _ _ us hl => match us, hl with | [_, _], _ => rfl), k5, PySem.W.mg_of X G a5⟩⟩
  have F6 := fun_mk (st := sAreNames) l6 e6 k6
  have D_are_names : Df lw.prog w K mg base 3 "are_names" ["thing"] (spAreNames) := ⟨⟨_, _, ok_areNames (k := 0) F6 D_is_name D_are_different m_isinstance m_list m_tuple m_all m_len, F6.binds (ps := ["thing"]) (fun _ _ _ _ _ _ us hl => match us, hl with | [_], _ => rfl), k6, PySem.W.mg_of X G a6⟩⟩
  have F7 := fun_mk (st := sIsPair) l7 e7 k7
  have D_is_pair : Df lw.prog w K mg base 1 "is_pair" ["thing"] (spIsPair K) := ⟨⟨_, _, ok_isPair (k := 0) F7 m_isinstance m_list m_tuple m_len, F7.binds (ps := ["thing"]) (fun _ _ _ _ _ _ us hl => match us, hl with | [_], _ => rfl), k7, PySem.W.mg_of X G a7⟩⟩
  have F8 := fun_mk (st := sIsOneOf) l8 e8 k8
  have D_is_one_of : Df lw.prog w K mg base 1 "is_one_of" ["thing", "strings"] (spIsOneOf K) := ⟨⟨_, _, ok_isOneOf (k := 0) F8 m_isinstance m_str, F8.binds (ps := ["thing", "strings"]) (fun _ _ _ _ _ _ us hl => match us, hl with | [_, _], _ => rfl), k8, PySem.W.mg_of X G a8⟩⟩
  have F9 := fun_mk (st := sAreBoxes) l9 e9 k9
  have D__are_boxes : Df lw.prog w K mg base 2 "_are_boxes" ["thing"] (spAreBoxes K) := ⟨⟨_, _, ok_areBoxes (k := 0) F9 D_are_different m_isinstance m_str m_all m_len ⟨_, c_MOST_BOXES⟩ ⟨_, c_BOXES⟩, F9.binds (ps := ["thing"]) (fun _ _ _ _ _ _ us hl => match us, hl with | [_], _ => rfl), k9, PySem.W.mg_of X G a9⟩⟩
  have F10 := fun_mk (st := sArePlaces) l10 e10 k10
  have D__are_places : Df lw.prog w K mg base 4 "_are_places" ["thing"] (spArePlaces) := ⟨⟨_, _, ok_arePlaces (k := 2) F10 D_are_names m_len ⟨_, c_MOST_PLACES⟩, F10.binds (ps := ["thing"]) (fun _ _ _ _ _ _ us hl => match us, hl with | [_], _ => rfl), k10, PySem.W.mg_of X G a10⟩⟩
  have F11 := fun_mk (st := sAreFillings) l11 e11 k11
  have D__are_fillings : Df lw.prog w K mg base 3 "_are_fillings" ["thing", "boxes"] (spAreFillings) := ⟨⟨_, _, ok_areFillings (k := 0) F11 D_is_one_of D_is_filling m_isinstance m_dict m_list m_str m_all, F11.binds (ps := ["thing", "boxes"]) (fun _ _ _ _ _ _ us hl => match us, hl with | [_, _], _ => rfl), k11, PySem.W.mg_of X G a11⟩⟩
  have F12 := fun_mk (st := sAreMoves) l12 e12 k12
  have D__are_moves : Df lw.prog w K mg base 4 "_are_moves" ["thing", "letters", "boxes", "places"] (spAreMoves) := ⟨⟨_, _, ok_areMoves (k := 0) F12 D_is_pair D_is_one_of D__are_fillings m_isinstance m_dict m_list, F12.binds (ps := ["thing", "letters", "boxes", "places"]) (fun _ _ _ _ _ _ us hl => match us, hl with | [_, _, _, _], _ => rfl), k12, PySem.W.mg_of X G a12⟩⟩
  have F13 := fun_mk (st := sAreEnds) l13 e13 k13
  have D__are_ends : Df lw.prog w K mg base 3 "_are_ends" ["thing", "boxes", "places"] (spAreEnds) := ⟨⟨_, _, ok_areEnds (k := 0) F13 D_is_one_of D_is_filling m_isinstance m_dict, F13.binds (ps := ["thing", "boxes", "places"]) (fun _ _ _ _ _ _ us hl => match us, hl with | [_, _, _], _ => rfl), k13, PySem.W.mg_of X G a13⟩⟩
  have F14 := fun_mk (st := sKept) l14 e14 k14
  have D__kept_moves : Df lw.prog w K mg base 1 "_kept_moves" ["moves"] (spKept) := ⟨⟨_, _, ok_kept (k := 0) F14 m_sorted, F14.binds (ps := ["moves"]) (fun _ _ _ _ _ _ us hl => match us, hl with | [_], _ => rfl), k14, PySem.W.mg_of X G a14⟩⟩
  have FPletters := fun_mk (st := sLettersP) lPletters ePletters kPletters
  have R_letters : Prp lw.prog w K mg base C 1 "letters" (getSp C "_letters") := ⟨⟨pPletters, _, _, ⟨aPletters, sPletters, tPletters, ⟨_, rPletters⟩⟩, ok_letters (k := 0) FPletters T, FPletters.binds (ps := ["self"]) (fun _ _ _ _ _ _ us hl => match us, hl with | [_], _ => rfl)⟩⟩
  have FPboxes := fun_mk (st := sBoxesP) lPboxes ePboxes kPboxes
  have R_boxes : Prp lw.prog w K mg base C 1 "boxes" (getSp C "_boxes") := ⟨⟨pPboxes, _, _, ⟨aPboxes, sPboxes, tPboxes, ⟨_, rPboxes⟩⟩, ok_boxes (k := 0) FPboxes T, FPboxes.binds (ps := ["self"]) (fun _ _ _ _ _ _ us hl => match us, hl with | [_], _ => rfl)⟩⟩
  have FPplaces := fun_mk (st := sPlacesP) lPplaces ePplaces kPplaces
  have R_places : Prp lw.prog w K mg base C 1 "places" (getSp C "_places") := ⟨⟨pPplaces, _, _, ⟨aPplaces, sPplaces, tPplaces, ⟨_, rPplaces⟩⟩, ok_places (k := 0) FPplaces T, FPplaces.binds (ps := ["self"]) (fun _ _ _ _ _ _ us hl => match us, hl with | [_], _ => rfl)⟩⟩
  have FCinit := fun_mk (st := sInit) lCinit eCinit kCinit
  have FCmove := fun_mk (st := sMove) lCmove eCmove kCmove
  have FCend := fun_mk (st := sEnd) lCend eCend kCend
  have FCeq := fun_mk (st := sEq) lCeq eCeq kCeq
  have M_move : Mth lw.prog w K mg base C 1 "move" ["place", "letter"] (spMove C) := ⟨⟨_, _, ⟨aCmove, iCmove, kCmove⟩, ok_move (k := 0) FCmove T m_dict, FCmove.binds (ps := ["self", "place", "letter"]) (fun _ _ _ _ _ _ us hl => match us, hl with | [_, _, _], _ => rfl)⟩⟩
  have M_end : Mth lw.prog w K mg base C 1 "end" ["place"] (spEnd C) := ⟨⟨_, _, ⟨aCend, iCend, kCend⟩, ok_end (k := 0) FCend T, FCend.binds (ps := ["self", "place"]) (fun _ _ _ _ _ _ us hl => match us, hl with | [_, _], _ => rfl)⟩⟩
  have MK : Mkr lw.prog w K mg base C 5 := ⟨⟨_, _, ⟨mkC, aCinit, iCinit, kcC⟩, ok_init (k := 0) FCinit T D_are_letters ⟨_, c_MOST_LETTERS⟩ D__are_boxes D__are_places D__are_moves D__are_ends D_in_order D__kept_moves m_tuple, FCinit.binds (ps := psInit) (fun _ _ _ _ _ _ us hl => match us, hl with | [_, _, _, _, _, _], _ => rfl)⟩⟩
  have F15 := fun_mk (st := sPartsOf) l15 e15 k15
  have D_parts_of : Df lw.prog w K mg base 1 "parts_of" ["filling", "boxes"] (spPartsOf) := ⟨⟨_, _, ok_partsOf (k := 0) F15 m_sorted m_len, F15.binds (ps := ["filling", "boxes"]) (fun _ _ _ _ _ _ us hl => match us, hl with | [_, _], _ => rfl), k15, PySem.W.mg_of X G a15⟩⟩
  have RT : RpTxt K mg CR := ⟨⟨pgR, hdR, poR, saR⟩, nR_left, nR_middle, nR_right, nR_length, PySem.W.mg_of X G aR, rs1, is2, is3, rs4, rs5, rs6⟩
  have FRinit := fun_mk (st := sRpInit) lRinit eRinit kRinit
  have FRpieces := fun_mk (st := sRpPieces) lRpieces eRpieces kRpieces
  have MR : MkRp lw.prog w K mg base CR 1 := ⟨⟨_, _, ⟨mkR, aRinit, iRinit, kcR⟩, ok_rpInit (k := 0) FRinit RT, FRinit.binds (ps := psRp) (fun _ _ _ _ _ _ us hl => match us, hl with | [_, _, _, _, _], _ => rfl)⟩⟩
  have M_rpieces : Mth lw.prog w K mg base CR 1 "pieces" [] (spRpPieces CR) := ⟨⟨_, _, ⟨aRpieces, iRpieces, kRpieces⟩, ok_rpPieces (k := 0) FRpieces RT, FRpieces.binds (ps := ["self"]) (fun _ _ _ _ _ _ us hl => match us, hl with | [_], _ => rfl)⟩⟩
  have F16 := fun_mk (st := sLenOf) l16 e16 k16
  have D_length_of : Df lw.prog w K mg base 1 "length_of" ["rope"] (spLenG CR) := ⟨⟨_, _, ok_lenG (k := 0) F16 RT m_isinstance m_str m_len, F16.binds (ps := ["rope"]) (fun _ _ _ _ _ _ us hl => match us, hl with | [_], _ => rfl), k16, PySem.W.mg_of X G a16⟩⟩
  have F17 := fun_mk (st := sWith) l17 e17 k17
  have D__with_beginning : Df lw.prog w K mg base 3 "_with_beginning" ["text", "rope", "length"] (spWithG CR) := ⟨⟨_, _, ok_withG (k := 0) F17 RT MR m_isinstance m_str m_len ⟨_, c_SHORT⟩, F17.binds (ps := ["text", "rope", "length"]) (fun _ _ _ _ _ _ us hl => match us, hl with | [_, _, _], _ => rfl), k17, PySem.W.mg_of X G a17⟩⟩
  have F18 := fun_mk (st := sPut) l18 e18 k18
  have D_put_together : Df lw.prog w K mg base 4 "put_together" ["one", "two"] (spPutG CR) := ⟨⟨_, _, ok_putG (k := 0) F18 RT MR D_length_of D__with_beginning m_isinstance m_str m_len ⟨_, c_SHORT⟩, F18.binds (ps := ["one", "two"]) (fun _ _ _ _ _ _ us hl => match us, hl with | [_, _], _ => rfl), k18, PySem.W.mg_of X G a18⟩⟩
  have F19 := fun_mk (st := sRopeOf) l19 e19 k19
  have D_rope_of : Df lw.prog w K mg base 5 "rope_of" ["ropes"] (spRopeOfG CR) := ⟨⟨_, _, ok_ropeOfG (k := 0) F19 D_put_together, F19.binds (ps := ["ropes"]) (fun _ _ _ _ _ _ us hl => match us, hl with | [_], _ => rfl), k19, PySem.W.mg_of X G a19⟩⟩
  have F20 := fun_mk (st := sWritten) l20 e20 k20
  have D_written : Df lw.prog w K mg base 2 "written" ["rope"] (spWrittenG CR) := ⟨⟨_, _, ok_writtenG (k := 0) F20 RT M_rpieces m_isinstance m_str, F20.binds (ps := ["rope"]) (fun _ _ _ _ _ _ us hl => match us, hl with | [_], _ => rfl), k20, PySem.W.mg_of X G a20⟩⟩
  have F21 := fun_mk (st := sCheck) l21 e21 k21
  have D_check_text : Df lw.prog w K mg base 3 "check_text" ["program", "text"] (spCheck C) := ⟨⟨_, _, ok_check (k := 0) F21 T R_letters m_isinstance m_str, F21.binds (ps := ["program", "text"]) (fun _ _ _ _ _ _ us hl => match us, hl with | [_, _], _ => rfl), k21, PySem.W.mg_of X G a21⟩⟩
  have F22 := fun_mk (st := sFilled) l22 e22 k22
  have D_filled : Df lw.prog w K mg base 6 "filled" ["fillings", "ropes"] (spFilledG CR) := ⟨⟨_, _, ok_filledG (k := 0) F22 D_rope_of, F22.binds (ps := ["fillings", "ropes"]) (fun _ _ _ _ _ _ us hl => match us, hl with | [_, _], _ => rfl), k22, PySem.W.mg_of X G a22⟩⟩
  have U : StTxt K mg CS := ⟨⟨pgS, hdS, poS, saS⟩, nS_program, nS_boxes, nS_moves, PySem.W.mg_of X G aS⟩
  have FSinit := fun_mk (st := sStInit) lSinit eSinit kSinit
  have FSmove := fun_mk (st := sStMove) lSmove eSmove kSmove
  have FSmove_in_parts := fun_mk (st := sStMip) lSmove_in_parts eSmove_in_parts kSmove_in_parts
  have FSfirst := fun_mk (st := sStFirst) lSfirst eSfirst kSfirst
  have FSbehind := fun_mk (st := sStBehind) lSbehind eSbehind kSbehind
  have FSended := fun_mk (st := sStEnded) lSended eSended kSended
  have FStold := fun_mk (st := sStTold) lStold eStold kStold
  have MS : MkS lw.prog w K mg base CS C 3 := ⟨⟨_, _, ⟨mkS, aSinit, iSinit, kcS⟩, ok_stInit (k := 0) FSinit T U R_boxes, FSinit.binds (ps := psSt) (fun _ _ _ _ _ _ us hl => match us, hl with | [_, _], _ => rfl)⟩⟩
  have M_smip : Mth lw.prog w K mg base CS 2 "_move_in_parts" ["place", "letter"] (spStMip CS C) := ⟨⟨_, _, ⟨aSmove_in_parts, iSmove_in_parts, kSmove_in_parts⟩, ok_stMip (k := 0) FSmove_in_parts T U M_move D_parts_of, FSmove_in_parts.binds (ps := ["self", "place", "letter"]) (fun _ _ _ _ _ _ us hl => match us, hl with | [_, _, _], _ => rfl)⟩⟩
  have M_smove : Mth lw.prog w K mg base CS 3 "move" ["place", "letter"] (spStMove CS C) := ⟨⟨_, _, ⟨aSmove, iSmove, kSmove⟩, ok_stMove (k := 0) FSmove U M_smip, FSmove.binds (ps := ["self", "place", "letter"]) (fun _ _ _ _ _ _ us hl => match us, hl with | [_, _, _], _ => rfl)⟩⟩
  have M_sfirst : Mth lw.prog w K mg base CS 3 "first" [] (spStFirst CS C) := ⟨⟨_, _, ⟨aSfirst, iSfirst, kSfirst⟩, ok_stFirst (k := 0) FSfirst T U R_places, FSfirst.binds (ps := ["self"]) (fun _ _ _ _ _ _ us hl => match us, hl with | [_], _ => rfl)⟩⟩
  have M_sbehind : Mth lw.prog w K mg base CS 7 "behind" ["state", "text"] (spStBehindG CR CS C) := ⟨⟨_, _, ⟨aSbehind, iSbehind, kSbehind⟩, ok_stBehindG (k := 0) FSbehind U M_smove D_filled, FSbehind.binds (ps := ["self", "state", "text"]) (fun _ _ _ _ _ _ us hl => match us, hl with | [_, _, _], _ => rfl)⟩⟩
  have M_sended : Mth lw.prog w K mg base CS 6 "ended" ["state"] (spStEndedG CR CS C) := ⟨⟨_, _, ⟨aSended, iSended, kSended⟩, ok_stEndedG (k := 0) FSended T U M_end D_rope_of D_parts_of, FSended.binds (ps := ["self", "state"]) (fun _ _ _ _ _ _ us hl => match us, hl with | [_, _], _ => rfl)⟩⟩
  have M_stold : Mth lw.prog w K mg base CS 7 "told" ["state"] (spStToldG CR CS C) := ⟨⟨_, _, ⟨aStold, iStold, kStold⟩, ok_stToldG (k := 0) FStold U M_sended D_written, FStold.binds (ps := ["self", "state"]) (fun _ _ _ _ _ _ us hl => match us, hl with | [_, _], _ => rfl)⟩⟩
  have F23 := fun_mk (st := sTold) l23 e23 k23
  have D_told : Df lw.prog w K mg base 8 "told" ["program", "text"] (spToldG C) := ⟨⟨_, _, ok_toldG (k := 0) F23 U D_check_text MS M_sfirst M_sbehind M_stold, F23.binds (ps := ["program", "text"]) (fun _ _ _ _ _ _ us hl => match us, hl with | [_, _], _ => rfl), k23, PySem.W.mg_of X G a23⟩⟩
  have F24 := fun_mk (st := sPlain) l24 e24 k24
  have D_plain : Df lw.prog w K mg base 7 "plain" ["letters"] (spKnown1 C plP) := ⟨⟨_, _, ok_plain (k := 5) F24 T MK, F24.binds (ps := ["letters"]) (fun _ _ _ _ _ _ us hl => match us, hl with | [_], _ => rfl), k24, PySem.W.mg_of X G a24⟩⟩
  have F25 := fun_mk (st := sBackward) l25 e25 k25
  have D_backward : Df lw.prog w K mg base 7 "backward" ["letters"] (spKnown1 C baP) := ⟨⟨_, _, ok_backward (k := 5) F25 T MK, F25.binds (ps := ["letters"]) (fun _ _ _ _ _ _ us hl => match us, hl with | [_], _ => rfl), k25, PySem.W.mg_of X G a25⟩⟩
  have F26 := fun_mk (st := sExch) l26 e26 k26
  have D_exchanging : Df lw.prog w K mg base 7 "exchanging" ["letters", "sign"] (spKnown2 C xcP) := ⟨⟨_, _, ok_exch (k := 5) F26 T MK, F26.binds (ps := ["letters", "sign"]) (fun _ _ _ _ _ _ us hl => match us, hl with | [_, _], _ => rfl), k26, PySem.W.mg_of X G a26⟩⟩
  have F27 := fun_mk (st := sSorting) l27 e27 k27
  have D_sorting : Df lw.prog w K mg base 7 "sorting" ["letters", "sign"] (spKnown2 C srP) := ⟨⟨_, _, ok_sorting (k := 5) F27 T MK, F27.binds (ps := ["letters", "sign"]) (fun _ _ _ _ _ _ us hl => match us, hl with | [_, _], _ => rfl), k27, PySem.W.mg_of X G a27⟩⟩
  have F28 := fun_mk (st := sHalving) l28 e28 k28
  have D_halving : Df lw.prog w K mg base 7 "halving" ["letters"] (spKnown1 C hvP) := ⟨⟨_, _, ok_halving (k := 5) F28 T MK, F28.binds (ps := ["letters"]) (fun _ _ _ _ _ _ us hl => match us, hl with | [_], _ => rfl), k28, PySem.W.mg_of X G a28⟩⟩
  have F29 := fun_mk (st := sLate) l29 e29 k29
  have D_late : Df lw.prog w K mg base 7 "late" ["letters", "sign"] (spKnown2 C ltP) := ⟨⟨_, _, ok_late (k := 5) F29 T MK, F29.binds (ps := ["letters", "sign"]) (fun _ _ _ _ _ _ us hl => match us, hl with | [_, _], _ => rfl), k29, PySem.W.mg_of X G a29⟩⟩
  have F30 := fun_mk (st := sSource) l30 e30 k30
  have D__law_source : Df lw.prog w K mg base 1 "_law_source" ["_law_script"] (spSource K) := ⟨⟨_, _, ok_source (k := 0) F30 m_int, F30.binds (ps := ["_law_script"]) (fun _ _ _ _ _ _ us hl => match us, hl with | [_], _ => rfl), k30, PySem.W.mg_of X G a30⟩⟩
  have F31 := fun_mk (st := sDraw) l31 e31 k31
  have D__law_draw : Df lw.prog w K mg base 1 "_law_draw" ["_law_source_here", "_law_many"] (spDrawS) := ⟨⟨_, _, (ok_draw (k := 0) F31 m_int).imp draw_soft, F31.binds (ps := ["_law_source_here", "_law_many"]) (fun _ _ _ _ _ _ us hl => match us, hl with | [_, _], _ => rfl), k31, PySem.W.mg_of X G a31⟩⟩
  have F32 := fun_mk (st := sPick) l32 e32 k32
  have FS : FnS lw.prog w K mg base 2 _ _ ["_law_source_here", "_law_things"] spPickS := pick_tok (k := 0) F32 D__law_draw m_len
  have BPk := F32.binds (ps := ["_law_source_here", "_law_things"]) (fun _ _ _ _ _ _ us hl => match us, hl with | [_, _], _ => rfl)
  have mPk := PySem.W.mg_of X G a32
  have D__law_pick : Df lw.prog w K mg base 2 "_law_pick" ["_law_source_here", "_law_things"] (spPick K) := ⟨⟨_, _, ok_pick (k := 0) F32 D__law_draw m_len, F32.binds (ps := ["_law_source_here", "_law_things"]) (fun _ _ _ _ _ _ us hl => match us, hl with | [_, _], _ => rfl), k32, PySem.W.mg_of X G a32⟩⟩
  have F33 := fun_mk (st := sOrder) l33 e33 k33
  have D__law_order : Df lw.prog w K mg base 2 "_law_order" ["_law_source_here", "_law_many"] (spOrder) := ⟨⟨_, _, ok_order (k := 0) F33 D__law_draw m_len m_list m_range, F33.binds (ps := ["_law_source_here", "_law_many"]) (fun _ _ _ _ _ _ us hl => match us, hl with | [_, _], _ => rfl), k33, PySem.W.mg_of X G a33⟩⟩
  have F34 := fun_mk (st := sSigns) l34 e34 k34
  have D__law_signs : Df lw.prog w K mg base 3 "_law_signs" ["_law_source_here", "_law_signs_here", "_law_many"] (spSigns) := ⟨⟨_, _, ok_signs (k := 1) F34 D__law_order m_len, F34.binds (ps := ["_law_source_here", "_law_signs_here", "_law_many"]) (fun _ _ _ _ _ _ us hl => match us, hl with | [_, _, _], _ => rfl), k34, PySem.W.mg_of X G a34⟩⟩
  have F35 := fun_mk (st := sLText) l35 e35 k35
  have D__law_text : Df lw.prog w K mg base 3 "_law_text" ["_law_source_here", "_law_letters", "_law_most"] (spLText) := ⟨⟨_, _, ok_ltext (k := 0) F35 D__law_draw D__law_pick m_range, F35.binds (ps := ["_law_source_here", "_law_letters", "_law_most"]) (fun _ _ _ _ _ _ us hl => match us, hl with | [_, _, _], _ => rfl), k35, PySem.W.mg_of X G a35⟩⟩
  have F36 := fun_mk (st := sLMoves) l36 e36 k36
  have DM : DfC lw.prog w K mg base 6 "_law_moves" psLMoves (spLMoves lw.prog w K mg base) := ok_lmoves (k := 4) F36 (F36.binds (ps := psLMoves) (fun _ _ _ _ _ _ us hl => match us, hl with | [_, _, _], _ => rfl)) (PySem.W.mg_of X G a36)
  have F37 := fun_mk (st := sLPrograms) l37 e37 k37
  have D__law_programs : Df lw.prog w K mg base 7 "_law_programs" ["_law_letters", "_law_sign"] (spLPrograms [(TP, qLam)] C) := ⟨⟨_, _, ok_lprograms (k := 4) l37 e37 TB T MK DM m_int, F37.binds (ps := ["_law_letters", "_law_sign"]) (fun _ _ _ _ _ _ us hl => match us, hl with | [_, _], _ => rfl), k37, PySem.W.mg_of X G a37⟩⟩
  have F38 := fun_mk (st := sLaw) l38 e38 k38
  have M_eq : EqM lw.prog w K mg base C 1 (PrEq C) := ⟨⟨_, _, aCeq, iCeq, ok_eq (k := 0) FCeq T IS m_isinstance, FCeq.binds (ps := ["self", "other"]) (fun _ _ _ _ _ _ us hl => match us, hl with | [_, _], _ => rfl)⟩⟩
  exact ok_law F38 D__law_source D__law_signs D__law_draw FS BPk k32 mPk D_plain D_backward D_exchanging D_sorting D_halving D_late D__law_programs D__law_text D_told M_eq m_range
end Tb
open PySem PySem.W PyProof.Rows
set_option maxRecDepth 100000 in
set_option maxHeartbeats 0 in
theorem PySem.Challenge.cw_textboxes_k15_known_programs_holds : PySem.Challenge.rw_textboxes_k15_known_programs.Holds := by
  w_on; o_law; k_head; (case hw => w_witness2)
  k_fill
  refine LamX.walk_ofTs (l := PySem.Challenge.rw_textboxes_k15_known_programs) (n := 63) (k := 9) (x := "_law_script") (CX := fun _ => L2.CX0) rfl (by decide) rfl ⟨rfl, by decide, by decide⟩ (fun w h Y => PySem.W.km_in_of Y) ?F (fun _ _ _ _ _ z => z)
  case F =>
    intro w mg fa h Y KX G hmg
    refine' Tb.all_mk (fa := fa) (w := w) KX G hmg (PySem.W.km_tabs_of Y) ?a0 ?k0 ?l0 ?e0 ?a1 ?k1 ?l1 ?e1 ?a2 ?k2 ?l2 ?e2 ?a3 ?k3 ?l3 ?e3 ?a4 ?k4 ?l4 ?e4 ?a5 ?k5 ?l5 ?e5 ?a6 ?k6 ?l6 ?e6 ?a7 ?k7 ?l7 ?e7 ?a8 ?k8 ?l8 ?e8 ?a9 ?k9 ?l9 ?e9 ?a10 ?k10 ?l10 ?e10 ?a11 ?k11 ?l11 ?e11 ?a12 ?k12 ?l12 ?e12 ?a13 ?k13 ?l13 ?e13 ?a14 ?k14 ?l14 ?e14 ?a15 ?k15 ?l15 ?e15 ?a16 ?k16 ?l16 ?e16 ?a17 ?k17 ?l17 ?e17 ?a18 ?k18 ?l18 ?e18 ?a19 ?k19 ?l19 ?e19 ?a20 ?k20 ?l20 ?e20 ?a21 ?k21 ?l21 ?e21 ?a22 ?k22 ?l22 ?e22 ?a23 ?k23 ?l23 ?e23 ?a24 ?k24 ?l24 ?e24 ?a25 ?k25 ?l25 ?e25 ?a26 ?k26 ?l26 ?e26 ?a27 ?k27 ?l27 ?e27 ?a28 ?k28 ?l28 ?e28 ?a29 ?k29 ?l29 ?e29 ?a30 ?k30 ?l30 ?e30 ?a31 ?k31 ?l31 ?e31 ?a32 ?k32 ?l32 ?e32 ?a33 ?k33 ?l33 ?e33 ?a34 ?k34 ?l34 ?e34 ?a35 ?k35 ?l35 ?e35 ?a36 ?k36 ?l36 ?e36 ?a37 ?k37 ?l37 ?e37 ?a38 ?k38 ?l38 ?e38 ?aC ?pgC ?hdC ?poC ?saC ?mkC ?kcC ?aCinit ?iCinit ?kCinit ?lCinit ?eCinit ?aCmove ?iCmove ?kCmove ?lCmove ?eCmove ?aCend ?iCend ?kCend ?lCend ?eCend ?aCeq ?iCeq ?kCeq ?lCeq ?eCeq ?aPletters ?sPletters ?tPletters ?rPletters ?kPletters ?lPletters ?ePletters ?aPboxes ?sPboxes ?tPboxes ?rPboxes ?kPboxes ?lPboxes ?ePboxes ?aPplaces ?sPplaces ?tPplaces ?rPplaces ?kPplaces ?lPplaces ?ePplaces ?is1 ?is2 ?is3 ?is4 ?n_letters ?n_boxes ?n_places ?n_moves ?n_ends ?aS ?pgS ?hdS ?poS ?saS ?mkS ?kcS ?aSinit ?iSinit ?kSinit ?lSinit ?eSinit ?aSmove ?iSmove ?kSmove ?lSmove ?eSmove ?aSmove_in_parts ?iSmove_in_parts ?kSmove_in_parts ?lSmove_in_parts ?eSmove_in_parts ?aSfirst ?iSfirst ?kSfirst ?lSfirst ?eSfirst ?aSbehind ?iSbehind ?kSbehind ?lSbehind ?eSbehind ?aSended ?iSended ?kSended ?lSended ?eSended ?aStold ?iStold ?kStold ?lStold ?eStold ?nS_program ?nS_boxes ?nS_moves ?aR ?pgR ?hdR ?poR ?saR ?mkR ?kcR ?aRinit ?iRinit ?kRinit ?lRinit ?eRinit ?aRpieces ?iRpieces ?kRpieces ?lRpieces ?eRpieces ?nR_left ?nR_middle ?nR_right ?nR_length ?rs1 ?rs4 ?rs5 ?rs6 ?hdP ?nlP ?z_all ?z_dict ?z_int ?z_isinstance ?z_len ?z_list ?z_range ?z_set ?z_sorted ?z_str ?z_tuple ?v_BOXES ?v_LONGEST_NAME ?v_MOST_BOXES ?v_MOST_LETTERS ?v_MOST_PLACES ?v_SHORT
    (case a0 => k_is)
    (case k0 => k_is)
    (case l0 => k_is)
    (case e0 => k_is)
    (case a1 => k_is)
    (case k1 => k_is)
    (case l1 => k_is)
    (case e1 => k_is)
    (case a2 => k_is)
    (case k2 => k_is)
    (case l2 => k_is)
    (case e2 => k_is)
    (case a3 => k_is)
    (case k3 => k_is)
    (case l3 => k_is)
    (case e3 => k_is)
    (case a4 => k_is)
    (case k4 => k_is)
    (case l4 => k_is)
    (case e4 => k_is)
    (case a5 => k_is)
    (case k5 => k_is)
    (case l5 => k_is)
    (case e5 => k_is)
    (case a6 => k_is)
    (case k6 => k_is)
    (case l6 => k_is)
    (case e6 => k_is)
    (case a7 => k_is)
    (case k7 => k_is)
    (case l7 => k_is)
    (case e7 => k_is)
    (case a8 => k_is)
    (case k8 => k_is)
    (case l8 => k_is)
    (case e8 => k_is)
    (case a9 => k_is)
    (case k9 => k_is)
    (case l9 => k_is)
    (case e9 => k_is)
    (case a10 => k_is)
    (case k10 => k_is)
    (case l10 => k_is)
    (case e10 => k_is)
    (case a11 => k_is)
    (case k11 => k_is)
    (case l11 => k_is)
    (case e11 => k_is)
    (case a12 => k_is)
    (case k12 => k_is)
    (case l12 => k_is)
    (case e12 => k_is)
    (case a13 => k_is)
    (case k13 => k_is)
    (case l13 => k_is)
    (case e13 => k_is)
    (case a14 => k_is)
    (case k14 => k_is)
    (case l14 => k_is)
    (case e14 => k_is)
    (case a15 => k_is)
    (case k15 => k_is)
    (case l15 => k_is)
    (case e15 => k_is)
    (case a16 => k_is)
    (case k16 => k_is)
    (case l16 => k_is)
    (case e16 => k_is)
    (case a17 => k_is)
    (case k17 => k_is)
    (case l17 => k_is)
    (case e17 => k_is)
    (case a18 => k_is)
    (case k18 => k_is)
    (case l18 => k_is)
    (case e18 => k_is)
    (case a19 => k_is)
    (case k19 => k_is)
    (case l19 => k_is)
    (case e19 => k_is)
    (case a20 => k_is)
    (case k20 => k_is)
    (case l20 => k_is)
    (case e20 => k_is)
    (case a21 => k_is)
    (case k21 => k_is)
    (case l21 => k_is)
    (case e21 => k_is)
    (case a22 => k_is)
    (case k22 => k_is)
    (case l22 => k_is)
    (case e22 => k_is)
    (case a23 => k_is)
    (case k23 => k_is)
    (case l23 => k_is)
    (case e23 => k_is)
    (case a24 => k_is)
    (case k24 => k_is)
    (case l24 => k_is)
    (case e24 => k_is)
    (case a25 => k_is)
    (case k25 => k_is)
    (case l25 => k_is)
    (case e25 => k_is)
    (case a26 => k_is)
    (case k26 => k_is)
    (case l26 => k_is)
    (case e26 => k_is)
    (case a27 => k_is)
    (case k27 => k_is)
    (case l27 => k_is)
    (case e27 => k_is)
    (case a28 => k_is)
    (case k28 => k_is)
    (case l28 => k_is)
    (case e28 => k_is)
    (case a29 => k_is)
    (case k29 => k_is)
    (case l29 => k_is)
    (case e29 => k_is)
    (case a30 => k_is)
    (case k30 => k_is)
    (case l30 => k_is)
    (case e30 => k_is)
    (case a31 => k_is)
    (case k31 => k_is)
    (case l31 => k_is)
    (case e31 => k_is)
    (case a32 => k_is)
    (case k32 => k_is)
    (case l32 => k_is)
    (case e32 => k_is)
    (case a33 => k_is)
    (case k33 => k_is)
    (case l33 => k_is)
    (case e33 => k_is)
    (case a34 => k_is)
    (case k34 => k_is)
    (case l34 => k_is)
    (case e34 => k_is)
    (case a35 => k_is)
    (case k35 => k_is)
    (case l35 => k_is)
    (case e35 => k_is)
    (case a36 => k_is)
    (case k36 => k_is)
    (case l36 => k_is)
    (case e36 => k_is)
    (case a37 => k_is)
    (case k37 => k_is)
    (case l37 => k_is)
    (case e37 => k_is)
    (case a38 => k_is)
    (case k38 => k_is)
    (case l38 => k_is)
    (case e38 => k_is)
    (case aC => k_is)
    (case pgC => k_is)
    (case hdC => k_is)
    (case poC => k_is)
    (case saC => k_is)
    (case mkC => k_is)
    (case kcC => k_is)
    (case aCinit => k_is)
    (case iCinit => k_is)
    (case kCinit => k_is)
    (case lCinit => k_is)
    (case eCinit => k_is)
    (case aCmove => k_is)
    (case iCmove => k_is)
    (case kCmove => k_is)
    (case lCmove => k_is)
    (case eCmove => k_is)
    (case aCend => k_is)
    (case iCend => k_is)
    (case kCend => k_is)
    (case lCend => k_is)
    (case eCend => k_is)
    (case aCeq => k_is)
    (case iCeq => k_is)
    (case kCeq => k_is)
    (case lCeq => k_is)
    (case eCeq => k_is)
    (case aPletters => k_is)
    (case sPletters => k_is)
    (case tPletters => k_is)
    (case rPletters => k_is)
    (case kPletters => k_is)
    (case lPletters => k_is)
    (case ePletters => k_is)
    (case aPboxes => k_is)
    (case sPboxes => k_is)
    (case tPboxes => k_is)
    (case rPboxes => k_is)
    (case kPboxes => k_is)
    (case lPboxes => k_is)
    (case ePboxes => k_is)
    (case aPplaces => k_is)
    (case sPplaces => k_is)
    (case tPplaces => k_is)
    (case rPplaces => k_is)
    (case kPplaces => k_is)
    (case lPplaces => k_is)
    (case ePplaces => k_is)
    (case is1 => k_is)
    (case is2 => k_is)
    (case is3 => k_is)
    (case is4 => k_is)
    (case n_letters => k_is)
    (case n_boxes => k_is)
    (case n_places => k_is)
    (case n_moves => k_is)
    (case n_ends => k_is)
    (case aS => k_is)
    (case pgS => k_is)
    (case hdS => k_is)
    (case poS => k_is)
    (case saS => k_is)
    (case mkS => k_is)
    (case kcS => k_is)
    (case aSinit => k_is)
    (case iSinit => k_is)
    (case kSinit => k_is)
    (case lSinit => k_is)
    (case eSinit => k_is)
    (case aSmove => k_is)
    (case iSmove => k_is)
    (case kSmove => k_is)
    (case lSmove => k_is)
    (case eSmove => k_is)
    (case aSmove_in_parts => k_is)
    (case iSmove_in_parts => k_is)
    (case kSmove_in_parts => k_is)
    (case lSmove_in_parts => k_is)
    (case eSmove_in_parts => k_is)
    (case aSfirst => k_is)
    (case iSfirst => k_is)
    (case kSfirst => k_is)
    (case lSfirst => k_is)
    (case eSfirst => k_is)
    (case aSbehind => k_is)
    (case iSbehind => k_is)
    (case kSbehind => k_is)
    (case lSbehind => k_is)
    (case eSbehind => k_is)
    (case aSended => k_is)
    (case iSended => k_is)
    (case kSended => k_is)
    (case lSended => k_is)
    (case eSended => k_is)
    (case aStold => k_is)
    (case iStold => k_is)
    (case kStold => k_is)
    (case lStold => k_is)
    (case eStold => k_is)
    (case nS_program => k_is)
    (case nS_boxes => k_is)
    (case nS_moves => k_is)
    (case aR => k_is)
    (case pgR => k_is)
    (case hdR => k_is)
    (case poR => k_is)
    (case saR => k_is)
    (case mkR => k_is)
    (case kcR => k_is)
    (case aRinit => k_is)
    (case iRinit => k_is)
    (case kRinit => k_is)
    (case lRinit => k_is)
    (case eRinit => k_is)
    (case aRpieces => k_is)
    (case iRpieces => k_is)
    (case kRpieces => k_is)
    (case lRpieces => k_is)
    (case eRpieces => k_is)
    (case nR_left => k_is)
    (case nR_middle => k_is)
    (case nR_right => k_is)
    (case nR_length => k_is)
    (case rs1 => k_is)
    (case rs4 => k_is)
    (case rs5 => kernel_rfl)
    (case rs6 => k_is)
    (case hdP => kernel_rfl)
    (case nlP => kernel_rfl)
    (case z_all => k_is)
    (case z_dict => k_is)
    (case z_int => k_is)
    (case z_isinstance => k_is)
    (case z_len => k_is)
    (case z_list => k_is)
    (case z_range => k_is)
    (case z_set => k_is)
    (case z_sorted => k_is)
    (case z_str => k_is)
    (case z_tuple => k_is)
    (case v_BOXES => k_is)
    (case v_LONGEST_NAME => k_is)
    (case v_MOST_BOXES => k_is)
    (case v_MOST_LETTERS => k_is)
    (case v_MOST_PLACES => k_is)
    (case v_SHORT => k_is)

