import PyProof.Rows.All
import Wide.All
import OpenK.AllK
import Wide.FinOn
import HandS.ForExc
import HandS.ForMost
import HandS.TryOnly
import HandS.Wide
import HandS.Codes
import HandS.IsInst
import HandS.ExcIs
import HandS.More
import HandS.Star
import KE.RegKIsAll
import HandS.OwnEq
import KE.GoesEnum
import HandS.OwnIter
import HandS.ClsMeth
import KE.LtData
import PySem.Challenge.RW_onecable_k07_row_order
set_option Elab.async false
set_option maxRecDepth 100000
set_option maxHeartbeats 4000000
set_option linter.all false
namespace My
open PySem PySem.Spec PyProof.Rows L2
/-! ### callables of the text: a def by its name, a method, a class -/
structure Cal (CX : CXT) (P : Program) (w : World) (K : PySem.W.Frag) (mg : Str → Option Value) (base : Heap) (k : Nat) (x : Str) (sp : Sp) : Prop where
  ex : ∃ (f : Addr) (fd : FuncData) (ps : List Str), FnOk P w K mg base CX k f fd ps sp ∧ mg x = some (.ref f) ∧ PySem.W.keepIn K (.ref f) = true ∧ Binds K fd ps []
structure Met (CX : CXT) (P : Program) (w : World) (K : PySem.W.Frag) (mg : Str → Option Value) (base : Heap) (k : Nat) (C : Addr) (m : Str) (sp : Sp) : Prop where
  ex : ∃ (f : Addr) (fd : FuncData) (ps : List Str), Cls K C ∧ Meth K C m f ∧ FnOk P w K mg base CX k f fd ps sp ∧ Binds K fd ps []
  fi : ∀ f, PySem.W.findIn K (.ref C) m = some (some (.ref f)) → PySem.W.fnIn K f = true
structure Mak (CX : CXT) (P : Program) (w : World) (K : PySem.W.Frag) (mg : Str → Option Value) (base : Heap) (k : Nat) (x : Str) (C : Addr) (sp : Sp) : Prop where
  ex : ∃ (f : Addr) (fd : FuncData) (ps : List Str), Mk K C f ∧ FnOk P w K mg base CX k f fd ps sp ∧ mg x = some (.ref C) ∧ Binds K fd ps []
section
variable {CX : CXT} {P : Program} {w : World} {K : PySem.W.Frag} {mg : Str → Option Value} {base : Heap} {k : Nat} {x m : Str} {f C : Addr} {fd : FuncData} {ps : List Str} {sp : Sp}
theorem cal_mk (F : FnOk P w K mg base CX k f fd ps sp) (m : mg x = some (.ref f)) (kp : PySem.W.keepIn K (.ref f) = true) (b : Binds K fd ps []) : Cal CX P w K mg base k x sp := ⟨f, fd, ps, F, m, kp, b⟩
theorem met_mk (F : FnOk P w K mg base CX k f fd ps sp) (c : Cls K C) (me : Meth K C m f) (b : Binds K fd ps []) (fi : PySem.W.fnIn K f = true) : Met CX P w K mg base k C m sp := ⟨⟨f, fd, ps, c, me, F, b⟩, fun g h => by
  have z := me.at_.symm.trans h
  cases z
  exact fi⟩
theorem fn_in {oc : Value} {od : Option Addr} {fdx : FuncData} {sl : Array (Option Value)} (l : K.lookup f = some ⟨oc, od, .func fdx, sl⟩) : PySem.W.fnIn K f = true := by
  unfold PySem.W.fnIn
  rw [l]
theorem mak_mk (F : FnOk P w K mg base CX k f fd ps sp) (m : mg x = some (.ref C)) (M : Mk K C f) (b : Binds K fd ps []) : Mak CX P w K mg base k x C sp := ⟨f, fd, ps, M, F, m, b⟩
end
section
variable {X : Cx} {CX : CXT} {k j : Nat} {C : Addr} {x m : Str} {sp : Sp} {E : XK} {p pos apos : Pos} {e o : Expr} {es : List Expr} {ta : TE} {t : TA}
theorem pc_c (c : Cal CX X.prog X.w X.K X.mg X.base k x sp) (hr : Room j X.A) (hk : k ≤ j) (hg : Gl X x) (hx : Passes CX X E) (ha : PA X (e :: es) t)
    (hdb : (x == ("__debug__" : Str)) = false := by decide) (he : starEach (e :: es) X.env = (false, eval e X.env) :: starEach es X.env := by rfl) (hpl : (backTo pos (starEach es X.env)).any (·.1) = false := by rfl) :
    PE X (.Call (.Name x p) (e :: es) [] pos) (tCall sp [] E t) := by
  obtain ⟨f, fd, ps, F, hm, kp, b⟩ := c.ex
  exact pe_call F (hr.mono hk) hg hm kp b .nil hx ha hdb he hpl
theorem pc_cS {E : L2.St → XK} (c : Cal CX X.prog X.w X.K X.mg X.base k x sp) (hr : Room j X.A) (hk : k ≤ j) (hg : Gl X x) (hx : ∀ σ, PassesAt CX X σ (E σ)) (ha : PA X (e :: es) t)
    (hdb : (x == ("__debug__" : Str)) = false := by decide) (he : starEach (e :: es) X.env = (false, eval e X.env) :: starEach es X.env := by rfl) (hpl : (backTo pos (starEach es X.env)).any (·.1) = false := by rfl) :
    PE X (.Call (.Name x p) (e :: es) [] pos) (tCallS sp E t) := by
  obtain ⟨f, fd, ps, F, hm, kp, b⟩ := c.ex
  exact pe_callS F (hr.mono hk) hg hm kp b hx ha hdb he hpl
theorem pc_mk (c : Mak CX X.prog X.w X.K X.mg X.base k x C sp) (hr : Room j X.A) (hk : k + 1 ≤ j) (hg : Gl X x) (hx : Passes CX X E) (ha : PA X (e :: es) t)
    (hdb : (x == ("__debug__" : Str)) = false := by decide) (he : starEach (e :: es) X.env = (false, eval e X.env) :: starEach es X.env := by rfl) (hpl : (backTo pos (starEach es X.env)).any (·.1) = false := by rfl) :
    PE X (.Call (.Name x p) (e :: es) [] pos) (tMake C sp [] E t) := by
  obtain ⟨f, fd, ps, M, F, hm, b⟩ := c.ex
  exact pe_make M F (hr.mono hk) hg hm b .nil hx ha hdb he hpl
/-- a class made where a try stands around: what is raised is wished for at the slots -/
def tMakeS (C : Addr) (sp : Sp) (E : L2.St → XK) (t : TA) : TE := fun σ H Q => t σ H fun vs H1 => ∀ x dx, H1 x = none → H1 dx = none → dx ≠ x →
  sp (.ref x :: (vs ++ [])) (upd (upd H1 dx (.own x)) x (.ins C dx [])) (fun v H2 => v = .non ∧ Q (.ref x) H2) (E σ)
theorem run_mkS {f : Addr} {fd : FuncData} {ps : List Str} {ds : List Value} {dvs : List V} {pins : List (Addr × Obj)} {σ : L2.St} {H : Hp} {s : Shared} {Q : VK} {us : List Value} {vs : List V} (M : Mk X.K C f) (F : FnOk X.prog X.w X.K X.mg X.base CX k f fd ps sp) (hr : Room (k + 1) X.A) (hb : Binds X.K fd ps ds) (hd : Vals dvs ds)
    (hx : PassesAt CX X σ E) (I : Inv X pins σ H s) (r : Vals vs us)
    (h : ∀ x dx, H x = none → H dx = none → dx ≠ x → sp (.ref x :: (vs ++ dvs)) (upd (upd H dx (.own x)) x (.ins C dx [])) (fun v H2 => v = .non ∧ Q (.ref x) H2) E) :
    wpAny (model X.prog X.w) X.A (call (.ref C) us) (EP X pins σ Q) X.xe s := by
  have hq := h (s.heap.objs.size + 1) s.heap.objs.size (I.hok.fresh (Nat.le_succ _)) (I.hok.fresh (Nat.le_refl _)) (Nat.ne_of_lt (Nat.lt_succ_self _))
  have I2 := Inv.made (C := C) I
  have r2 : Vals (V.ref (s.heap.objs.size + 1) :: (vs ++ dvs)) (Value.ref (s.heap.objs.size + 1) :: (us ++ ds)) := .cons rfl (r.append hd)
  have hl : (Value.ref (s.heap.objs.size + 1) :: us ++ ds).length = ps.length := by
    have e := r2.length
    rw [F.len _ _ _ _ hq] at e
    exact e.symm
  refine wpAny_call (make_map (f := f) I.kIn M.makes M.init (beq_iff_eq.mp M.fn) (codeAny_mono (F.run _ X.stack _ _ ⟨Value.ref (s.heap.objs.size + 1) :: us, []⟩ (Value.ref (s.heap.objs.size + 1) :: (us ++ ds)) _ _ E (hr.make C us [])
    (I2.env0.make C us []) (hb _ (Value.ref (s.heap.objs.size + 1) :: us) I2.kIn hl) r2 hq) fun r s' hq' => ?_))
  cases r with
  | error e => exact hx pins _ _ e s' I2 hq'
  | ok fl =>
    cases fl with
    | ret u =>
      obtain ⟨v, H', I3, rv, ev, q3⟩ := I2.after hq'
      subst ev
      exact ⟨rv, ⟨V.ref (s.heap.objs.size + 1), H', I3, rfl, q3⟩⟩
    | next => exact False.elim hq'
    | brk => exact False.elim hq'
    | cont => exact False.elim hq'
theorem pc_mkS {E : L2.St → XK} (c : Mak CX X.prog X.w X.K X.mg X.base k x C sp) (hr : Room j X.A) (hk : k + 1 ≤ j) (hg : Gl X x) (hx : ∀ σ, PassesAt CX X σ (E σ)) (ha : PA X (e :: es) t)
    (hdb : (x == ("__debug__" : Str)) = false := by decide) (he : starEach (e :: es) X.env = (false, eval e X.env) :: starEach es X.env := by rfl) (hpl : (backTo pos (starEach es X.env)).any (·.1) = false := by rfl) :
    PE X (.Call (.Name x p) (e :: es) [] pos) (tMakeS C sp E t) := by
  obtain ⟨f, fd, ps, M, F, hm, b⟩ := c.ex
  refine ⟨fun pins s σ H Q I h => ?_⟩
  refine wpAny_Call_Name_kw (ld_glob I hg hm ?_ hdb)
  refine PySem.W.callWith_K (h₀ := X.base) I.ok.mod.kin M.kp (thn (ha.run pos pins s σ H _ I h) fun us s1 ⟨vs, H1, I1, r, q⟩ => ⟨I1.kIn, ?_⟩) he hpl
  exact run_mkS M F (hr.mono hk) b .nil (hx σ) I1 r q
theorem pc_mt {pl : Sem Bool} (c : Met CX X.prog X.w X.K X.mg X.base k C m sp) (hr : Room j X.A) (hk : k ≤ j) (hx : Passes CX X E) (he : PE X o ta) (ha : PA X (e :: es) t)
    (hst : starEach (e :: es) X.env = (false, eval e X.env) :: starEach es X.env := by rfl) (hpl : (backTo pos (starEach es X.env)).any (·.1) = false := by rfl)
    (ht : eval (.Call (.Attribute o m apos) (e :: es) [] pos) X.env = (do
      let ov ← eval o X.env
      standAt apos.atName
      let (f, first) ← holding [ov] (getMethod ov m pl)
      callWith pos f first (backTo pos (starEach (e :: es) X.env)) (backToKw pos (keywordEach [] X.env))) := by rfl) :
    PE X (.Call (.Attribute o m apos) (e :: es) [] pos) (tMeth C m sp [] E ta t) := by
  obtain ⟨f, fd, ps, hc, hm, F, b⟩ := c.ex
  exact pe_meth (pl := pl) he hc hm F (hr.mono hk) b .nil hx ha hst hpl ht
theorem pc_mt0 {pl : Sem Bool} (c : Met CX X.prog X.w X.K X.mg X.base k C m sp) (hr : Room j X.A) (hk : k ≤ j) (hx : Passes CX X E) (he : PE X o ta)
    (ht : eval (.Call (.Attribute o m apos) [] [] pos) X.env = (do
      let ov ← eval o X.env
      standAt apos.atName
      let (f, first) ← holding [ov] (getMethod ov m pl)
      callWith pos f first (backTo pos (starEach [] X.env)) (backToKw pos (keywordEach [] X.env))) := by rfl) :
    PE X (.Call (.Attribute o m apos) [] [] pos) (tMeth C m sp [] E ta tNil) := by
  obtain ⟨f, fd, ps, hc, hm, F, b⟩ := c.ex
  exact pe_meth0 (pl := pl) he hc hm F (hr.mono hk) b .nil hx ht
/-! ### further operators -/
/-- * : one factor small, or both below a million bits together -/
def CMulA (i j : Int) : Prop := CMul i j ∨ CMulW i j
theorem op_mulA : OpR X (binaryOp .Mult) (rI CMulA fun i j => .int (i * j)) := opI fun _ _ _ _ _ _ _ hc q => mul_int q (hc.elim CMul.ok CMulW.ok)
/-- // by any divisor but 0 that is no giant -/
def CDivA (_ j : Int) : Prop := j ≠ 0 ∧ j.natAbs.log2 < 9000
theorem op_fdivA : OpR X (binaryOp .FloorDiv) (rI CDivA fun i j => .int (i.fdiv j)) := opI fun _ _ _ _ _ _ _ hc q => floordiv_int hc.1 q (.inl (PyProof.noPylong_of_log2 hc.2))
theorem divA {i j : Int} {b : Nat} (h : j ≠ 0) (hb : j.natAbs < 2 ^ b) (h0 : 0 < b) (h9 : b ≤ 9000) : CDivA i j := ⟨h, Nat.lt_of_lt_of_le (PySem.Flt.log2_lt_of h0 hb) h9⟩
end
/-! ### heaps: all but what stands at p is kept -/
def Kp (p : Addr) (H H' : Hp) : Prop := ∀ b o, b ≠ p → H b = some o → H' b = some o
theorem Kp.refl {p : Addr} {H : Hp} : Kp p H H := fun _ _ _ h => h
theorem Kp.trans {p : Addr} {H H1 H2 : Hp} (a : Kp p H H1) (b : Kp p H1 H2) : Kp p H H2 := fun c o n h => b c o n (a c o n h)
theorem Kp.upd {p : Addr} {H : Hp} {o : HO} : Kp p H (upd H p o) := fun _ _ n h => by rw [upd_ne n]; exact h
theorem Kp.same {p : Addr} {H0 H H' : Hp} (s : Same H0 H) (k : Kp p H H') (n : H0 p = none) : Same H0 H' := fun b o h => k b o (fun e => by rw [e, n] at h; cases h) (s b o h)
theorem same_upd {H : Hp} {p : Addr} {o : HO} (n : H p = none) : Same H (upd H p o) := fun b u h => by rw [upd_ne (ne_of_none h n)]; exact h
theorem Same.of (H : Hp) : Same H H := fun _ _ h => h
/-- isinstance(e, c), e the exception that the suite holds; its class and its dict are told in the reading -/
theorem call_isE2 {X : Cx} {a D : Addr} {oe : Obj} {cls : Value} {d : Option Addr} {pn : List (Addr × Obj)} (C : ExcC X.K D) (hz : Zc cls d oe) (hf : ∃ vs, oe.data = .fields vs) :
    CallR (X.suite a ((a, oe) :: pn)) (.builtin "isinstance") (fun xs H Q => cls = .ref D ∧ d = none ∧ rIsE X.K D a xs H Q) := by
  intro pins s σ H xs us Q I r h
  obtain ⟨rfl, rfl, h⟩ := h
  exact call_isE C hz hf pins s σ H xs us Q I r h
/-- an error of the class at S is what «except S» names -/
theorem exm_self {K : PySem.W.Frag} {S : Addr} (h1 : PySem.W.subIn K (.ref S) (.type "BaseException") = some true) (h2 : PySem.W.isClsIn K S = true) (h3 : PySem.W.typeIn K (.ref S) = some (.type "type")) (h4 : PySem.W.subIn K (.ref S) (.ref S) = some true) :
    PySem.W.exmOne K (.ref S) (.ref S) = some true := by
  have e1 : (PySem.W.subIn K (.ref S) (.type "BaseException") == some true) = true := by rw [h1] <;> rfl
  have e2 : ((PySem.W.clsIn K S).isSome && PySem.W.typeIn K (.ref S) == some (.type "type")) = true := by
    have h2' : (PySem.W.clsIn K S).isSome = true := h2
    rw [h2', h3] <;> rfl
  show (if (PySem.W.subIn K (.ref S) (.type "BaseException") == some true) = true then (if ((PySem.W.clsIn K S).isSome && PySem.W.typeIn K (.ref S) == some (.type "type")) = true then PySem.W.subIn K (.ref S) (.ref S) else none) else none) = some true
  rw [if_pos e1, if_pos e2]
  exact h4
/-- x is True, x is False: whatever x is -/
theorem op_isB {X : Cx} : OpR X (compareOp .Is) (fun x y H Q => ∃ b, y = .bl b ∧ Q (.bl (decide (x = .bl b))) H) := by
  intro pins s σ H x y v u Q I rx ry h
  obtain ⟨b, rfl, q⟩ := h
  cases (show u = Value.bool b from ry)
  have fin : ∀ k : Bool, decide (x = .bl b) = k → EP X pins σ Q (.bool k) s := fun k e => ⟨.bl k, H, I, rfl, by rw [← e]; exact q⟩
  cases x with
  | non => cases (show v = Value.none from rx); exact wpAny_pure (fin _ (by simp))
  | bl c =>
    cases (show v = Value.bool c from rx)
    refine wpAny_pure (fin _ ?_)
    by_cases e : c = b
    · subst e; simp
    · simp [e]
  | int i => obtain ⟨t, e⟩ := (show ∃ t, v = Value.int i t from rx); subst e; exact wpAny_pure (fin _ (by simp))
  | str i => obtain ⟨t, e⟩ := (show ∃ t, v = Value.str i t from rx); subst e; exact wpAny_pure (fin _ (by simp))
  | byt i => obtain ⟨t, e⟩ := (show ∃ t, v = Value.bytes i t from rx); subst e; exact wpAny_pure (fin _ (by simp))
  | flt i => obtain ⟨t, e⟩ := (show ∃ t, v = Value.float i t from rx); subst e; exact wpAny_pure (fin _ (by simp))
  | ref a => cases (show v = Value.ref a from rx); exact wpAny_pure (fin _ (by simp))
  | ty n => cases (show v = Value.type n from rx); exact wpAny_pure (fin _ (by simp))
theorem iteDT {p A B : Prop} [Decidable p] (hp : p) (h : A) : if decide p = true then A else B := by
  rw [decide_eq_true hp]
  exact iteT h
theorem iteDF {p A B : Prop} [Decidable p] (hp : ¬ p) (h : B) : if decide p = true then A else B := by
  rw [decide_eq_false hp]
  exact iteF h
/-! ### rules for a comprehension's block: the written part by its own name -/
section
variable {X : Cx} {K : PySem.W.Frag}
theorem pe_fldK {e : Expr} {f : Str} {pos : Pos} {ta : TE} (hK : X.K = K) (he : PE X e ta) (hb : attributeBase e f X.env (eval e X.env) = eval e X.env) : PE X (.Attribute e f pos) (tFld K ta f) := by
  subst hK
  exact pe_fld he hb
theorem pe_conK {e : Expr} {f : Str} {pos : Pos} {ta : TE} (hK : X.K = K) (he : PE X e ta) (hb : attributeBase e f X.env (eval e X.env) = eval e X.env) : PE X (.Attribute e f pos) (tCon K ta f) := by
  subst hK
  exact pe_con he hb
theorem call_len_seqK (hK : X.K = K) : CallR X (.builtin "len") (fun xs H Q => ∃ p ys, xs = [.ref p] ∧ (SqL K H p ys ∨ SqT K H p ys) ∧ Q (.int ys.length) H) := by
  subst hK
  exact call_len_seq
theorem call_list_ofK (hK : X.K = K) : CallR X (.type "list") (fun xs H Q => ∃ p ys, xs = [.ref p] ∧ (SqL K H p ys ∨ SqT K H p ys) ∧ ∀ l, H l = none → Q (.ref l) (upd H l (.lst ys))) := by
  subst hK
  exact call_list_of
theorem call_tuple_ofK (hK : X.K = K) : CallR X (.type "tuple") (fun xs H Q => ∃ p ys, xs = [.ref p] ∧ ((SqL K H p ys ∧ ∀ l, H l = none → Q (.ref l) (upd H l (.tup ys))) ∨ (SqT K H p ys ∧ Q (.ref p) H))) := by
  subst hK
  exact call_tuple_of
theorem call_isiK (hK : X.K = K) : CallR X (.builtin "isinstance") (rIsi K) := by
  subst hK
  exact call_isi
theorem cr_sumK (hK : X.K = K) (hc : X.calm = true) : CallR X (.builtin "sum") (rSum K) := by
  subst hK
  exact cr_sum hc
end
/-! ### operators of an own class, called by their signs -/
theorem inst_of {X : Cx} {pins : List (Addr × Obj)} {σ : L2.St} {H : Hp} {s : Shared} {a C dx : Addr} {fs : List (Str × V)} (I : Inv X pins σ H s) (h : H a = some (.ins C dx fs)) :
    ∃ (ox : Obj) (od : Option Obj), PySem.W.InstAt s.heap a ox C od ∧ ox.data = .plain := by
  obtain ⟨mA, O, _⟩ := ins_get I.hok h
  obtain ⟨od, J, _⟩ := O.look
  exact ⟨_, _, J, rfl⟩
theorem back_of {X : Cx} {pins : List (Addr × Obj)} {σ : L2.St} {Q : VK} {u : Value} {s : Shared} (h : EP X pins σ Q u s) : PySem.W.CmpBack (EP X pins σ Q) u s := by
  obtain ⟨v, H', I, r, q⟩ := id h
  cases u with
  | notImplemented =>
    cases v <;> first
      | exact (nomatch (show Value.notImplemented = _ from r))
      | (obtain ⟨t, e⟩ := (show ∃ t, Value.notImplemented = _ from r); cases e)
  | _ => exact h
/-- what the text has of an operator's method: run it on two values; A: where the call stands -/
theorem met_runA {X : Cx} {CX : CXT} {A : Around} {k j : Nat} {C : Addr} {m : Str} {sp : Sp} {E : XK} (c : Met CX X.prog X.w X.K X.mg X.base k C m sp) (hr : Room j A) (hk : k ≤ j) (hx : Passes CX X E)
    (hA : ∀ (s : Shared) (H : Hp), Env0 X.prog X.w X.K X.mg X.base X.A X.stack s H → Env0 X.prog X.w X.K X.mg X.base A X.stack s H) :
    ∃ f : Addr, PySem.W.findIn X.K (.ref C) m = some (some (.ref f)) ∧ PySem.W.isFn X.K (.ref f) = true ∧ PySem.W.keepIn X.K (.ref f) = true ∧
      ∀ (pins : List (Addr × Obj)) (s : Shared) (σ : L2.St) (H : Hp) (us : List Value) (vs : List V) (Q : VK), Inv X pins σ H s → Vals vs us → sp vs H Q E → wpAny (model X.prog X.w) A (call (.ref f) us) (EP X pins σ Q) X.xe s := by
  obtain ⟨f, fd, ps, hc, hm, F, b⟩ := c.ex
  refine ⟨f, hm.at_, hm.fn, hm.kp, fun pins s σ H us vs Q I r h => ?_⟩
  have hl : us.length = ps.length := by rw [← r.length]; exact F.len _ _ _ _ h
  have hb := b s us I.kIn (by rw [List.append_nil]; exact hl)
  rw [List.append_nil] at hb
  refine wpAny_call (codeAny_mono (F.run A X.stack s H ⟨us, []⟩ us vs Q E (hr.mono hk) (hA _ _ I.env0) hb r h) fun r s' hq => ?_)
  match r with
  | .error e => exact hx pins σ H s e s' I hq
  | .ok (.ret u) => exact I.after hq
  | .ok .next => exact False.elim hq
  | .ok .brk => exact False.elim hq
  | .ok .cont => exact False.elim hq
theorem met_run {X : Cx} {CX : CXT} {k j : Nat} {C : Addr} {m : Str} {sp : Sp} {E : XK} (c : Met CX X.prog X.w X.K X.mg X.base k C m sp) (hr : Room j X.A) (hk : k ≤ j) (hx : Passes CX X E) :
    ∃ f : Addr, PySem.W.findIn X.K (.ref C) m = some (some (.ref f)) ∧ PySem.W.isFn X.K (.ref f) = true ∧ PySem.W.keepIn X.K (.ref f) = true ∧
      ∀ (pins : List (Addr × Obj)) (s : Shared) (σ : L2.St) (H : Hp) (us : List Value) (vs : List V) (Q : VK), Inv X pins σ H s → Vals vs us → sp vs H Q E → wpAny (model X.prog X.w) X.A (call (.ref f) us) (EP X pins σ Q) X.xe s := met_runA c hr hk hx fun _ _ z => z
section
variable {X : Cx} {CX : CXT} {k j : Nat} {C : Addr} {m : Str} {sp : Sp} {E : XK}
def rOwn2 (C : Addr) (sp : Sp) (E : XK) : R2 := fun x y H Q => ∃ (a b dx dy : Addr) (fs gs : List (Str × V)), x = .ref a ∧ y = .ref b ∧ H a = some (.ins C dx fs) ∧ H b = some (.ins C dy gs) ∧ sp [x, y] H Q E
/-- x op y, both of one own class that has the method -/
theorem op_own {op : Operator} (c : Met CX X.prog X.w X.K X.mg X.base k C m sp) (hr : Room j X.A) (hk : k ≤ j) (hx : Passes CX X E) (sf : PySem.W.selfFirst X.K C = true) (hm : PySem.dunder op.info.2 = m := by decide +kernel) :
    OpR X (binaryOp op) (rOwn2 C sp E) := by
  intro pins s σ H x y v u Q I rx ry h
  obtain ⟨a, b, dx, dy, fs, gs, rfl, rfl, ha, hb, hs⟩ := h
  obtain ⟨f, hf, fn, kp, run⟩ := met_run c hr hk hx
  obtain ⟨mF, F⟩ := I.fr
  obtain ⟨ox, od, J, _⟩ := inst_of I ha
  obtain ⟨oy, oe, J2, _⟩ := inst_of I hb
  have r2 : Vals [V.ref a, V.ref b] [v, u] := .cons rx (.cons ry .nil)
  cases (show v = Value.ref a from rx)
  cases (show u = Value.ref b from ry)
  exact PySem.W.binop_K F I.ok.mod.kin J J2.type sf (by rw [hm]; exact hf) fn (wpAny_mono (run pins s σ H _ _ Q I r2 hs) (fun _ _ z => back_of z) fun _ _ z => z)
def rOwnI (C : Addr) (sp : Sp) (E : XK) : R2 := fun x y H Q => ∃ (a dx : Addr) (fs : List (Str × V)) (i : Int), x = .ref a ∧ y = .int i ∧ H a = some (.ins C dx fs) ∧ sp [x, y] H Q E
/-- x op i, i a whole number -/
theorem op_ownI {op : Operator} (c : Met CX X.prog X.w X.K X.mg X.base k C m sp) (hr : Room j X.A) (hk : k ≤ j) (hx : Passes CX X E) (sf : PySem.W.selfFirst X.K C = true)
    (hrc : ∃ rc, PySem.W.findIn X.K (.ref C) (dunderR op.info.2) = some rc ∧ (rc = none ∨ ∃ g : Addr, rc = some (.ref g)))
    (h1 : ∃ fo, PySem.W.findIn X.K (.type "int") (PySem.dunder op.info.2) = some fo) (h2 : ∃ ro, PySem.W.findIn X.K (.type "int") (dunderR op.info.2) = some ro) (hsub : PySem.W.subIn X.K (.type "int") (.ref C) = some false)
    (hm : PySem.dunder op.info.2 = m := by decide +kernel) : OpR X (binaryOp op) (rOwnI C sp E) := by
  intro pins s σ H x y v u Q I rx ry h
  obtain ⟨a, dx, fs, i, rfl, rfl, ha, hs⟩ := h
  obtain ⟨f, hf, fn, kp, run⟩ := met_run c hr hk hx
  obtain ⟨rc, hrc, hp⟩ := hrc
  obtain ⟨fo, h1⟩ := h1
  obtain ⟨ro, h2⟩ := h2
  obtain ⟨mF, F⟩ := I.fr
  obtain ⟨ox, od, J, _⟩ := inst_of I ha
  have r2 : Vals [V.ref a, V.int i] [v, u] := .cons rx (.cons ry .nil)
  cases (show v = Value.ref a from rx)
  obtain ⟨t, et⟩ := (show ∃ t, u = Value.int i t from ry)
  subst et
  exact PySem.W.ksp_binT (T := "int") F I.ok.mod.kin J rfl sf (by rw [hm]; exact hf) fn hrc hp h1 h2 hsub (wpAny_mono (run pins s σ H _ _ Q I r2 hs) (fun _ _ z => back_of z) fun _ _ z => z)
def rOwn1 (C : Addr) (sp : Sp) (E : XK) : V → Hp → VK → Prop := fun x H Q => ∃ (a dx : Addr) (fs : List (Str × V)), x = .ref a ∧ H a = some (.ins C dx fs) ∧ sp [x] H Q E
/-- -x -/
theorem un_own (c : Met CX X.prog X.w X.K X.mg X.base k C "__neg__" sp) (hr : Room j X.A) (hk : k ≤ j) (hx : Passes CX X E) : UnR X (unaryOp .USub) (rOwn1 C sp E) := by
  intro pins s σ H x v Q I rx h
  obtain ⟨a, dx, fs, rfl, ha, hs⟩ := h
  obtain ⟨f, hf, fn, kp, run⟩ := met_run c hr hk hx
  obtain ⟨mF, F⟩ := I.fr
  obtain ⟨ox, od, J, _⟩ := inst_of I ha
  have r1 : Vals [V.ref a] [v] := .cons rx .nil
  cases (show v = Value.ref a from rx)
  exact PySem.W.ksp_neg F I.ok.mod.kin J hf fn (run pins s σ H _ _ Q I r1 hs)
/-- int's method finds no int in an own instance -/
theorem int_declines {prog : Program} {w : World} {A : Around} {Er : Value → Shared → Prop} {s : Shared} {x D : Addr} {ox : Obj} {od : Option Obj} {i : Int} {t : Tok} {nm : String} {id : String} {nmB : String} {f : Int → Int → Sem Fin} {Q : Option Value → Shared → Prop}
    (J : PySem.W.InstAt s.heap x ox D od) (hd : ox.data = .plain) (slot : Slot "int" (PySem.dunder nm) id) (entry : entryFor table id = some (Builtin.Int.intBinary nmB f)) (args : argsOk id ⟨[.int i t, .ref x], []⟩) (h : Q none s) :
    wpAny (model prog w) A (tryMethod (.int i t) (PySem.dunder nm) (.ref x)) Q Er s := by
  refine wpAny_tryMethod_declines (typeIs_int s i t) slot ?_
  refine GQ.call_here slot (typeIs_int s i t) entry args ?_
  unfold Builtin.Int.intBinary
  obtain ⟨hp, g, d, tk, os⟩ := s
  obtain ⟨oc, odd, odt, osl⟩ := ox
  dsimp only at hd
  subst hd
  have hx : hp.get? x = some _ := J.1
  wp_walk using AutoSeq1.wpAny_loadPart' hx
  exact ⟨rfl, h⟩
end
def rIOwn (C : Addr) (sp : Sp) (E : XK) : R2 := fun x y H Q => ∃ (a dx : Addr) (fs : List (Str × V)) (i : Int), x = .int i ∧ y = .ref a ∧ H a = some (.ins C dx fs) ∧ sp [y, x] H Q E
/-- i op x, i a whole number: x's reflected method -/
theorem op_Iown {X : Cx} {CX : CXT} {k j : Nat} {C : Addr} {sp : Sp} {E : XK} {op : Operator} {nm id nmB : String} {f : Int → Int → Sem Fin} (hop : op.info.2 = nm)
    (slot : Slot "int" (PySem.dunder nm) id) (entry : entryFor table id = some (Builtin.Int.intBinary nmB f)) (args : ∀ (i : Int) (t : Tok) (x : Addr), argsOk id ⟨[.int i t, .ref x], []⟩) (fills : fillsNumberSlot (.type "int") nm = pure true)
    (c : Met CX X.prog X.w X.K X.mg X.base k C (dunderR nm) sp) (hr : Room j X.A) (hk : k ≤ j) (hx : Passes CX X E) (sf : PySem.W.selfFirst X.K C = true)
    (hs : ∃ g : Addr, PySem.W.findIn X.K (.ref C) (PySem.dunder nm) = some (some (.ref g))) (hsub : PySem.W.subIn X.K (.ref C) (.type "int") = some false) : OpR X (binaryOp op) (rIOwn C sp E) := by
  intro pins s σ H x y v u Q I rx ry h
  obtain ⟨a, dx, fs, i, rfl, rfl, ha, hsp⟩ := h
  obtain ⟨g, hs⟩ := hs
  obtain ⟨f, hf, fn, kp, run⟩ := met_run c hr hk hx
  obtain ⟨ox, od, J, hd⟩ := inst_of I ha
  have r2 : Vals [V.ref a, V.int i] [u, v] := .cons ry (.cons rx .nil)
  cases (show u = Value.ref a from ry)
  obtain ⟨t, et⟩ := (show ∃ t, v = Value.int i t from rx)
  subst et
  have one := PySem.W.ksp_try (M := model X.prog X.w) (A := X.A) (name := dunderR nm) (b := .int i t) I.kIn J hf fn (wpAny_mono (run pins s σ H _ _ Q I r2 hsp) (fun _ _ z => back_of z) fun _ _ z => z)
  obtain ⟨cd, rest, hcd, hmr⟩ := PySem.W.ksp_first sf
  have K1 : X.K.In s.heap := I.kIn
  rcases hi : op.info with ⟨sym, nm'⟩
  rw [hi] at hop
  dsimp only at hop
  subst hop
  have L2 : PySem.W.Looks (model X.prog X.w) s.heap (typeOf (.ref a)) (.ref C) := J.type
  have L4 : PySem.W.Looks (model X.prog X.w) s.heap (fillsNumberSlot (.ref C) nm') true := PySem.W.fills_K K1 hcd hmr hs
  have L5 : PySem.W.Looks (model X.prog X.w) s.heap (isSubtype (.ref C) (.type "int")) false := PySem.W.looks_subIn K1 hsub
  have hne : (Value.type "int" == Value.ref C) = false := Bool.eq_false_iff.mpr fun q => by cases beq_iff_eq.mp q
  have hpy : numberSlotInPython (.type "int") nm' = pure false := rfl
  simp only [binaryOp, hi]
  refine wpAny_holding (wpAny_bind ?_)
  unfold binaryOp1
  refine wpAny_bind (wpAny_typeOf (typeIs_int s i t) (wpAny_bind (L2.here (wpAny_bind (wpAny_of_eq fills ?_)))))
  simp only [hne, Bool.false_eq_true, if_false]
  refine wpAny_bind (L4.here ?_)
  simp only [Bool.and_self, if_true]
  refine wpAny_bind (L5.here ?_)
  simp only [Bool.false_eq_true, if_false, pure_bind, Bool.not_false, Bool.and_self, if_true, hpy]
  refine wpAny_bind (int_declines J hd slot entry (args i t a) ?_)
  dsimp only
  refine wpAny_bind (wpAny_mono one (fun r s' hr' => ?_) fun _ _ e => e)
  obtain ⟨v, rfl, hq⟩ := hr'
  exact wpAny_bind (wpAny_rule (wpAny_pure (wpAny_pure hq)))
/-- abs(x), x an own instance -/
theorem call_absO {X : Cx} {CX : CXT} {k j : Nat} {C : Addr} {sp : Sp} {E : XK} (c : Met CX X.prog X.w X.K X.mg X.base k C "__abs__" sp) (hr : Room j X.A) (hk : k + 1 ≤ j) (hx : Passes CX X E) :
    CallR X (.builtin "abs") (fun xs H Q => ∃ x, xs = [x] ∧ rOwn1 C sp E x H Q) := by
  intro pins s σ H xs us Q I r h
  obtain ⟨x, rfl, a, dx, fs, rfl, ha, hs⟩ := h
  obtain ⟨f, hf, fn, kp, run⟩ := met_runA c (hr.mono hk).in1 (Nat.le_refl _) hx (fun _ _ z => z.in1)
  obtain ⟨ox, od, J, _⟩ := inst_of I ha
  have r0 := r
  obtain ⟨u, rfl, ru⟩ := vals1 r
  cases (show u = Value.ref a from ru)
  have h1 := run pins s σ H _ _ Q I r0 hs
  refine PySem.Calls.call_function_entry PyProof.Rows.kind_abs PyProof.Rows.plain_abs PyProof.Rows.entry_abs (PyProof.Rows.args_abs _) ?_
  unfold Builtin.«abs»
  refine wpAny_bind (m := oneArg "abs" _) (wpAny_pure ?_)
  refine wpAny_bind (m := callSpecial? (.ref a) (Str.ofString "__abs__")) (PySem.W.special_fn I.kIn J hf (beq_iff_eq.mp fn) (wpAny_mono h1 (fun v s' hv => ?_) fun _ _ z => z))
  exact wpAny_pure ⟨_, rfl, hv⟩
theorem UnR.or {X : Cx} {f : Value → Sem Value} {r r' : V → Hp → VK → Prop} (h : UnR X f r) (h' : UnR X f r') : UnR X f (fun x H Q => r x H Q ∨ r' x H Q) := by
  intro pins s σ H x v Q I rx q
  rcases q with q | q
  · exact h pins s σ H x v Q I rx q
  · exact h' pins s σ H x v Q I rx q
theorem CallR.or {X : Cx} {f : Value} {r r' : List V → Hp → VK → Prop} (h : CallR X f r) (h' : CallR X f r') : CallR X f (fun x H Q => r x H Q ∨ r' x H Q) := by
  intro pins s σ H x v Q I rx q
  rcases q with q | q
  · exact h pins s σ H x v Q I rx q
  · exact h' pins s σ H x v Q I rx q
/-! ### the same operators where a try stands around: what is raised is wished for at the slots -/
theorem met_runS {X : Cx} {CX : CXT} {k j : Nat} {C : Addr} {m : Str} {sp : Sp} {E : L2.St → XK} (c : Met CX X.prog X.w X.K X.mg X.base k C m sp) (hr : Room j X.A) (hk : k ≤ j) (hx : ∀ σ, PassesAt CX X σ (E σ)) :
    ∃ f : Addr, PySem.W.findIn X.K (.ref C) m = some (some (.ref f)) ∧ PySem.W.isFn X.K (.ref f) = true ∧ PySem.W.keepIn X.K (.ref f) = true ∧
      ∀ (pins : List (Addr × Obj)) (s : Shared) (σ : L2.St) (H : Hp) (us : List Value) (vs : List V) (Q : VK), Inv X pins σ H s → Vals vs us → sp vs H Q (E σ) → wpAny (model X.prog X.w) X.A (call (.ref f) us) (EP X pins σ Q) X.xe s := by
  obtain ⟨f, fd, ps, hc, hm, F, b⟩ := c.ex
  refine ⟨f, hm.at_, hm.fn, hm.kp, fun pins s σ H us vs Q I r h => ?_⟩
  have hl : us.length = ps.length := by rw [← r.length]; exact F.len _ _ _ _ h
  have hb := b s us I.kIn (by rw [List.append_nil]; exact hl)
  rw [List.append_nil] at hb
  refine wpAny_call (codeAny_mono (F.run X.A X.stack s H ⟨us, []⟩ us vs Q (E σ) (hr.mono hk) I.env0 hb r h) fun r s' hq => ?_)
  match r with
  | .error e => exact hx σ pins H s e s' I hq
  | .ok (.ret u) => exact I.after hq
  | .ok .next => exact False.elim hq
  | .ok .brk => exact False.elim hq
  | .ok .cont => exact False.elim hq
def OpRS (X : Cx) (f : Value → Value → Sem Value) (r : L2.St → R2) : Prop :=
  ∀ (pins : List (Addr × Obj)) (s : Shared) (σ : L2.St) (H : Hp) (x y : V) (v u : Value) (Q : VK), Inv X pins σ H s → RelV x v → RelV y u → r σ x y H Q →
    wpAny (model X.prog X.w) X.A (f v u) (EP X pins σ Q) X.xe s
def tOpS (r : L2.St → R2) (ta tb : TE) : TE := fun σ H Q => ta σ H fun x H1 => tb σ H1 fun y H2 => r σ x y H2 Q
theorem pe_opS {X : Cx} {a b : Expr} {ta tb : TE} {pos : Pos} {op : Operator} {r : L2.St → R2} (ho : OpRS X (binaryOp op) r) (ha : PE X a ta) (hb : PE X b tb) : PE X (.BinOp a op b pos) (tOpS r ta tb) := by
  refine ⟨fun pins s σ H Q I h => ?_⟩
  exact wpAny_BinOp (binT (R := fun x y H2 => r σ x y H2 Q) ha hb I h fun v u s2 x y H2 I2 rx ry q => ho pins s2 σ H2 x y v u Q I2 rx ry q)
theorem OpRS.or {X : Cx} {f : Value → Value → Sem Value} {r r' : L2.St → R2} (h : OpRS X f r) (h' : OpRS X f r') : OpRS X f (fun σ x y H Q => r σ x y H Q ∨ r' σ x y H Q) := by
  intro pins s σ H x y v u Q I rx ry q
  rcases q with q | q
  · exact h pins s σ H x y v u Q I rx ry q
  · exact h' pins s σ H x y v u Q I rx ry q
section
variable {X : Cx} {CX : CXT} {k j : Nat} {C : Addr} {m : Str} {sp : Sp} {E : L2.St → XK}
theorem op_ownS {op : Operator} (c : Met CX X.prog X.w X.K X.mg X.base k C m sp) (hr : Room j X.A) (hk : k ≤ j) (hx : ∀ σ, PassesAt CX X σ (E σ)) (sf : PySem.W.selfFirst X.K C = true) (hm : PySem.dunder op.info.2 = m := by decide +kernel) :
    OpRS X (binaryOp op) (fun σ => rOwn2 C sp (E σ)) := by
  intro pins s σ H x y v u Q I rx ry h
  obtain ⟨a, b, dx, dy, fs, gs, rfl, rfl, ha, hb, hs⟩ := h
  obtain ⟨f, hf, fn, kp, run⟩ := met_runS c hr hk hx
  obtain ⟨mF, F⟩ := I.fr
  obtain ⟨ox, od, J, _⟩ := inst_of I ha
  obtain ⟨oy, oe, J2, _⟩ := inst_of I hb
  have r2 : Vals [V.ref a, V.ref b] [v, u] := .cons rx (.cons ry .nil)
  cases (show v = Value.ref a from rx)
  cases (show u = Value.ref b from ry)
  exact PySem.W.binop_K F I.ok.mod.kin J J2.type sf (by rw [hm]; exact hf) fn (wpAny_mono (run pins s σ H _ _ Q I r2 hs) (fun _ _ z => back_of z) fun _ _ z => z)
theorem op_ownIS {op : Operator} (c : Met CX X.prog X.w X.K X.mg X.base k C m sp) (hr : Room j X.A) (hk : k ≤ j) (hx : ∀ σ, PassesAt CX X σ (E σ)) (sf : PySem.W.selfFirst X.K C = true)
    (hrc : ∃ rc, PySem.W.findIn X.K (.ref C) (dunderR op.info.2) = some rc ∧ (rc = none ∨ ∃ g : Addr, rc = some (.ref g)))
    (h1 : ∃ fo, PySem.W.findIn X.K (.type "int") (PySem.dunder op.info.2) = some fo) (h2 : ∃ ro, PySem.W.findIn X.K (.type "int") (dunderR op.info.2) = some ro) (hsub : PySem.W.subIn X.K (.type "int") (.ref C) = some false)
    (hm : PySem.dunder op.info.2 = m := by decide +kernel) : OpRS X (binaryOp op) (fun σ => rOwnI C sp (E σ)) := by
  intro pins s σ H x y v u Q I rx ry h
  obtain ⟨a, dx, fs, i, rfl, rfl, ha, hs⟩ := h
  obtain ⟨f, hf, fn, kp, run⟩ := met_runS c hr hk hx
  obtain ⟨rc, hrc, hp⟩ := hrc
  obtain ⟨fo, h1⟩ := h1
  obtain ⟨ro, h2⟩ := h2
  obtain ⟨mF, F⟩ := I.fr
  obtain ⟨ox, od, J, _⟩ := inst_of I ha
  have r2 : Vals [V.ref a, V.int i] [v, u] := .cons rx (.cons ry .nil)
  cases (show v = Value.ref a from rx)
  obtain ⟨t, et⟩ := (show ∃ t, u = Value.int i t from ry)
  subst et
  exact PySem.W.ksp_binT (T := "int") F I.ok.mod.kin J rfl sf (by rw [hm]; exact hf) fn hrc hp h1 h2 hsub (wpAny_mono (run pins s σ H _ _ Q I r2 hs) (fun _ _ z => back_of z) fun _ _ z => z)
end
/-- x == y, x < y .., both of one own class that has the method -/
theorem op_cmpO {X : Cx} {CX : CXT} {k j : Nat} {C : Addr} {m : Str} {sp : Sp} {E : XK} {op : CmpOp} (c : Met CX X.prog X.w X.K X.mg X.base k C m sp) (hr : Room j X.A) (hk : k ≤ j) (hx : Passes CX X E)
    (hop : ∀ v u : Value, compareOp op v u = richCompare op v u := by intro _ _; rfl) (hm : (cmpInfo op).2.1 = m := by decide +kernel) : OpR X (compareOp op) (rOwn2 C sp E) := by
  intro pins s σ H x y v u Q I rx ry h
  obtain ⟨a, b, dx, dy, fs, gs, rfl, rfl, ha, hb, hs⟩ := h
  obtain ⟨f, hf, fn, kp, run⟩ := met_run c hr hk hx
  obtain ⟨mF, F⟩ := I.fr
  obtain ⟨ox, od, J, _⟩ := inst_of I ha
  obtain ⟨oy, oe, J2, _⟩ := inst_of I hb
  have r2 : Vals [V.ref a, V.ref b] [v, u] := .cons rx (.cons ry .nil)
  cases (show v = Value.ref a from rx)
  cases (show u = Value.ref b from ry)
  rw [hop]
  have hu : X.A.units < cLine := by have := hr.un; omega
  exact PySem.W.cmp_K hu F I.ok.mod.kin J J2.type (by unfold PySem.W.notFirst; simp) (by rw [hm]; exact hf) fn (wpAny_mono (run pins s σ H _ _ Q I r2 hs) (fun _ _ z => back_of z) fun _ _ z => z)
/-! ### enumerate(tuple) -/
theorem meets_enumerate_newT (l : Addr) (items : Array Value) (n : Nat) (dct : Option Addr) (sl : Array (Option Value)) :
    Meets (Builtin.«enumerate.__new__» ⟨[.type "enumerate", .ref l], []⟩) (fun _ R s => s.heap.get? l = some { cls := .type "tuple", dict := dct, data := .seq items n, slots := sl } ∧
      R (.ok (.ret (.ref (s.heap.push { cls := .type "tuple_iterator", data := .fields #[.ref l, .int 0 0] }).objs.size)))
        { s with heap := (s.heap.push { cls := .type "tuple_iterator", data := .fields #[.ref l, .int 0 0] }).push { cls := .type "enumerate", data := .fields #[.none, .bool false, .ref s.heap.objs.size, rawInt 0, .none, .none] } }) :=
  .of_wp fun prog w A R s h => by
    obtain ⟨hp, g, d, tk, os⟩ := s
    obtain ⟨hl, h⟩ := h
    have hsub := sub_enumerate
    have hL : Heap.IsTuple (Shared.heap ⟨hp, g, d, tk, os⟩) l items := ⟨_, hl, rfl, n, rfl⟩
    wp_walk using AutoSeq1.wpAny_loadPart' hl
    refine wpAny_stack_any fun st => wpAny_pure ?_
    split
    · rename_i c _ _ _ _ _
      cases (c == Value.type "enumerate")
      · wp_walk using AutoSeq1.wpAny_loadPart' hl, wpAny_pyIter_tuple hL
        exact ⟨_, rfl, h⟩
      · wp_walk using AutoSeq1.wpAny_loadPart' hl, wpAny_pyIter_tuple hL
        exact ⟨_, rfl, h⟩
    · wp_walk using AutoSeq1.wpAny_loadPart' hl, wpAny_pyIter_tuple hL
      exact ⟨_, rfl, h⟩
theorem call_enumerate_tuple {prog : Program} {w : World} {A : Around} {E : Value → Shared → Prop} {s : Shared} {l : Addr} {items : Array Value} {Q : Value → Shared → Prop} (hL : s.heap.IsTuple l items)
    (h : ∀ h', IsEnum h' (s.heap.objs.size + 1) s.heap.objs.size 0 .none → h'.IsTupleIter s.heap.objs.size l 0 → (∀ b o, s.heap.get? b = some o → h'.get? b = some o) → Q (.ref (s.heap.objs.size + 1)) { s with heap := h' }) :
    wpAny (model prog w) A (call (.type "enumerate") [.ref l]) Q E s := by
  obtain ⟨⟨c, dct, dt, sl⟩, hl, hc, n, hd⟩ := hL
  replace hc : c = .type "tuple" := hc
  replace hd : dt = .seq items n := hd
  subst hc hd
  refine callType_new F.called_enumerate (by decide) (F.typeCall_enumerate_1 _) (F.newCall_enumerate_1 _) (fun obj => F.args_object_init_2 obj _) F.entry_enumerate_new
    (meets_enumerate_newT l items n dct sl) ⟨hl, ?_⟩
  have hz : (s.heap.push { cls := .type "tuple_iterator", data := .fields #[.ref l, .int 0 0] }).objs.size = s.heap.objs.size + 1 := Heap.size_push ..
  show _ ∧ _
  rw [hz]
  have he : IsEnum ((s.heap.push { cls := .type "tuple_iterator", data := .fields #[.ref l, .int 0 0] }).push
      { cls := .type "enumerate", data := .fields #[.none, .bool false, .ref s.heap.objs.size, rawInt 0, .none, .none] }) (s.heap.objs.size + 1) s.heap.objs.size 0 .none := by
    have z := Heap.get?_push_size (s.heap.push { cls := .type "tuple_iterator", data := .fields #[.ref l, .int 0 0] })
      (o := { cls := .type "enumerate", data := .fields #[.none, .bool false, .ref s.heap.objs.size, rawInt 0, .none, .none] }) rfl
    rw [hz] at z
    exact z
  exact ⟨⟨_, he, rfl⟩, h _ he ⟨_, Heap.get?_push_of_some _ (Heap.get?_push_size _ rfl), rfl, rfl⟩ fun b o x => Heap.get?_push_of_some _ (Heap.get?_push_of_some _ x)⟩
theorem pyNext_enumT_end {prog : Program} {w : World} {A : Around} {E : Value → Shared → Prop} {s : Shared} {e it l : Addr} {i : Nat} {items : Array Value} {old : Value} {Q : Option Value → Shared → Prop} (hh : A.handled = none)
    (he : IsEnum s.heap e it i old) (hit : s.heap.IsTupleIter it l i) (hl : s.heap.IsTuple l items) (hx : items[i]? = none)
    (hQ : ∀ h', Heap.ExtBut it s.heap h' → Q none { s with heap := h' }) : wpAny (model prog w) A (pyNext (.ref e)) Q E s := by
  have hT : s.TypeIs (.ref e) "enumerate" := ⟨_, he, rfl⟩
  unfold pyNext
  refine wpAny_bind (wpAny_attempt (wpAny_callSpecial?_slot (name := Str.ofString "__next__") hT F.slot_enumerate_next
    (wpAny_call_entry F.slot_enumerate_next hT F.entry_enumerate_next ?_ (F.args_enumerate_next_1 _))))
  show wpAny _ _ (field (.ref e) 2 >>= _) _ _ _
  refine wpAny_bind (wpAny_field he rfl (x := .ref it) rfl ?_)
  refine wpAny_bind (wpAny_nextOf_tuple_end (A := A.in1) hh hit hl hx fun h' x he' hx' => ?_)
  obtain ⟨o, ho, hc⟩ := hx'
  refine wpAny_bind (wpAny_isInstance (T := "StopIteration") (b := true) ⟨o, ho, hc⟩ isSubtype_stop ?_)
  exact wpAny_pure (hQ _ he')
/-- the tuple at a, each item in a new pair -/
def Iett (K : PySem.W.Frag) (a : Addr) : It :=
  ⟨fun i H => ∃ (xs : List V) (x : V), SqT K H a xs ∧ xs[i]? = some x, fun i H v H' => ∃ T x, v = .ref T ∧ H T = none ∧ H' = upd H T (.tup [.int (i : Nat), x]) ∧ ∀ xs, SqT K H a xs → xs[i]? = some x, fun i H => ∃ xs : List V, SqT K H a xs ∧ xs.length ≤ i⟩
theorem turn_enumT {P : Program} {w : World} {K : PySem.W.Frag} {elts : List Expr} {kk : Nat} {tpos : Pos} (a e it : Addr) :
    Turn P w K (.Tuple elts kk tpos) (Iett K a) [e, it] e (fun i h => (∃ old, IsEnum h e it ((i : Nat) : Int) old) ∧ h.IsTupleIter it a i ∧ e ≠ it ∧ a ≠ it ∧ a ≠ e) where
  mem := by simp
  obj := fun i h st b hb => by
    obtain ⟨⟨old, he⟩, ⟨o, ho, hc, hd⟩, _⟩ := st
    have e' : b = e ∨ b = it := by simpa using hb
    rcases e' with z | z
    · rw [z]; exact ⟨_, he, fun v q => nomatch q⟩
    · rw [z]; exact ⟨o, ho, fun v q => by rw [hd] at q; cases q⟩
  keep := fun i h h' st k => let ⟨⟨old, he⟩, hi, hne⟩ := st; ⟨⟨old, k e (by simp) _ he⟩, hi.at fun o q => k it (by simp) o q, hne⟩
  item := by
    intro X hP hw hK hc i pins s σ H E I hf st hg
    subst hP hw hK
    obtain ⟨⟨old, he⟩, hit, hne, hae, hea⟩ := st
    obtain ⟨xs, x, hq, hx⟩ := hg
    obtain ⟨its, rv, p, hz⟩ := I.tuple hq
    obtain ⟨u, hu, ru⟩ := rv.get hx
    have p' : s.heap.IsTuple a its.toArray := p
    have hel : e < s.heap.objs.size := Heap.lt_size he
    have hil : it < s.heap.objs.size := by obtain ⟨_, q, _⟩ := hit; exact Heap.lt_size q
    have hii : i < its.toArray.size := by
      have := (List.getElem?_eq_some_iff.mp hu).1
      simpa using this
    have D := Draws.tuple (prog := X.prog) (w := X.w) (A := X.A.in1) (I.ok.hd hc) it a hae its.toArray
    refine PySem.wpAny_pyNext_enum_itemC D he ⟨hit, p'⟩ hii hne (by simp [Ne.symm hea, hne]) fun y h' tk hy ho hst' hT hsz hk => ?_
    have hyu : y = u := by
      have e1 : its.toArray[i]? = some y := hy
      rw [List.getElem?_toArray] at e1
      rw [hu] at e1
      exact (Option.some.inj e1).symm
    subst hyu
    refine ⟨_, rfl, wpAny_letOwnedTupleGo_enum (s := { s with heap := h', toks := tk + 1 }) ho fun h'' he' sb => ?_⟩
    have hT2 : h''.get? s.heap.objs.size = some { cls := .type "tuple", data := .seq #[.int i tk, y] } := (sb.2 _ (Nat.ne_of_gt hel)).trans hT
    have new : ObjOk X.prog X.w (upd H s.heap.objs.size (.tup [.int (i : Nat), x])) h'' s.heap.objs.size (.tup [.int (i : Nat), x]) :=
      ⟨by show 2 ≤ sizeLine; decide, [.int i tk, y], .cons ⟨_, rfl⟩ (.cons ru .nil), ⟨_, hT2, rfl, _, rfl⟩⟩
    have I1 : Inv X pins σ (upd H s.heap.objs.size (.tup [.int (i : Nat), x])) { s with heap := h'', toks := tk + 1 } :=
      I.turnedNew (ch := [e, it]) (fun b ob hb q => (sb.2 b (fun z => hb (by simp [z]))).trans (hk b ob (fun z => hb (by simp [z])) (fun z => hb (by simp [z])) q)) hf (Nat.le_refl _) new
    refine ⟨.ref s.heap.objs.size, _, I1, rfl, ⟨_, x, rfl, I.hok.fresh (Nat.le_refl _), rfl, fun ys hy => by rw [I.tuple_inj hy hq]; exact hx⟩, ⟨⟨y, ?_⟩, hst'.1.at fun o q => (sb.2 it (Ne.symm hne)).trans q, hne, hae, hea⟩, fun b hb => ?_⟩
    · have e1 : ((i + 1 : Nat) : Int) = (i : Int) + 1 := by omega
      rw [e1]; exact he'
    · have hb' : b < s.heap.objs.size := by
        have e' : b = e ∨ b = it := by simpa using hb
        rcases e' with z | z
        · rw [z]; exact hel
        · rw [z]; exact hil
      rw [upd_ne (Nat.ne_of_lt hb')]
      exact (hf b hb).1
  done := by
    intro X hP hw hK hc i pins s σ H E I hf st hg
    subst hP hw hK
    obtain ⟨⟨old, he⟩, hit, hne, hae, hea⟩ := st
    obtain ⟨xs, hq, hx⟩ := hg
    obtain ⟨its, rv, p, hz⟩ := I.tuple hq
    obtain ⟨f0, f1, f2, f3, f4, f5⟩ := hf it (by simp)
    have hl := rv.length
    have p' : s.heap.IsTuple a its.toArray := p
    exact pyNext_enumT_end (I.ok.hd hc) he hit p' (by simp; omega) fun h' eb => ⟨rfl, I.turned (t' := s.toks) (fun b o hb q => eb b o hb q) f0 f1 f3 f4 f5⟩
  self := fun A i s Q E st h => let ⟨⟨_, he⟩, _⟩ := st; wpAny_pyIter_enum he h
/-- what stands at a: a list or a tuple -/
def SqB (K : PySem.W.Frag) (b : Bool) (H : Hp) (a : Addr) (xs : List V) : Prop := if b then SqT K H a xs else SqL K H a xs
def ItB (K : PySem.W.Frag) (b : Bool) (a : Addr) : It := if b then Iett K a else Ite K a
/-- enumerate over a list or a tuple -/
def iEnumS (K : PySem.W.Frag) (ta : TA) : TI := fun σ H R => ta σ H fun vs H1 => ∃ a xs b, vs = [.ref a] ∧ SqB K b H1 a xs ∧ R (ItB K b a) H1
theorem pi_enumS {X : Cx} {e : Expr} {ta : TA} {p pos tpos : Pos} {elts : List Expr} {kk : Nat} (hg : Gl X "enumerate") (hm : X.mg "enumerate" = none) (ha : PA X [e] ta) (hs : starEach [e] X.env = [(false, eval e X.env)] := by rfl) :
    PI X (.Tuple elts kk tpos) (.Call (.Name "enumerate" p) [e] [] pos) (iEnumS X.K ta) := by
  refine ⟨fun pins s σ H R I h => ?_⟩
  refine Call_ (ld_blt I hg hm boot_enumerate (PyProof.Rows.callWith_type1 (thn (ha.run pos pins s σ H _ I h) fun us s1 ⟨vs, H1, I1, r1, q1⟩ => ?_) hs rfl))
  obtain ⟨a, xs, bb, ex, hq, q⟩ := q1
  subst ex
  cases r1 with
  | cons r rr =>
    cases rr
    cases r
    cases bb
    · obtain ⟨its, rv, p', hz⟩ := I1.list hq
      refine call_enumerate_list p'.isList fun h' he hit hsz hk => wpAny_pyIter_enum he ?_
      have I2 : Inv X pins σ H1 { s1 with heap := h' } := I1.kept (t' := s1.toks) hk
      refine ⟨s1.heap.objs.size + 1, [s1.heap.objs.size + 1, s1.heap.objs.size], _, _, H1, rfl, I2, turn_enum a (s1.heap.objs.size + 1) s1.heap.objs.size, ⟨⟨.none, he⟩, hit, Nat.succ_ne_self _⟩, fun b hb => ?_, q⟩
      have e' : b = s1.heap.objs.size + 1 ∨ b = s1.heap.objs.size := by simpa using hb
      have hle : s1.heap.objs.size ≤ b := by
        rcases e' with z | z
        · rw [z]; exact Nat.le_add_right _ _
        · rw [z]; exact Nat.le_refl _
      exact I1.fpOk hle (I1.hok.fresh hle)
    · obtain ⟨its, rv, p', hz⟩ := I1.tuple hq
      have hL : s1.heap.IsTuple a its.toArray := p'
      have hlt : a < s1.heap.objs.size := by obtain ⟨_, q0, _⟩ := hL; exact Heap.lt_size q0
      refine call_enumerate_tuple hL fun h' he hit hk => wpAny_pyIter_enum he ?_
      have I2 : Inv X pins σ H1 { s1 with heap := h' } := I1.kept (t' := s1.toks) hk
      refine ⟨s1.heap.objs.size + 1, [s1.heap.objs.size + 1, s1.heap.objs.size], _, _, H1, rfl, I2, turn_enumT a (s1.heap.objs.size + 1) s1.heap.objs.size, ⟨⟨.none, he⟩, hit, Nat.succ_ne_self _, Nat.ne_of_lt hlt, Nat.ne_of_lt (Nat.lt_succ_of_lt hlt)⟩, fun b hb => ?_, q⟩
      have e' : b = s1.heap.objs.size + 1 ∨ b = s1.heap.objs.size := by simpa using hb
      have hle : s1.heap.objs.size ≤ b := by
        rcases e' with z | z
        · rw [z]; exact Nat.le_add_right _ _
        · rw [z]; exact Nat.le_refl _
      exact I1.fpOk hle (I1.hok.fresh hle)
/-- the turns of enumerate over a list or a tuple: Sq is how the items stand there -/
theorem for_enumI {K : PySem.W.Frag} {I : It} {Sq : Hp → Prop} {xs : List V} {g : TG} {tb : TS} {D : Ends} {σ : L2.St} {H : Hp} (Pv : Nat → L2.St → Hp → Prop) (h0 : Pv 0 σ H) (hl : ∀ i σ H, i ≤ xs.length → Pv i σ H → Sq H)
    (hgo : ∀ H i x, Sq H → xs[i]? = some x → I.go i H) (hy : ∀ H i x H', Sq H → I.yld i H x H' → ∃ T z, x = .ref T ∧ H T = none ∧ H' = upd H T (.tup [.int (i : Nat), z]) ∧ xs[i]? = some z) (hst : ∀ H, Sq H → I.stop xs.length H)
    (hs : ∀ i x σ H T, xs[i]? = some x → Pv i σ H → H T = none → g (.ref T) σ (upd H T (.tup [.int (i : Nat), x])) fun σ2 H2 => tb { D with nx := Pv (i + 1), ct := Pv (i + 1), bk := D.nx } σ2 H2) (hd : ∀ σ H, Pv xs.length σ H → D.nx σ H) :
    ∃ W : Nat → Nat → L2.St → Hp → Prop, (∃ m, W 0 m σ H) ∧ ∀ i m σ H, W i m σ H →
      (I.stop i H ∧ D.nx σ H) ∨ (I.go i H ∧ ∃ N : L2.St → Hp → Prop, (∀ σ' H', N σ' H' → ∃ m', m' < m ∧ W (i + 1) m' σ' H') ∧ ∀ x H', I.yld i H x H' → g x σ H' fun σ2 H2 => tb { D with nx := N, ct := N, bk := D.nx } σ2 H2) := by
  refine ⟨fun i m σ H => m = xs.length - i ∧ i ≤ xs.length ∧ Pv i σ H, ⟨xs.length, by simp, Nat.zero_le _, h0⟩, ?_⟩
  rintro i m σ H ⟨rfl, hi, p⟩
  have q := hl i σ H hi p
  by_cases hlt : i < xs.length
  · refine .inr ⟨hgo H i xs[i] q (by simp [hlt]), Pv (i + 1), fun σ' H' p' => ⟨xs.length - (i + 1), by omega, rfl, hlt, p'⟩, fun x H' y => ?_⟩
    obtain ⟨T, z, e1, e2, e3, e4⟩ := hy _ _ _ _ q y
    subst e1 e3
    exact hs i z σ H T e4 p e2
  · have e : i = xs.length := by omega
    subst e
    exact .inl ⟨hst H q, hd σ H p⟩
theorem for_enumB {K : PySem.W.Frag} {bb : Bool} {a : Addr} {xs : List V} {g : TG} {tb : TS} {D : Ends} {σ : L2.St} {H : Hp} (Pv : Nat → L2.St → Hp → Prop) (h0 : Pv 0 σ H) (hl : ∀ i σ H, i ≤ xs.length → Pv i σ H → SqB K bb H a xs)
    (hs : ∀ i x σ H T, xs[i]? = some x → Pv i σ H → H T = none → g (.ref T) σ (upd H T (.tup [.int (i : Nat), x])) fun σ2 H2 => tb { D with nx := Pv (i + 1), ct := Pv (i + 1), bk := D.nx } σ2 H2) (hd : ∀ σ H, Pv xs.length σ H → D.nx σ H) :
    ∃ W : Nat → Nat → L2.St → Hp → Prop, (∃ m, W 0 m σ H) ∧ ∀ i m σ H, W i m σ H →
      ((ItB K bb a).stop i H ∧ D.nx σ H) ∨ ((ItB K bb a).go i H ∧ ∃ N : L2.St → Hp → Prop, (∀ σ' H', N σ' H' → ∃ m', m' < m ∧ W (i + 1) m' σ' H') ∧ ∀ x H', (ItB K bb a).yld i H x H' → g x σ H' fun σ2 H2 => tb { D with nx := N, ct := N, bk := D.nx } σ2 H2) := by
  refine for_enumI (K := K) (I := ItB K bb a) (Sq := fun H => SqB K bb H a xs) Pv h0 hl ?_ ?_ ?_ hs hd
  · cases bb
    · exact fun H i x q e => ⟨xs, x, q, e⟩
    · exact fun H i x q e => ⟨xs, x, q, e⟩
  · cases bb
    · rintro H i x H' q ⟨T, z, e1, e2, e3, e4⟩
      exact ⟨T, z, e1, e2, e3, e4 xs q⟩
    · rintro H i x H' q ⟨T, z, e1, e2, e3, e4⟩
      exact ⟨T, z, e1, e2, e3, e4 xs q⟩
  · cases bb
    · exact fun H q => ⟨xs, q, Nat.le_refl _⟩
    · exact fun H q => ⟨xs, q, Nat.le_refl _⟩
/-! ### len(o), iter(tuple), list(o): an own class with __len__ and an __iter__ that answers iter(a tuple) -/
theorem take_snocG {α : Type} {l : List α} {i : Nat} {x : α} (h : l[i]? = some x) : l.take i ++ [x] = l.take (i + 1) := by
  rw [List.take_add_one, h]
  rfl
/-- a tuple iterator at it: over the tuple at t, i items are drawn; itA: in any state -/
def itO (it t : Addr) (i : Nat) : HO := .ext fun h => h.IsTupleIter it t i
def itA (it : Addr) : HO := .ext fun h => ∃ o, h.get? it = some o ∧ o.cls = .type "tuple_iterator"
theorem itO_ok {P : Program} {w : World} {H : Hp} {h : Heap} {it t : Addr} {i : Nat} (he : h.IsTupleIter it t i) : ObjOk P w H h it (itO it t i) :=
  ⟨he, let ⟨o, e, _⟩ := he; ⟨o, e⟩, fun h1 h2 z k => let ⟨o, e, r⟩ := z; ⟨o, k _ e, r⟩⟩
theorem itA_ok {P : Program} {w : World} {H : Hp} {h : Heap} {it : Addr} (he : ∃ o, h.get? it = some o ∧ o.cls = .type "tuple_iterator") : ObjOk P w H h it (itA it) :=
  ⟨he, let ⟨o, e, _⟩ := he; ⟨o, e⟩, fun h1 h2 z k => let ⟨o, e, r⟩ := z; ⟨o, k _ e, r⟩⟩
theorem itO_get {P : Program} {w : World} {H : Hp} {h : Heap} {it t : Addr} {i : Nat} (hok : HOk P w H h) (he : H it = some (itO it t i)) : h.IsTupleIter it t i := by
  have x : ObjOk P w H h it (.ext fun h => h.IsTupleIter it t i) := hok it _ he
  exact x.1
theorem call_iterT {X : Cx} : CallR X (.builtin "iter") (fun xs H Q => ∃ (a : Addr) (ys : List V), xs = [.ref a] ∧ SqT X.K H a ys ∧ ∀ it, H it = none → Q (.ref it) (upd H it (itO it a 0))) := by
  intro pins s σ H xs us Q I r h
  obtain ⟨a, ys, rfl, hq, q⟩ := h
  obtain ⟨u, rfl, ru⟩ := vals1 r
  cases (show u = Value.ref a from ru)
  obtain ⟨its, rv, p, hz⟩ := I.tuple hq
  have hL : s.heap.IsTuple a its.toArray := p
  refine Calls.call_function_entry (by decide +kernel) (by decide +kernel) PySem.W.kdk_entry_iter (PySem.W.kdk_args_iter _) ?_
  unfold Builtin.«iter»
  refine wpAny_bind (m := someArgs "iter" 1 2 _) (wpAny_of_eq (a := [Value.ref a]) (by first | rfl | kernel_rfl!) ?_)
  show wpAny _ _ (pyIter (.ref a) >>= _) _ _ _
  refine wpAny_bind (wpAny_pyIter_tuple hL ?_)
  exact wpAny_pure ⟨_, rfl, .ref s.heap.objs.size, _, I.laid (t' := s.toks) (fun b u e => Heap.get?_push_of_some _ e) (Nat.le_refl _) (itO_ok ⟨_, Heap.get?_push_size _ rfl, rfl, rfl⟩), rfl, q _ (I.hok.fresh (Nat.le_refl _))⟩
def rLenO (C : Addr) (sp : Sp) (E : XK) : List V → Hp → VK → Prop := fun xs H Q => ∃ (a dx : Addr) (fs : List (Str × V)), xs = [.ref a] ∧ H a = some (.ins C dx fs) ∧ sp [.ref a] H (fun v H' => ∃ n : Nat, v = .int n ∧ (n : Int) < 2 ^ 63 ∧ Q (.int n) H') E
/-- an own method that raises nothing, called at any depth -/
theorem met_run0 {X : Cx} {A : Around} {k j : Nat} {C : Addr} {m : Str} {sp : Sp} {E : XK} (c : Met CX0 X.prog X.w X.K X.mg X.base k C m sp) (hr : Room j A) (hk : k ≤ j)
    (hA : ∀ (s : Shared) (H : Hp), Env0 X.prog X.w X.K X.mg X.base X.A X.stack s H → Env0 X.prog X.w X.K X.mg X.base A X.stack s H) :
    ∃ f : Addr, PySem.W.findIn X.K (.ref C) m = some (some (.ref f)) ∧ PySem.W.isFn X.K (.ref f) = true ∧ PySem.W.keepIn X.K (.ref f) = true ∧
      ∀ (pins : List (Addr × Obj)) (s : Shared) (σ : L2.St) (H : Hp) (us : List Value) (vs : List V) (Q : VK) (EE : Value → Shared → Prop), Inv X pins σ H s → Vals vs us → sp vs H Q E → wpAny (model X.prog X.w) A (call (.ref f) us) (EP X pins σ Q) EE s := by
  obtain ⟨f, fd, ps, hc, hm, F, b⟩ := c.ex
  refine ⟨f, hm.at_, hm.fn, hm.kp, fun pins s σ H us vs Q EE I r h => ?_⟩
  have hl : us.length = ps.length := by rw [← r.length]; exact F.len _ _ _ _ h
  have hb := b s us I.kIn (by rw [List.append_nil]; exact hl)
  rw [List.append_nil] at hb
  refine wpAny_call (codeAny_mono (F.run A X.stack s H ⟨us, []⟩ us vs Q E (hr.mono hk) (hA _ _ I.env0) hb r h) fun r s' hq => ?_)
  match r with
  | .error e => exact False.elim hq
  | .ok (.ret u) => exact I.after hq
  | .ok .next => exact False.elim hq
  | .ok .brk => exact False.elim hq
  | .ok .cont => exact False.elim hq
abbrev EnvA (X : Cx) (A : Around) : Prop := ∀ (s : Shared) (H : Hp), Env0 X.prog X.w X.K X.mg X.base X.A X.stack s H → Env0 X.prog X.w X.K X.mg X.base A X.stack s H
/-- len(o) as a built-in's call, at any depth -/
theorem len_at {X : Cx} {A : Around} {k j : Nat} {C : Addr} {sp : Sp} {E : XK} (c : Met CX0 X.prog X.w X.K X.mg X.base k C "__len__" sp) (hr : Room j A.in1) (hk : k ≤ j) (hA : EnvA X A.in1)
    {pins : List (Addr × Obj)} {s : Shared} {σ : L2.St} {H : Hp} {a dx : Addr} {fs : List (Str × V)} {Q : VK} {EE : Value → Shared → Prop} (I : Inv X pins σ H s) (ha : H a = some (.ins C dx fs)) (hs : sp [.ref a] H (fun v H' => ∃ n : Nat, v = .int n ∧ (n : Int) < 2 ^ 63 ∧ Q (.int n) H') E) :
    wpAny (model X.prog X.w) A (call (.builtin "len") [.ref a]) (EP X pins σ Q) EE s := by
  obtain ⟨f, hf, fn, kp, run⟩ := met_run0 c hr hk hA
  obtain ⟨ox, od, J, _⟩ := inst_of I ha
  have h1 := run pins s σ H [.ref a] [.ref a] _ EE I (.cons rfl .nil) hs
  refine PySem.Calls.call_function_entry PySem.kind_len PySem.plain_len PySem.entry_len (PySem.args_len1 _) ?_
  unfold Builtin.«len»
  refine wpAny_bind (m := oneArg "len" _) (wpAny_pure ?_)
  refine wpAny_bind (m := callSpecial? (.ref a) (Str.ofString "__len__")) (PySem.W.special_fn I.kIn J hf (beq_iff_eq.mp fn) (wpAny_mono h1 (fun v s' hv => ?_) fun _ _ z => z))
  obtain ⟨x, H', I', rv, n, rfl, hn, q⟩ := hv
  obtain ⟨t, rfl⟩ := rv
  have h0 : ¬ ((n : Int) < 0) := by omega
  have h1 : ¬ ((n : Int) ≥ 2 ^ 63) := by omega
  wp_walk
  rw [if_neg h1]
  wp_walk
  exact ⟨_, rfl, .int n, H', I'.tok _, ⟨_, rfl⟩, q⟩
theorem call_lenO {X : Cx} {k j : Nat} {C : Addr} {sp : Sp} {E : XK} (c : Met CX0 X.prog X.w X.K X.mg X.base k C "__len__" sp) (hr : Room j X.A) (hk : k + 1 ≤ j) : CallR X (.builtin "len") (rLenO C sp E) := by
  intro pins s σ H xs us Q I r h
  obtain ⟨a, dx, fs, rfl, ha, hs⟩ := h
  obtain ⟨u, rfl, ru⟩ := vals1 r
  cases (show u = Value.ref a from ru)
  exact len_at c (hr.mono hk).in1 (Nat.le_refl _) (fun _ _ z => z.in1) I ha hs
/-- list(o)'s guess of the length: o's own __len__ -/
theorem hint_at {X : Cx} {A : Around} {k j : Nat} {C : Addr} {sp : Sp} {E : XK} (c : Met CX0 X.prog X.w X.K X.mg X.base k C "__len__" sp) (hr : Room j A.in1) (hk : k ≤ j) (hA : EnvA X A.in1)
    {pins : List (Addr × Obj)} {s : Shared} {σ : L2.St} {H : Hp} {a dx : Addr} {fs : List (Str × V)} {Q : Hp → Prop} {EE : Value → Shared → Prop} (I : Inv X pins σ H s) (ha : H a = some (.ins C dx fs))
    (hs : sp [.ref a] H (fun v H' => ∃ n : Nat, v = .int n ∧ (n : Int) < 2 ^ 63 ∧ ∃ m : Nat, V.int n = .int (m : Nat) ∧ m ≤ 100000 ∧ Q H') E) :
    wpAny (model X.prog X.w) A (Builtin.List.listLengthHint (.ref a)) (fun _ s' => ∃ H', Inv X pins σ H' s' ∧ Q H') EE s := by
  obtain ⟨ox, od, J, _⟩ := inst_of I ha
  obtain ⟨f, hf, fn, kp, run⟩ := met_run0 (E := E) c hr hk hA
  have h1 := len_at c hr hk hA (Q := fun v H' => ∃ m : Nat, v = .int (m : Nat) ∧ m ≤ 100000 ∧ Q H') (EE := fun _ _ => False) I ha hs
  unfold Builtin.List.listLengthHint
  refine wpAny_bind (wpAny_bind (J.type.here ((PySem.W.looks_findIn I.kIn hf).here ?_)))
  refine PySem.W.KFB.if_not rfl ?_
  refine PySem.W.KFB.if_so rfl ?_
  refine wpAny_bind (wpAny_rule (wpAny_bind (wpAny_attempt (wpAny_mono h1 (fun v s' hv => ?_) fun _ _ z => z.elim))))
  obtain ⟨x, H', I', rv, m, rfl, hm, q⟩ := hv
  obtain ⟨t, rfl⟩ := rv
  have h2 : Builtin.List.listTooLong ((m : Int).toNat) = false := by
    show decide ((m : Int).toNat > sizeLine) = false
    rw [decide_eq_false_iff_not, Int.toNat_natCast, sizeLine_eq]
    omega
  refine wpAny_bind (wpAny_pure ?_)
  refine PySem.W.KFB.if_not (by rw [h2]) ?_
  exact wpAny_pure ⟨H', I', q⟩
section
variable {prog : Program} {w : World} {A : Around} {E : Value → Shared → Prop} {s : Shared}
/-- a tuple iterator that has drawn all: it is still there -/
theorem next_over {it t : Addr} {i : Nat} {items : Array Value} {Q : Option Value → Shared → Prop} (hh : A.handled = none) (hit : s.heap.IsTupleIter it t i) (ht : s.heap.IsTuple t items) (hx : items[i]? = none)
    (hQ : ∀ h', Heap.ExtBut it s.heap h' → (∃ o, h'.get? it = some o ∧ o.cls = .type "tuple_iterator") → Q none { s with heap := h' }) : wpAny (model prog w) A (pyNext (.ref it)) Q E s := by
  obtain ⟨ob, hob, hcl, hda⟩ := id hit
  obtain ⟨ol, hol, _, nl, hdl⟩ := ht
  have there : ∀ (f : Array Value → Array Value) (x y : Obj), ∃ o, (((s.heap.update it (Obj.mapFields f)).push x).push y).get? it = some o ∧ o.cls = .type "tuple_iterator" := fun f x y =>
    ⟨_, Heap.get?_push_of_some _ (Heap.get?_push_of_some _ (Heap.get?_update_self _ hob (Obj.isFreed_of_fields (Obj.data_mapFields hda _)))), (Obj.cls_mapFields ..).trans hcl⟩
  unfold pyNext
  refine wpAny_bind (wpAny_attempt (wpAny_callSpecial?_slot (name := Str.ofString "__next__") hit.typeIs F.slot_tuple_iterator_next
    (wpAny_call_entry F.slot_tuple_iterator_next hit.typeIs F.entry_tuple_iterator_next ?_ (F.args_tuple_iterator_next_1 _))))
  show wpAny _ _ (field (.ref it) 0 >>= _) _ _ s
  refine wpAny_bind (wpAny_field hob hda (x := .ref t) rfl ?_)
  show wpAny _ _ (if (Value.ref t == Value.none) = true then _ else _) _ _ s
  rw [if_neg (show ¬ ((Value.ref t == Value.none) = true) from Bool.false_ne_true)]
  show wpAny _ _ (field (.ref it) 1 >>= _) _ _ s
  refine wpAny_bind (wpAny_field hob hda (x := .int i 0) rfl ?_)
  show wpAny _ _ (seqItems? (.ref t) >>= _) _ _ s
  refine wpAny_bind (wpAny_seqItems hol hdl ?_)
  simp only [Int.toNat_natCast, hx]
  refine wpAny_bind (wpAny_rule (wpAny_bind (wpAny_setField hob hda (by simp) ?_)))
  show wpAny _ _ (newExc (.type "StopIteration") [] >>= _) _ _ _
  refine wpAny_bind ?_
  simp only [newExc, newTuple]
  refine wpAny_bind (wpAny_newObj_type ?_ (by size_fits))
  refine wpAny_bind (m := firstArgMember _ _) (wpAny_of_eq (a := Value.none) (by first | rfl | (simp only [firstArgMember]; rfl)) ?_)
  refine wpAny_newObj_type ?_ (by size_fits)
  simp only [raiseNew]
  refine wpAny_bind (wpAny_handled ?_)
  first | rw [show A.in1.handled = none from hh] | rw [hh]
  refine wpAny_bind (wpAny_pure (wpAny_throw ?_))
  refine wpAny_bind (wpAny_isInstance (T := "StopIteration") (b := true) ⟨_, Heap.get?_push_size _ rfl, rfl⟩ isSubtype_stop ?_)
  exact wpAny_pure (hQ _ (((Heap.SameBut.update ..).extBut.push _).push _) (there ..))
end
/-- the loop that fills the list at q from the iterator at it over the tuple at t -/
theorem it_loop {X : Cx} {A1 : Around} (hh : A1.handled = none) {pins : List (Addr × Obj)} {σ : L2.St} {q it t : Addr} {ys : List V} {R : Result → Shared → Prop} {H0 : Hp} (nqi : q ≠ it)
    (hdone : ∀ H s, Inv X pins σ H s → (∀ b, b ≠ it → b ≠ q → H b = H0 b) → H q = some (.lst ys) → R (.ok (.ret .none)) s) (ht : SqT X.K H0 t ys) (hit0 : H0 it = some (itO it t 0)) (hq0 : H0 q = some (.lst [])) :
    ∀ (k i : Nat) (H : Hp) (s : Shared), ys.length - i = k → i ≤ ys.length → Inv X pins σ H s → (∀ b, b ≠ it → b ≠ q → H b = H0 b) → H it = some (itO it t i) → H q = some (.lst (ys.take i)) →
      codeAny (model X.prog X.w) A1 (.builtin "list.extend.loop" ⟨[.ref q, .ref it, .none], []⟩) R s := by
  have nt : ∀ {H : Hp}, (∀ b, b ≠ it → b ≠ q → H b = H0 b) → SqT X.K H t ys := fun {H} hb => by
    rcases ht with (h | ⟨o, h⟩) | h
    · exact .inl (.inl ((hb t (fun w => by rw [w, hit0] at h; cases h) (fun w => by rw [w, hq0] at h; cases h)).trans h))
    · exact .inl (.inr ⟨o, (hb t (fun w => by rw [w, hit0] at h; cases h) (fun w => by rw [w, hq0] at h; cases h)).trans h⟩)
    · exact .inr h
  intro k
  induction k with
  | zero =>
    intro i H s hk hi I hb hit hq
    have e : i = ys.length := by omega
    subst e
    obtain ⟨its, rv, p, hz⟩ := I.tuple (nt hb)
    have hL : s.heap.IsTuple t its.toArray := p
    have hlen := rv.length
    refine codeAny_builtin PySem.F.entry_extend_loop ?_
    rw [Around.under_plainId PySem.F.plain_extend_loop _]
    show wpAny _ A1.in1 (pyNext (.ref it) >>= _) _ _ s
    refine wpAny_bind (next_over (A := A1.in1) hh (itO_get I.hok hit) hL (by simp; omega) fun h' eb ho => ?_)
    have J := I.write (t' := s.toks) (x := it) (e := it) (o := itA it) (by rw [hit]; exact True.intro) (.inl rfl) (fun b u nb z => eb b u nb z) (let ⟨o, e, _⟩ := ho; ⟨o, e⟩) (itA_ok ho)
    refine wpAny_pure (hdone _ _ J (fun b n1 n2 => by rw [upd_ne n1]; exact hb b n1 n2) ?_)
    rw [upd_ne nqi, hq, List.take_length]
  | succ k ih =>
    intro i H s hk hi I hb hit hq
    have hlt : i < ys.length := by omega
    obtain ⟨its, rv, p, hz⟩ := I.tuple (nt hb)
    have hL : s.heap.IsTuple t its.toArray := p
    have hlen := rv.length
    obtain ⟨u, hu, ru⟩ := rv.get (List.getElem?_eq_getElem hlt)
    refine codeAny_builtin PySem.F.entry_extend_loop ?_
    rw [Around.under_plainId PySem.F.plain_extend_loop _]
    show wpAny _ A1.in1 (pyNext (.ref it) >>= _) _ _ s
    refine wpAny_bind (wpAny_pyNext_tuple_item (itO_get I.hok hit) hL (x := u) (by simpa using hu) fun h' hit' hs' => ?_)
    have J := I.write (t' := s.toks) (x := it) (e := it) (o := itO it t (i + 1)) (by rw [hit]; exact True.intro) (.inl rfl) (fun b v nb z => (hs'.2 b nb).trans z) (let ⟨o, e, _⟩ := hit'; ⟨o, e⟩) (itO_ok hit')
    have hq1 : (upd H it (itO it t (i + 1))) q = some (.lst (ys.take i)) := by rw [upd_ne nqi]; exact hq
    show wpAny _ A1.in1 (updateSeq q (·.push u) >>= _) _ _ _
    obtain ⟨z, its2, k2, r2, hl2, e2⟩ := J.lstM hq1
    have l2 := r2.length
    rw [List.length_take] at l2
    rw [sizeLine_eq] at hz
    have hmin : min i ys.length = i := Nat.min_eq_left (by omega)
    rw [hmin] at l2
    refine wpAny_bind (wpAny_updateSeq e2 rfl (wpAny_pure ⟨plainId_quiet PySem.F.plain_extend_loop _, ?_⟩) (by rw [List.size_toArray, sizeLine_eq]; omega) (by show (its2.toArray.push u).size ≤ sizeLine + 1; rw [Array.size_push, List.size_toArray, sizeLine_eq]; omega))
    refine ih (i + 1) _ _ (by omega) (by omega) (J.lset (its' := its2 ++ [u]) (t' := s.toks) hq1 e2 (by simp) (r2.append (.cons ru .nil)) (by rw [List.length_append, List.length_singleton, List.length_take, sizeLine_eq]; omega)) ?_ ?_ ?_
    · intro b n1 n2
      rw [upd_ne n2, upd_ne n1]
      exact hb b n1 n2
    · rw [upd_ne nqi.symm, upd_same]
    · rw [upd_same, ← take_snocG (List.getElem?_eq_getElem hlt)]
/-- list(o): o's __iter__ answers iter(a tuple of ys), its __len__ a small number -/
def rListO (K : PySem.W.Frag) (C : Addr) (spI spL : Sp) : List V → Hp → VK → Prop := fun xs H Q => ∃ (a dx : Addr) (fs : List (Str × V)), xs = [.ref a] ∧ H a = some (.ins C dx fs) ∧
  ∀ q, H q = none → spI [.ref a] (upd H q (.lst [])) (fun v H2 => ∃ (it t : Addr) (ys : List V) (dx2 : Addr) (fs2 : List (Str × V)), v = .ref it ∧ H2 it = some (itO it t 0) ∧ H2 a = some (.ins C dx2 fs2) ∧ q ≠ it ∧
    spL [.ref a] H2 (fun v H3 => ∃ n : Nat, v = .int n ∧ (n : Int) < 2 ^ 63 ∧ ∃ m : Nat, V.int n = .int (m : Nat) ∧ m ≤ 100000 ∧ (SqT K H3 t ys ∧ H3 it = some (itO it t 0) ∧ H3 q = some (.lst []) ∧
      ∀ H4 : Hp, (∀ b, b ≠ it → b ≠ q → H4 b = H3 b) → H4 q = some (.lst ys) → Q (.ref q) H4)) E0) E0
theorem call_listO {X : Cx} (hcalm : X.calm = true) {kI kL j : Nat} {C : Addr} {spI spL : Sp} (cI : Met CX0 X.prog X.w X.K X.mg X.base kI C "__iter__" spI) (cL : Met CX0 X.prog X.w X.K X.mg X.base kL C "__len__" spL) (hr : Room j X.A) (hkI : kI + 3 ≤ j) (hkL : kL + 3 ≤ j) :
    CallR X (.type "list") (rListO X.K C spI spL) := by
  intro pins s σ H xs us Q I rv h
  obtain ⟨a, dx, fs, rfl, ha, hq⟩ := h
  obtain ⟨u, rfl, ru⟩ := vals1 rv
  cases (show u = Value.ref a from ru)
  have room2 : Room (j - 2) X.A.in1.in1 := ((hr.mono (show j - 2 + 1 + 1 ≤ j by omega)).in1).in1
  have room3 : Room (j - 3) X.A.in1.in1.in1 := (room2.mono (show j - 3 + 1 ≤ j - 2 by omega)).in1
  refine callType_codes (Q₁ := fun obj s₁ => obj = .ref s.heap.objs.size ∧ s₁ = { s with heap := s.heap.push { cls := .type "list", data := .seq #[] } }) PySem.F.called_list (PySem.F.typeCall_list_1 _) PySem.F.entry_list_init
    (code_list_new _ ⟨rfl, rfl⟩) fun obj s₁ h₁ => ?_
  obtain ⟨rfl, rfl⟩ := h₁
  have hS : (s.heap.push { cls := .type "list", data := .seq #[] }).get? s.heap.objs.size = some { cls := .type "list", data := .seq #[] } := Heap.get?_push_size _ rfl
  refine ⟨⟨_, hS, rfl⟩, PySem.F.args_list_init_2 _ _, ?_⟩
  have fr : H s.heap.objs.size = none := I.hok.fresh (Nat.le_refl _)
  have hsp := hq _ fr
  have I1 : Inv X pins σ (upd H s.heap.objs.size (.lst [])) { s with heap := s.heap.push { cls := .type "list", data := .seq #[] } } := I.lnew (its := []) (t' := s.toks) .nil (Nat.zero_le _)
  show wpAny _ _ (do let old ← Builtin.List.listItems (.ref s.heap.objs.size); Builtin.List.listUpdate (.ref s.heap.objs.size) (fun _ => #[]); letGo old.toList.reverse; Builtin.List.listExtendWith (.ref s.heap.objs.size) (.ref a) .none) _ _ _
  refine wpAny_bind ?_
  unfold Builtin.List.listItems
  refine wpAny_bind (wpAny_seqItems hS rfl (wpAny_pure ?_))
  show wpAny _ _ (updateSeq s.heap.objs.size (fun _ => #[]) >>= fun _ => letGo (#[] : Array Value).toList.reverse >>= fun _ => Builtin.List.listExtendWith (.ref s.heap.objs.size) (.ref a) .none) _ _ _
  refine wpAny_bind (wpAny_updateSeq hS rfl ?_)
  have I2 := I1.lset (f := fun _ => #[]) (its := []) (its' := []) (ys := []) (t' := s.toks) upd_same hS rfl .nil (Nat.zero_le _)
  rw [upd_upd] at I2
  refine wpAny_bind (wpAny_letGo ?_)
  have ha2 : upd H s.heap.objs.size (.lst []) a = some (.ins C dx fs) := by rw [upd_ne (ne_of_none ha fr)]; exact ha
  have hne : s.heap.objs.size ≠ a := fun w => by rw [← w, fr] at ha; cases ha
  obtain ⟨ox, J, _⟩ := inst_of I2 ha2
  obtain ⟨J, _⟩ := ‹_ ∧ _›
  unfold Builtin.List.listExtendWith
  refine wpAny_bind (J.type.here ?_)
  have e1 : Builtin.List.listSameRef (.ref s.heap.objs.size) (.ref a) = false := by simp [Builtin.List.listSameRef, hne]
  have e2 : (Value.ref C == Value.type "list") = false := rfl
  have e3 : (Value.ref C == Value.type "tuple") = false := rfl
  simp only [e1, e2, e3, Bool.or_false, Bool.false_eq_true, if_false]
  obtain ⟨f, hf, fn, kp, run⟩ := met_run0 (A := X.A.in1.in1) cI room2 (show kI ≤ j - 2 by omega) (fun _ _ z => z.in1.in1)
  obtain ⟨m0, hF⟩ := I2.fr
  refine wpAny_bind (PySem.W.owit_iter hF I2.ok.mod.kin J hf fn (wpAny_mono (run pins _ σ _ [.ref a] [.ref a] _ _ I2 (.cons rfl .nil) hsp) (fun v s' hv => ?_) fun _ _ z => z))
  obtain ⟨x, H2, I3, rx, it, t, ys, dx2, fs2, rfl, hit, ha3, nqi, hL⟩ := hv
  cases (show v = Value.ref it from rx)
  have hitt := itO_get I3.hok hit
  unfold PySem.W.OwitIt
  refine wpAny_specialOf (name := Str.ofString "__next__") hitt.typeIs F.slot_tuple_iterator_next.lookup ?_
  refine wpAny_bind (wpAny_holding (wpAny_mono (hint_at (A := X.A.in1.in1) (EE := _) cL room3 (show kL ≤ j - 3 by omega) (fun _ _ z => z.in1.in1.in1) I3 ha3 hL) (fun b s2 hb => ?_) fun _ _ z => z))
  obtain ⟨H3, I4, hSq, hit3, hq3, hQ⟩ := hb
  have loop : ∀ s4, Inv X pins σ H3 s4 → codeAny (model X.prog X.w) X.A.in1 (.builtin "list.extend.loop" ⟨[.ref s.heap.objs.size, .ref it, .none], []⟩) (wants (fun r s₂ => r = Value.none ∧ EP X pins σ Q (Value.ref s.heap.objs.size) s₂) X.xe) s4 := fun s4 I5 =>
    it_loop (A1 := X.A.in1) (I.ok.hd hcalm) nqi (fun H4 s5 I6 hb hq' => ⟨rfl, .ref s.heap.objs.size, H4, I6, rfl, hQ H4 hb hq'⟩) hSq hit3 hq3 ys.length 0 H3 s4 (by omega) (Nat.zero_le _) I5 (fun _ _ _ => rfl) hit3 (by rw [List.take_zero]; exact hq3)
  refine wpAny_ite_split (fun _ => ?_) (fun _ => wpAny_pure ⟨plainId_quiet PySem.F.plain_extend_loop _, loop s2 I4⟩)
  obtain ⟨z, its, k, r3, hl3, e3'⟩ := I4.lstM hq3
  cases r3
  refine wpAny_bind (wpAny_rule ?_)
  refine wpAny_bind ?_
  show wpAny _ _ (updateSeq s.heap.objs.size (·.push .none) >>= fun _ => updateSeq s.heap.objs.size (·.pop)) _ _ _
  refine wpAny_bind (wpAny_updateSeq e3' rfl ?_)
  have I5 := I4.lset (f := (·.push Value.none)) (its' := [Value.none]) (ys := [.non]) (t' := s2.toks) hq3 e3' (by simp) (.cons rfl .nil) (by rw [List.length_singleton, sizeLine_eq]; decide)
  obtain ⟨z4, its4, k4, r4, hl4, e4⟩ := I5.lstM upd_same
  obtain ⟨u4, rfl, ru4⟩ := r4.one
  refine wpAny_updateSeq e4 rfl ?_ (by show 1 ≤ sizeLine; rw [sizeLine_eq]; decide) (by show 0 ≤ sizeLine + 1; exact Nat.zero_le _)
  refine wpAny_pure ⟨plainId_quiet PySem.F.plain_extend_loop _, loop _ ?_⟩
  have I6 := I5.lset (f := (·.pop)) (its := [u4]) (its' := []) (ys := []) (t' := s2.toks) upd_same e4 (by rfl) .nil (Nat.zero_le _)
  rw [upd_upd] at I6
  have hH : upd H3 s.heap.objs.size (.lst []) = H3 := by
    funext b
    by_cases hb : b = s.heap.objs.size
    · rw [hb, upd_same, hq3]
    · rw [upd_ne hb]
  rw [hH] at I6
  exact I6
/-! ### a law's cells and pools: what is promised of them -/
def PoolAt (H : Hp) (p : Addr) : Prop := ∃ x y z : Int, H p = some (.lst [.int x, .int y, .int z])
theorem PoolAt.kp {H H' : Hp} {p q : Addr} (h : PoolAt H p) (k : Kp q H H') (n : p ≠ q) : PoolAt H' p := by
  obtain ⟨x, y, z, e⟩ := h
  exact ⟨x, y, z, k _ _ n e⟩
theorem PoolAt.same {H H' : Hp} {p : Addr} (h : PoolAt H p) (k : Same H H') : PoolAt H' p := by
  obtain ⟨x, y, z, e⟩ := h
  exact ⟨x, y, z, k _ _ e⟩
theorem at0 {α : Type} {a b c : α} : atI [a, b, c] (0 : Int) = some a := rfl
theorem at1 {α : Type} {a b c : α} : atI [a, b, c] (1 : Int) = some b := rfl
theorem at2 {α : Type} {a b c : α} : atI [a, b, c] (2 : Int) = some c := rfl
def sp_Lcell (K : PySem.W.Frag) : Sp := fun vs H Q _ => ∃ (l : Addr) (ns : List Int) (j : Nat), vs = [.ref l, .int (j : Int)] ∧ SqL K H l (ns.map V.int) ∧ ∀ c : Int, 0 ≤ c → Q (.int c) H
def sp_Lpool : Sp := fun vs H Q _ => ∃ c : Int, vs = [.int c] ∧ ∀ (p : Addr) (H' : Hp), H p = none → Same H H' → PoolAt H' p → Q (.ref p) H'
def sp_Ltake : Sp := fun vs H Q _ => ∃ (p : Addr) (many : Int), vs = [.ref p, .int many] ∧ PoolAt H p ∧ 0 < many ∧ many.natAbs < 2 ^ 300 ∧
  ∀ (H' : Hp) (r : Int), Kp p H H' → PoolAt H' p → 0 ≤ r → r < many → Q (.int r) H'
/-! ### told and due are the same data -/
def Pairs (R : V → V → Prop) (xs ys : List V) : Prop := xs.length = ys.length ∧ ∀ (i : Nat) (x y : V), xs[i]? = some x → ys[i]? = some y → R x y
def flatD : V → Bool
  | .non => true
  | .bl _ => true
  | .int _ => true
  | .str _ => true
  | _ => false
def SameV (K : PySem.W.Frag) (H : Hp) : Nat → V → V → Prop
  | 0, x, y => flatD x = true ∧ x = y
  | n + 1, x, y => (flatD x = true ∧ x = y) ∨
      (∃ (a b : Addr) (xs ys : List V), x = .ref a ∧ y = .ref b ∧ SqL K H a xs ∧ SqL K H b ys ∧ xs.length ≤ sizeLine ∧ Pairs (SameV K H n) xs ys) ∨
      (∃ (a b : Addr) (xs ys : List V), x = .ref a ∧ y = .ref b ∧ SqT K H a xs ∧ SqT K H b ys ∧ xs.length ≤ sizeLine ∧ Pairs (SameV K H n) xs ys)
def sp_Lsame (K : PySem.W.Frag) : Nat → Sp
  | 0 => fun _ _ _ _ => False
  | n + 1 => fun vs H Q _ => ∃ x y : V, vs = [x, y] ∧ SameV K H n x y ∧ Q (.bl true) H
theorem SameV.flat {K : PySem.W.Frag} {H : Hp} {n : Nat} {x : V} (h : flatD x = true) : SameV K H n x x := by
  cases n with
  | zero => exact ⟨h, rfl⟩
  | succ n => exact .inl ⟨h, rfl⟩
theorem Pairs.refl {R : V → V → Prop} {xs : List V} (h : ∀ x ∈ xs, R x x) : Pairs R xs xs := ⟨rfl, fun i x y h1 h2 => by
  rw [h1] at h2
  cases h2
  exact h x (List.mem_of_getElem? h1)⟩
theorem tyx_list {K : PySem.W.Frag} {H : Hp} {a : Addr} {xs : List V} (h : SqL K H a xs) : TyX K H (.ref a) (.type "list") := by
  rcases h with (h | ⟨o, h⟩) | ⟨o, its, n, h, c, _⟩
  · exact .base (.lst h)
  · exact .base (.frz h)
  · exact .kList h c
theorem tyx_tup {K : PySem.W.Frag} {H : Hp} {a : Addr} {xs : List V} (h : SqT K H a xs) : TyX K H (.ref a) (.type "tuple") := by
  rcases h with (h | ⟨o, h⟩) | ⟨o, its, n, h, c, _⟩
  · exact .base (.tup h)
  · exact .fTuple h
  · exact .kTuple h c
theorem pool_ne {H : Hp} {p q : Addr} (h : PoolAt H p) (n : H q = none) : q ≠ p := fun w => by
  obtain ⟨x, y, z, e⟩ := h
  rw [w, e] at n
  cases n
theorem none_kp {H H' : Hp} {p t : Addr} (s : Kp p H H') (n : t ≠ p) (e : H' t = none) : H t = none := by
  cases h : H t with
  | none => rfl
  | some o =>
    rw [s _ _ n h] at e
    cases e
theorem none_of {H H' : Hp} {t : Addr} (s : Same H H') (n : H' t = none) : H t = none := by
  cases e : H t with
  | none => rfl
  | some o =>
    rw [s _ _ e] at n
    cases n
theorem same_app {H2 H4 : Hp} {t : Addr} {o : HO} (s : Same H2 H4) (n : H2 t = none) : Same H2 (upd H4 t o) := fun b u e => by
  rw [upd_ne (ne_of_none e n)]
  exact s _ _ e
theorem Kp.of {p : Addr} {H H' : Hp} (s : Same H H') : Kp p H H' := fun b o _ e => s b o e
/-- a place that was free takes what it takes -/
theorem kp_app {p : Addr} {H H4 : Hp} {t : Addr} {o : HO} (s : Kp p H H4) (n : H t = none) : Kp p H (upd H4 t o) := fun b u nb e => by
  rw [upd_ne (ne_of_none e n)]
  exact s _ _ nb e
theorem sqt_pool {K : PySem.W.Frag} {H H' : Hp} {a b : Addr} {xs : List V} (h : SqT K H b xs) (k : Kp a H H') (p : PoolAt H a) : SqT K H' b xs := by
  obtain ⟨x, y, z, e⟩ := p
  rcases h with (h | ⟨o, h⟩) | h
  · exact .inl (.inl (k _ _ (fun w => by rw [w, e] at h; cases h) h))
  · exact .inl (.inr ⟨o, k _ _ (fun w => by rw [w, e] at h; cases h) h⟩)
  · exact .inr h
theorem sqt_lst {K : PySem.W.Frag} {H H' : Hp} {a b : Addr} {xs ys : List V} (h : SqT K H b xs) (k : Kp a H H') (hl : H a = some (.lst ys)) : SqT K H' b xs := by
  rcases h with (h | ⟨o, h⟩) | h
  · exact .inl (.inl (k _ _ (fun w => by rw [w, hl] at h; cases h) h))
  · exact .inl (.inr ⟨o, k _ _ (fun w => by rw [w, hl] at h; cases h) h⟩)
  · exact .inr h
/-! ### lists of values, each one of its own kind -/
inductive Al {α : Type} (R : V → α → Prop) : List V → List α → Prop where
  | nil : Al R [] []
  | cons {x : V} {y : α} {xs : List V} {ys : List α} : R x y → Al R xs ys → Al R (x :: xs) (y :: ys)
section
variable {α : Type} {R R' : V → α → Prop}
theorem Al.len : ∀ {xs : List V} {ys : List α}, Al R xs ys → xs.length = ys.length
  | _, _, .nil => rfl
  | _, _, .cons _ t => congrArg Nat.succ t.len
theorem Al.mono (h : ∀ x y, R x y → R' x y) : ∀ {xs : List V} {ys : List α}, Al R xs ys → Al R' xs ys
  | _, _, .nil => .nil
  | _, _, .cons r t => .cons (h _ _ r) (t.mono h)
theorem Al.app : ∀ {xs xs' : List V} {ys ys' : List α}, Al R xs ys → Al R xs' ys' → Al R (xs ++ xs') (ys ++ ys')
  | _, _, _, _, .nil, u => u
  | _, _, _, _, .cons r t, u => .cons r (t.app u)
theorem Al.take : ∀ {xs : List V} {ys : List α} (n : Nat), Al R xs ys → Al R (xs.take n) (ys.take n)
  | _, _, 0, _ => .nil
  | _, _, _ + 1, .nil => .nil
  | _, _, n + 1, .cons r t => .cons r (t.take n)
theorem Al.drop : ∀ {xs : List V} {ys : List α} (n : Nat), Al R xs ys → Al R (xs.drop n) (ys.drop n)
  | _, _, 0, h => h
  | _, _, _ + 1, .nil => .nil
  | _, _, n + 1, .cons _ t => t.drop n
theorem Al.snoc {xs : List V} {ys : List α} {x : V} {y : α} (h : Al R xs ys) (r : R x y) : Al R (xs ++ [x]) (ys ++ [y]) := h.app (.cons r .nil)
theorem Al.rev : ∀ {xs : List V} {ys : List α}, Al R xs ys → Al R xs.reverse ys.reverse
  | _, _, .nil => .nil
  | _, _, .cons r t => by
    rw [List.reverse_cons, List.reverse_cons]
    exact t.rev.app (.cons r .nil)
theorem Al.at : ∀ {xs : List V} {ys : List α} {i : Nat} {x : V}, Al R xs ys → xs[i]? = some x → ∃ y, ys[i]? = some y ∧ R x y
  | _, _, _, _, .nil, h => by simp at h
  | _, _, 0, _, .cons r _, h => ⟨_, rfl, by simp at h; subst h; exact r⟩
  | _, _, i + 1, _, .cons _ t, h => t.at (i := i) (by simpa using h)
theorem Al.at' {xs : List V} {ys : List α} {i : Nat} {y : α} (h : Al R xs ys) (hy : ys[i]? = some y) : ∃ x, xs[i]? = some x ∧ R x y := by
  have hi : i < xs.length := by rw [h.len]; exact (List.getElem?_eq_some_iff.mp hy).1
  obtain ⟨y', e, r⟩ := h.at (List.getElem?_eq_getElem hi)
  rw [hy] at e
  cases e
  exact ⟨_, List.getElem?_eq_getElem hi, r⟩
end
/-! ### cars in lists -/
theorem sqt_same {K : PySem.W.Frag} {H H' : Hp} {a : Addr} {xs : List V} (h : SqT K H a xs) (e : Same H H') : SqT K H' a xs := by
  rcases h with (h | ⟨o, h⟩) | h
  · exact .inl (.inl (e _ _ h))
  · exact .inl (.inr ⟨o, e _ _ h⟩)
  · exact .inr h
theorem tyes {σ : L2.St} {H : Hp} {A B : Hp → Prop} (h : A H) : tYes σ H (fun b H3 => if b = true then A H3 else B H3) := by
  show (if true = true then A H else B H)
  rw [if_pos rfl]
  exact h
abbrev Car := Int × Int × Int × Int
def cr (c : Car) : List V := [.int c.1, .int c.2.1, .int c.2.2.1, .int c.2.2.2]
def CrV (K : PySem.W.Frag) (H : Hp) (x : V) (c : Car) : Prop := ∃ p : Addr, x = .ref p ∧ SqT K H p [.int c.1, .int c.2.1, .int c.2.2.1, .int c.2.2.2]
theorem CrV.same {K : PySem.W.Frag} {H H' : Hp} {x : V} {c : Car} (h : CrV K H x c) (e : Same H H') : CrV K H' x c := by
  obtain ⟨p, ex, hp⟩ := h
  exact ⟨p, ex, sqt_same hp e⟩
theorem CrV.lst {K : PySem.W.Frag} {H H' : Hp} {a : Addr} {x : V} {c : Car} {ys : List V} (h : CrV K H x c) (e : Kp a H H') (hl : H a = some (.lst ys)) : CrV K H' x c := by
  obtain ⟨p, ex, hp⟩ := h
  exact ⟨p, ex, sqt_lst hp e hl⟩
abbrev Cars (K : PySem.W.Frag) (H : Hp) := Al (CrV K H)
theorem carsS {K : PySem.W.Frag} {H H' : Hp} {xs : List V} {cs : List Car} (h : Cars K H xs cs) (e : Same H H') : Cars K H' xs cs := Al.mono (fun _ _ r => r.same e) h
theorem carsL {K : PySem.W.Frag} {H H' : Hp} {a : Addr} {ys : List V} {xs : List V} {cs : List Car} (h : Cars K H xs cs) (e : Kp a H H') (hl : H a = some (.lst ys)) : Cars K H' xs cs := Al.mono (fun _ _ r => r.lst e hl) h
theorem carsP {K : PySem.W.Frag} {H H' : Hp} {a : Addr} {xs : List V} {cs : List Car} (h : Cars K H xs cs) (e : Kp a H H') (p : PoolAt H a) : Cars K H' xs cs := by
  obtain ⟨x, y, z, e'⟩ := p
  exact carsL h e e'
theorem sqb_same {K : PySem.W.Frag} {b : Bool} {H H' : Hp} {a : Addr} {xs : List V} (h : SqB K b H a xs) (e : Same H H') : SqB K b H' a xs := by
  cases b
  · exact Same.seq e h
  · exact sqt_same h e
theorem sqb_or {K : PySem.W.Frag} {b : Bool} {H : Hp} {a : Addr} {xs : List V} (h : SqB K b H a xs) : SqL K H a xs ∨ SqT K H a xs := by
  cases b
  · exact .inl h
  · exact .inr h
theorem take_snoc {α : Type} {l : List α} {i : Nat} {x : α} (h : l[i]? = some x) : l.take i ++ [x] = l.take (i + 1) := by
  rw [List.take_add_one, h]
  rfl
theorem flat_ints (l : List Int) : (l.map V.int).all flatV = true := by
  rw [List.all_map, List.all_eq_true]
  intro j _
  rfl
/-- the same items, each flat -/
theorem same_ints {K : PySem.W.Frag} {H : Hp} {a b : Addr} {l : List Int} {n : Nat} (ha : SqL K H a (l.map V.int)) (hb : SqL K H b (l.map V.int)) (hz : l.length ≤ 100000) : SameV K H (n + 1) (.ref a) (.ref b) :=
  .inr (.inl ⟨a, b, _, _, rfl, rfl, ha, hb, by rw [List.length_map, sizeLine_eq]; omega, Pairs.refl fun x hx => by
    obtain ⟨t, _, e⟩ := List.mem_map.mp hx
    subst e
    exact SameV.flat rfl⟩)
theorem same_intsT {K : PySem.W.Frag} {H : Hp} {a b : Addr} {l : List Int} {n : Nat} (ha : SqT K H a (l.map V.int)) (hb : SqT K H b (l.map V.int)) (hz : l.length ≤ 100000) : SameV K H (n + 1) (.ref a) (.ref b) :=
  .inr (.inr ⟨a, b, _, _, rfl, rfl, ha, hb, by rw [List.length_map, sizeLine_eq]; omega, Pairs.refl fun x hx => by
    obtain ⟨t, _, e⟩ := List.mem_map.mp hx
    subst e
    exact SameV.flat rfl⟩)
theorem car_same {K : PySem.W.Frag} {H : Hp} {x y : V} {c : Car} {n : Nat} (hx : CrV K H x c) (hy : CrV K H y c) : SameV K H (n + 1) x y := by
  obtain ⟨p, rfl, hp⟩ := hx
  obtain ⟨q, rfl, hq⟩ := hy
  exact .inr (.inr ⟨p, q, _, _, rfl, rfl, hp, hq, by rw [sizeLine_eq]; show 4 ≤ 16777216; decide, Pairs.refl fun y hy => by
      simp only [List.mem_cons, List.not_mem_nil, or_false] at hy
      rcases hy with rfl | rfl | rfl | rfl <;> exact SameV.flat rfl⟩)
theorem Al.pairs {α : Type} {R : V → α → Prop} {S : V → V → Prop} (h : ∀ x y c, R x c → R y c → S x y) {xs ys : List V} {cs : List α} (a : Al R xs cs) (b : Al R ys cs) : Pairs S xs ys :=
  ⟨by rw [a.len, b.len], fun i x y hx hy => by
    obtain ⟨c, hc, r⟩ := a.at hx
    obtain ⟨c', hc', r'⟩ := b.at hy
    rw [hc] at hc'
    cases hc'
    exact h _ _ _ r r'⟩
theorem cars_sameL {K : PySem.W.Frag} {H : Hp} {a b : Addr} {xs ys : List V} {cs : List Car} {n : Nat} (ha : SqL K H a xs) (hb : SqL K H b ys) (hx : Cars K H xs cs) (hy : Cars K H ys cs) (hz : cs.length ≤ 100000) : SameV K H (n + 2) (.ref a) (.ref b) :=
  .inr (.inl ⟨a, b, _, _, rfl, rfl, ha, hb, by rw [hx.len, sizeLine_eq]; omega, Al.pairs (R := CrV K H) (S := SameV K H (n + 1)) (fun _ _ _ h1 h2 => car_same h1 h2) hx hy⟩)
theorem cars_sameT {K : PySem.W.Frag} {H : Hp} {a b : Addr} {xs ys : List V} {cs : List Car} {n : Nat} (ha : SqT K H a xs) (hb : SqT K H b ys) (hx : Cars K H xs cs) (hy : Cars K H ys cs) (hz : cs.length ≤ 100000) : SameV K H (n + 2) (.ref a) (.ref b) :=
  .inr (.inr ⟨a, b, _, _, rfl, rfl, ha, hb, by rw [hx.len, sizeLine_eq]; omega, Al.pairs (R := CrV K H) (S := SameV K H (n + 1)) (fun _ _ _ h1 h2 => car_same h1 h2) hx hy⟩)
theorem iteB {b : Bool} {A B : Prop} (hA : b = true → A) (hB : b = false → B) : if b = true then A else B := by
  cases b
  · exact iteF (hB rfl)
  · exact iteT (hA rfl)
theorem iteNe {x y : V} {A B : Prop} (e : x = y) (h : B) : if (!decide (x = y)) = true then A else B := by
  rw [decide_eq_true e]
  exact iteF h
theorem pick4 {a b c d r : Int} (h0 : 0 ≤ r) (h1 : r < 4) : ∃ v : Int, atI [V.int a, V.int b, V.int c, V.int d] r = some (V.int v) ∧ (v = a ∨ v = b ∨ v = c ∨ v = d) := by
  have : r = 0 ∨ r = 1 ∨ r = 2 ∨ r = 3 := by omega
  rcases this with e | e | e | e
  · subst e; exact ⟨a, rfl, .inl rfl⟩
  · subst e; exact ⟨b, rfl, .inr (.inl rfl)⟩
  · subst e; exact ⟨c, rfl, .inr (.inr (.inl rfl))⟩
  · subst e; exact ⟨d, rfl, .inr (.inr (.inr rfl))⟩
theorem getD_at {α : Type} {l : List α} {i : Nat} {c d : α} (h : l[i]? = some c) : l.getD i d = c := by
  rw [List.getD_eq_getElem?_getD, h]
  rfl
theorem seq_ix {i : Int} {n : Nat} (h0 : 0 ≤ i) (h1 : i < (n : Int)) : seqIndex? i n = some i.toNat := by
  unfold seqIndex?
  first
    | (simp only; split <;> first | (split <;> first | rfl | omega) | omega)
    | (have e : ¬ i < 0 := by omega
       simp [e, h1, h0])
theorem cut_drop (xs : List V) (w : Nat) : cutV xs (some (w : Int)) none = xs.drop w := by
  have e0 : HT.sIx xs.length xs.length none = xs.length := rfl
  have e1 : HT.sIx xs.length 0 (some (w : Int)) = min w xs.length := by
    simp only [HT.sIx]
    split <;> omega
  unfold cutV
  rw [e0, e1]
  by_cases h : w ≤ xs.length
  · rw [Nat.min_eq_left h, List.take_of_length_le (by rw [List.length_drop]; omega)]
  · rw [Nat.min_eq_right (by omega), List.drop_length, List.drop_of_length_le (by omega), List.take_nil]
theorem cut_pre (ns : List Int) (w : Nat) : cutV (ns.map V.int) none (some (w : Int)) = (ns.take w).map V.int := by
  have e0 : HT.sIx (ns.map V.int).length 0 none = 0 := rfl
  have e1 : HT.sIx (ns.map V.int).length (ns.map V.int).length (some (w : Int)) = min w (ns.map V.int).length := by
    simp only [HT.sIx]
    split <;> omega
  unfold cutV
  rw [e0, e1, List.drop_zero, Nat.sub_zero, List.map_take]
  by_cases h : w ≤ (ns.map V.int).length
  · rw [Nat.min_eq_left h]
  · rw [Nat.min_eq_right (by omega), List.take_length, List.take_of_length_le (by omega)]
/-! ### == of lists, of tuples of whole numbers -/
theorem dpAll_ints {K : PySem.W.Frag} {H : Hp} : ∀ ns : List Int, DpAll K H (ns.map V.int) (ns.map PyData.int)
  | [] => .nil
  | n :: ns => .cons (.int n) (dpAll_ints ns)
theorem eqvAll_ints : ∀ ns ms : List Int, PyData.eqvAll (ns.map PyData.int) (ms.map PyData.int) = decide (ns = ms)
  | [], [] => by simp [PyData.eqvAll]
  | [], m :: ms => by simp [PyData.eqvAll]
  | n :: ns, [] => by simp [PyData.eqvAll]
  | n :: ns, m :: ms => by
    rw [List.map_cons, List.map_cons, PyData.eqvAll, eqvAll_ints ns ms, PyData.eqv, Bool.eq_iff_iff]
    simp
theorem lay_ints : ∀ ns : List Int, PyData.canLayAll0 (ns.map PyData.int) = true
  | [] => by simp [PyData.canLayAll0]
  | n :: ns => by
    rw [List.map_cons, PyData.canLayAll0, lay_ints ns, PyData.canLay0]
    rfl
theorem dep_ints : ∀ ns : List Int, PyData.depthAll (ns.map PyData.int) = 0
  | [] => by simp [PyData.depthAll]
  | n :: ns => by
    rw [List.map_cons, PyData.depthAll, dep_ints ns, PyData.depth]
    rfl
theorem shaped_ints (ns : List Int) : SeqAt.shaped (.list (ns.map PyData.int)) = true ∧ SeqAt.shaped (.tuple (ns.map PyData.int)) = true := by
  unfold SeqAt.shaped
  rw [PyData.canLay0, PyData.canLay0, PyData.depth, PyData.depth, lay_ints, dep_ints]
  exact ⟨rfl, rfl⟩
section
variable {X : Cx}
theorem op_eqLI (hu : X.A.units + 64 < cLine) : OpR X (compareOp .Eq) (fun x y H Q => ∃ (a b : Addr) (ns ms : List Int), x = .ref a ∧ y = .ref b ∧ SqL X.K H a (ns.map V.int) ∧ SqL X.K H b (ms.map V.int) ∧ Q (.bl (decide (ns = ms))) H) := by
  intro pins s σ H x y v u Q I rx ry h
  obtain ⟨a, b, ns, ms, rfl, rfl, ha, hb, q⟩ := h
  refine op_eqD hu pins s σ H _ _ v u Q I rx ry ⟨.list (ns.map PyData.int), .list (ms.map PyData.int), .lst ha (dpAll_ints ns), .lst hb (dpAll_ints ms), (shaped_ints ns).1, (shaped_ints ms).1, ?_⟩
  rw [PyData.eqv, eqvAll_ints]
  exact q
theorem op_neLI (hu : X.A.units + 64 < cLine) : OpR X (compareOp .NotEq) (fun x y H Q => ∃ (a b : Addr) (ns ms : List Int), x = .ref a ∧ y = .ref b ∧ SqL X.K H a (ns.map V.int) ∧ SqL X.K H b (ms.map V.int) ∧ Q (.bl (!decide (ns = ms))) H) := by
  intro pins s σ H x y v u Q I rx ry h
  obtain ⟨a, b, ns, ms, rfl, rfl, ha, hb, q⟩ := h
  refine op_neD hu pins s σ H _ _ v u Q I rx ry ⟨.list (ns.map PyData.int), .list (ms.map PyData.int), .lst ha (dpAll_ints ns), .lst hb (dpAll_ints ms), (shaped_ints ns).1, (shaped_ints ms).1, ?_⟩
  rw [PyData.eqv, eqvAll_ints]
  exact q
theorem op_eqTI (hu : X.A.units + 64 < cLine) : OpR X (compareOp .Eq) (fun x y H Q => ∃ (a b : Addr) (ns ms : List Int), x = .ref a ∧ y = .ref b ∧ SqT X.K H a (ns.map V.int) ∧ SqT X.K H b (ms.map V.int) ∧ Q (.bl (decide (ns = ms))) H) := by
  intro pins s σ H x y v u Q I rx ry h
  obtain ⟨a, b, ns, ms, rfl, rfl, ha, hb, q⟩ := h
  refine op_eqD hu pins s σ H _ _ v u Q I rx ry ⟨.tuple (ns.map PyData.int), .tuple (ms.map PyData.int), .tup ha (dpAll_ints ns), .tup hb (dpAll_ints ms), (shaped_ints ns).2, (shaped_ints ms).2, ?_⟩
  rw [PyData.eqv, eqvAll_ints]
  exact q
end
/-! ### (n, tuple of ints) == and < .. -/
section
open PySem.W
theorem alike_ints : ∀ ns ms : List Int, alikeAll (ns.map PyData.int) (ms.map PyData.int) = true
  | [], _ => by simp [alikeAll]
  | _ :: _, [] => by simp [alikeAll]
  | n :: ns, m :: ms => by
    rw [List.map_cons, List.map_cons, alikeAll, alike_ints ns ms, alike]
    rfl
theorem toks_ints : ∀ ns ms : List Int, PyProof.Rows.lexLt itemOrd (keyToksAll (ns.map PyData.int)) (keyToksAll (ms.map PyData.int)) = HT.lexLt ns ms
  | [], [] => by
    rw [List.map_nil, keyToksAll, lex_one]
    rfl
  | [], m :: ms => by
    rw [List.map_nil, List.map_cons, keyToksAll, keyToksAll, lex_atom (by simp), lex_one]
    rfl
  | n :: ns, [] => by
    rw [List.map_nil, List.map_cons, keyToksAll, keyToksAll, lex_atom (by simp), lex_one]
    rfl
  | n :: ns, m :: ms => by
    rw [List.map_cons, List.map_cons]
    have ha : alike (.int n) (.int m) = true := by rw [alike]
    by_cases e : n = m
    · subst e
      rw [dataLt_all_yes ha (by rw [PyData.eqv]; exact beq_self_eq_true n), toks_ints ns ms]
      show _ = if n = n then HT.lexLt ns ms else _
      rw [if_pos rfl]
    · rw [dataLt_all_no ha (by rw [PyData.eqv]; exact beq_eq_false_iff_ne.mpr e), dataLt_int]
      show _ = if n = m then HT.lexLt ns ms else _
      rw [if_neg e]
theorem ltI_irrefl : ∀ ns : List Int, HT.lexLt ns ns = false
  | [] => rfl
  | n :: ns => by
    show (if n = n then HT.lexLt ns ns else _) = false
    rw [if_pos rfl, ltI_irrefl ns]
def ltP (n : Int) (ns : List Int) (m : Int) (ms : List Int) : Bool := if n = m then HT.lexLt ns ms else decide (n < m)
def NtV (K : PySem.W.Frag) (H : Hp) (x : V) (n : Int) (ns : List Int) : Prop := ∃ a t : Addr, x = .ref a ∧ SqT K H a [.int n, .ref t] ∧ SqT K H t (ns.map V.int)
theorem dp_nt {K : PySem.W.Frag} {H : Hp} {x : V} {n : Int} {ns : List Int} (h : NtV K H x n ns) : Dp K H x (.tuple [.int n, .tuple (ns.map PyData.int)]) := by
  obtain ⟨a, t, rfl, h1, h2⟩ := h
  exact .tup h1 (.cons (.int n) (.cons (.tup h2 (dpAll_ints ns)) .nil))
theorem shaped_nt (n : Int) (ns : List Int) : SeqAt.shaped (.tuple [.int n, .tuple (ns.map PyData.int)]) = true := by
  unfold SeqAt.shaped
  simp only [PyData.canLay0, PyData.canLayAll0, PyData.depth, PyData.depthAll, lay_ints, dep_ints]
  rfl
theorem op_eqNT {X : Cx} (hu : X.A.units + 64 < cLine) : OpR X (compareOp .Eq) (fun x y H Q => ∃ (n m : Int) (ns ms : List Int), NtV X.K H x n ns ∧ NtV X.K H y m ms ∧ Q (.bl (decide (n = m ∧ ns = ms))) H) := by
  intro pins s σ H x y v u Q I rx ry h
  obtain ⟨n, m, ns, ms, h1, h2, q⟩ := h
  refine op_eqD hu pins s σ H _ _ v u Q I rx ry ⟨_, _, dp_nt h1, dp_nt h2, shaped_nt n ns, shaped_nt m ms, ?_⟩
  have e : PyData.eqv (.tuple [.int n, .tuple (ns.map PyData.int)]) (.tuple [.int m, .tuple (ms.map PyData.int)]) = decide (n = m ∧ ns = ms) := by
    rw [PyData.eqv, PyData.eqvAll, PyData.eqvAll, PyData.eqvAll, PyData.eqv, PyData.eqv, eqvAll_ints, Bool.eq_iff_iff]
    simp
  rw [e]
  exact q
theorem op_ltNT {X : Cx} (hu : X.A.units + 64 < cLine) : OpR X (compareOp .Lt) (fun x y H Q => ∃ (n m : Int) (ns ms : List Int), NtV X.K H x n ns ∧ NtV X.K H y m ms ∧ Q (.bl (ltP n ns m ms)) H) := by
  intro pins s σ H x y v u Q I rx ry h
  obtain ⟨n, m, ns, ms, h1, h2, q⟩ := h
  obtain ⟨as, r1⟩ := Dp.reads I _ x v (dp_nt h1) rx
  obtain ⟨bs, r2⟩ := Dp.reads I _ y u (dp_nt h2) ry
  have ha : alike (.tuple [.int n, .tuple (ns.map PyData.int)]) (.tuple [.int m, .tuple (ms.map PyData.int)]) = true := by
    simp only [alike, alikeAll, alike_ints]
    rfl
  have hd : (PyData.tuple [.int n, .tuple (ns.map PyData.int)]).depth ≤ 64 := SeqAt.depth_of_shaped (shaped_nt n ns)
  have hm : min (PyData.tuple [.int n, .tuple (ns.map PyData.int)]).depth (PyData.tuple [.int m, .tuple (ms.map PyData.int)]).depth ≤ (PyData.tuple [.int n, .tuple (ns.map PyData.int)]).depth := Nat.min_le_left _ _
  have e : dataLt (.tuple [.int n, .tuple (ns.map PyData.int)]) (.tuple [.int m, .tuple (ms.map PyData.int)]) = ltP n ns m ms := by
    have hi : alike (.int n) (.int m) = true := by rw [alike]
    have ht : alike (.tuple (ns.map PyData.int)) (.tuple (ms.map PyData.int)) = true := by rw [alike, alike_ints]
    rw [dataLt_tuple]
    unfold ltP
    by_cases h : n = m
    · subst h
      rw [dataLt_all_yes hi (by rw [PyData.eqv]; exact beq_self_eq_true n), if_pos rfl]
      cases he : PyData.eqv (.tuple (ns.map PyData.int)) (.tuple (ms.map PyData.int)) with
      | true =>
        rw [dataLt_all_yes ht he]
        rw [PyData.eqv, eqvAll_ints, decide_eq_true_iff] at he
        subst he
        rw [← toks_ints ns ns, keyToksAll, lex_one]
        show false = _
        rw [toks_ints]
        exact (ltI_irrefl ns).symm
      | false => rw [dataLt_all_no ht he, dataLt_tuple, toks_ints]
    · rw [dataLt_all_no hi (by rw [PyData.eqv]; exact beq_eq_false_iff_ne.mpr h), dataLt_int, if_neg h]
  exact rcLt_alike _ _ X.A s v u as bs r1 r2 ha (by intro z; cases z) (by omega) X.prog X.w X.xe _ ⟨.bl (dataLt (.tuple [.int n, .tuple (ns.map PyData.int)]) (.tuple [.int m, .tuple (ms.map PyData.int)])), H, I, rfl, by rw [e]; exact q⟩
end
theorem int_at {hs : List Int} {i : Nat} {y : V} (h : (hs.map V.int)[i]? = some y) : ∃ z : Int, hs[i]? = some z ∧ y = .int z := by
  rw [List.getElem?_map] at h
  cases e : hs[i]? with
  | none => rw [e] at h; cases h
  | some z => rw [e] at h; cases h; exact ⟨z, rfl, rfl⟩
theorem ixN_nat {n k : Nat} (h : k < n) : ixN n ((k : Nat) : Int) = some k := by
  unfold ixN
  simp
  omega
/-! ### rows -/
def rwf (tp : Addr) : List (Str × V) := putF "letters" (.ref tp) []
theorem rwf_at (tp : Addr) : (rwf tp).lookup ("letters" : Str) = some (.ref tp) := by
  unfold rwf
  rw [lookup_putF, if_pos rfl]
theorem rwf_no (tp : Addr) {m : Str} (h : ¬ m = "letters") : (rwf tp).lookup m = none := by
  unfold rwf
  rw [lookup_putF, if_neg h]
  all_goals rfl
/-- the row at a has the letters ns -/
def RowAt (K : PySem.W.Frag) (C : Addr) (H : Hp) (a : Addr) (ns : List Int) : Prop := ∃ dx tp : Addr, H a = some (.ins C dx (rwf tp)) ∧ SqT K H tp (ns.map V.int)
theorem RowAt.same {K : PySem.W.Frag} {C : Addr} {H H' : Hp} {a : Addr} {ns : List Int} (h : RowAt K C H a ns) (e : Same H H') : RowAt K C H' a ns := by
  obtain ⟨dx, tp, h1, h2⟩ := h
  exact ⟨dx, tp, e _ _ h1, sqt_same h2 e⟩
theorem RowAt.lst {K : PySem.W.Frag} {C : Addr} {H H' : Hp} {a c : Addr} {ns : List Int} {ys : List V} (h : RowAt K C H a ns) (k : Kp c H H') (hl : H c = some (.lst ys)) : RowAt K C H' a ns := by
  obtain ⟨dx, tp, h1, h2⟩ := h
  exact ⟨dx, tp, k _ _ (fun w => by rw [w, hl] at h1; cases h1) h1, sqt_lst h2 k hl⟩
/-- the first place that is wrong -/
def badAt (ns : List Int) (i : Nat) : Prop := ∃ n, ns[i]? = some n ∧ (i = 2000 ∨ n < 0 ∨ 4 < n)
def sp_Row_init (K : PySem.W.Frag) (C B : Addr) : Sp := fun vs H Q E => ∃ (x dx a : Addr) (b : Bool) (ns : List Int), vs = [.ref x, .ref a] ∧ H x = some (.ins C dx []) ∧ SqB K b H a (ns.map V.int) ∧ ns.length ≤ 100000 ∧
  ((∃ i, badAt ns i ∧ (∀ j < i, ¬ badAt ns j) ∧ ∀ (H' : Hp) (d : Addr), Same H H' → H' d = none → E (.ref B) (some d) (upd H' d (.xd [(("place" : Str), .int (i : Nat))]))) ∨
    ((∀ j, ¬ badAt ns j) ∧ ∀ H', Kp x H H' → RowAt K C H' x ns → Q .non H'))
def sp_Row_len (K : PySem.W.Frag) (C : Addr) : Sp := fun vs H Q _ => ∃ (x : Addr) (ns : List Int), vs = [.ref x] ∧ RowAt K C H x ns ∧ Q (.int (ns.length : Nat)) H
def sp_Row_iter (K : PySem.W.Frag) (C : Addr) : Sp := fun vs H Q _ => ∃ (x tp dx : Addr) (ns : List Int), vs = [.ref x] ∧ H x = some (.ins C dx (rwf tp)) ∧ SqT K H tp (ns.map V.int) ∧ ∀ it, H it = none → Q (.ref it) (upd H it (itO it tp 0))
def sp_Row_get (K : PySem.W.Frag) (C B : Addr) : Sp := fun vs H Q E => ∃ (x : Addr) (ns : List Int) (i : Int), vs = [.ref x, .int i] ∧ RowAt K C H x ns ∧ i.natAbs < 2 ^ 200 ∧
  ((0 ≤ i ∧ i < ns.length ∧ ∀ v, ns[i.toNat]? = some v → Q (.int v) H) ∨ ((i < 0 ∨ (ns.length : Int) ≤ i) ∧ ∀ (H' : Hp) (d : Addr), Same H H' → H' d = none → E (.ref B) (some d) (upd H' d (.xd [(("place" : Str), .int i)]))))
theorem mk_same {H J : Hp} {x dx C : Addr} (hx : H x = none) (hdx : H dx = none) (k : Kp x (upd (upd H dx (.own x)) x (.ins C dx [])) J) : Same H J := fun b o e => k b o (ne_of_none e hx) (by
  rw [upd_ne (ne_of_none e hx), upd_ne (ne_of_none e hdx)]
  exact e)
def topS (i : Nat) : Stmt := PySem.Challenge.pw_onecable_k07_row_order.main.body.getD i (.Pass ⟨0, 0, 0, 0⟩)
abbrev s_Row_init : Stmt := inClass (topS 6) 1
theorem sc_Row_init : FnScope ["self", "letters", "place", "letter"] ["self", "letters"] (defScope s_Row_init) := ⟨rfl, rfl, rfl, by decide +kernel, rfl, by decide +kernel, by decide +kernel⟩
abbrev s_Row_len : Stmt := inClass (topS 6) 4
theorem sc_Row_len : FnScope ["self"] ["self"] (defScope s_Row_len) := ⟨rfl, rfl, rfl, by decide +kernel, rfl, by decide +kernel, by decide +kernel⟩
abbrev s_Row_iter : Stmt := inClass (topS 6) 5
theorem sc_Row_iter : FnScope ["self"] ["self"] (defScope s_Row_iter) := ⟨rfl, rfl, rfl, by decide +kernel, rfl, by decide +kernel, by decide +kernel⟩
abbrev s_Row_eq : Stmt := inClass (topS 6) 10
theorem sc_Row_eq : FnScope ["self", "other"] ["self", "other"] (defScope s_Row_eq) := ⟨rfl, rfl, rfl, by decide +kernel, rfl, by decide +kernel, by decide +kernel⟩
abbrev s_Row_lt : Stmt := inClass (topS 6) 11
theorem sc_Row_lt : FnScope ["self", "other"] ["self", "other"] (defScope s_Row_lt) := ⟨rfl, rfl, rfl, by decide +kernel, rfl, by decide +kernel, by decide +kernel⟩
abbrev s_Lcell : Stmt := topS 8
theorem sc_Lcell : FnScope ["_law_script", "_law_at"] ["_law_script", "_law_at"] (defScope s_Lcell) := ⟨rfl, rfl, rfl, by decide +kernel, rfl, by decide +kernel, by decide +kernel⟩
abbrev s_Lpool : Stmt := topS 9
theorem sc_Lpool : FnScope ["_law_cell_here"] ["_law_cell_here"] (defScope s_Lpool) := ⟨rfl, rfl, rfl, by decide +kernel, rfl, by decide +kernel, by decide +kernel⟩
abbrev s_Ltake : Stmt := topS 10
theorem sc_Ltake : FnScope ["_law_pool_here", "_law_many", "_law_digit", "_law_mixed"] ["_law_pool_here", "_law_many"] (defScope s_Ltake) := ⟨rfl, rfl, rfl, by decide +kernel, rfl, by decide +kernel, by decide +kernel⟩
abbrev s_Lsame : Stmt := topS 11
theorem sc_Lsame : FnScope ["_law_told", "_law_due", "_law_k"] ["_law_told", "_law_due"] (defScope s_Lsame) := ⟨rfl, rfl, rfl, by decide +kernel, rfl, by decide +kernel, by decide +kernel⟩
abbrev s_Lahead : Stmt := topS 12
theorem sc_Lahead : FnScope ["_law_one", "_law_two", "_law_k"] ["_law_one", "_law_two"] (defScope s_Lahead) := ⟨rfl, rfl, rfl, by decide +kernel, rfl, by decide +kernel, by decide +kernel⟩
abbrev s_Lshorter : Stmt := topS 13
theorem sc_Lshorter : FnScope ["_law_one", "_law_two"] ["_law_one", "_law_two"] (defScope s_Lshorter) := ⟨rfl, rfl, rfl, by decide +kernel, rfl, by decide +kernel, by decide +kernel⟩
abbrev s_Lletters : Stmt := topS 14
theorem sc_Lletters : FnScope ["_law_pool_here", "_law_size", "_law_step", "_law_shift", "_law_k"] ["_law_pool_here", "_law_size"] (defScope s_Lletters) := ⟨rfl, rfl, rfl, by decide +kernel, rfl, by decide +kernel, by decide +kernel⟩
abbrev s_Lletters_are : Stmt := topS 15
theorem sc_Lletters_are : FnScope ["_law_told", "_law_letters_here", "_law_odd", "_law_letter"] ["_law_told", "_law_letters_here"] (defScope s_Lletters_are) := ⟨rfl, rfl, rfl, by decide +kernel, rfl, by decide +kernel, by decide +kernel⟩
abbrev s_Lnear : Stmt := topS 16
theorem sc_Lnear : FnScope ["_law_pool_here", "_law_letters_here", "_law_relation", "_law_most", "_law_row", "_law_at"] ["_law_pool_here", "_law_letters_here", "_law_relation", "_law_most"] (defScope s_Lnear) := ⟨rfl, rfl, rfl, by decide +kernel, rfl, by decide +kernel, by decide +kernel⟩
abbrev s_law : Stmt := topS 17
theorem sc_law : FnScope ["_law_script", "_law_pool_here", "_law_relation", "_law_most", "_law_letters_here", "_law_others", "_law_thirds", "_law_rows", "_law_made", "_law_x", "_law_y", "_law_row"] ["_law_script"] (defScope s_law) := ⟨rfl, rfl, rfl, by decide +kernel, rfl, by decide +kernel, by decide +kernel⟩
def Lok (ns : List Int) : Prop := ns.length ≤ 2000 ∧ ∀ n ∈ ns, 0 ≤ n ∧ n ≤ 4
def sp_Row_init0 (K : PySem.W.Frag) (C : Addr) : Sp := fun vs H Q _ => ∃ (x dx a : Addr) (ns : List Int), vs = [.ref x, .ref a] ∧ H x = some (.ins C dx []) ∧ SqL K H a (ns.map V.int) ∧ Lok ns ∧ ∀ H', Kp x H H' → RowAt K C H' x ns → Q .non H'
def sp_Row_eq (K : PySem.W.Frag) (C : Addr) : Sp := fun vs H Q _ => ∃ (a b : Addr) (ns ms : List Int), vs = [.ref a, .ref b] ∧ RowAt K C H a ns ∧ RowAt K C H b ms ∧ ∀ H', Same H H' → Q (.bl (decide (ns = ms))) H'
def sp_Row_lt (K : PySem.W.Frag) (C : Addr) : Sp := fun vs H Q _ => ∃ (a b : Addr) (ns ms : List Int), vs = [.ref a, .ref b] ∧ RowAt K C H a ns ∧ RowAt K C H b ms ∧ ∀ H', Same H H' → Q (.bl (ltP ns.length ns ms.length ms)) H'
def sp_Lahead (K : PySem.W.Frag) : Sp := fun vs H Q _ => ∃ (a b : Addr) (n m : List Int), vs = [.ref a, .ref b] ∧ SqL K H a (n.map V.int) ∧ SqL K H b (m.map V.int) ∧ n.length = m.length ∧ n.length ≤ 100000 ∧ Q (.bl (HT.lexLt n m)) H
def sp_Lshorter (K : PySem.W.Frag) : Sp := fun vs H Q _ => ∃ (a b : Addr) (n m : List Int), vs = [.ref a, .ref b] ∧ SqL K H a (n.map V.int) ∧ SqL K H b (m.map V.int) ∧ n.length ≤ 100000 ∧ Q (.bl (ltP n.length n m.length m)) H
def sp_Lletters : Sp := fun vs H Q _ => ∃ (p : Addr) (n : Nat), vs = [.ref p, .int (n : Nat)] ∧ n ≤ 2000 ∧ PoolAt H p ∧
  ∀ (H' : Hp) (q : Addr) (ts : List Int), Kp p H H' → PoolAt H' p → H q = none → H' q = some (.lst (ts.map V.int)) → Lok ts → Q (.ref q) H'
def sp_Lare (K : PySem.W.Frag) : Sp := fun vs H Q _ => ∃ (a b : Addr) (ns : List Int), vs = [.ref a, .ref b] ∧ SqL K H a (ns.map V.int) ∧ SqL K H b (ns.map V.int) ∧ ns.length ≤ 100000 ∧ ∀ H', Same H H' → Q (.bl true) H'
def sp_Lnear (K : PySem.W.Frag) : Sp := fun vs H Q _ => ∃ (p l : Addr) (rel : Int) (mo : Nat) (ns : List Int), vs = [.ref p, .ref l, .int rel, .int (mo : Nat)] ∧ PoolAt H p ∧ l ≠ p ∧ SqL K H l (ns.map V.int) ∧ Lok ns ∧ 0 < mo ∧ mo ≤ 2001 ∧ H l = some (.lst (ns.map V.int)) ∧
  ∀ (H' : Hp) (q : Addr) (ts : List Int), Kp p H H' → H q = none → H' q = some (.lst (ts.map V.int)) → Lok ts → Q (.ref q) H'
def sp_law (K : PySem.W.Frag) : Sp := fun vs H Q _ => ∃ (a : Addr) (ns : List Int), vs = [.ref a] ∧ SqL K H a (ns.map V.int) ∧ ns.length ≤ 63 ∧ ∀ H', Q (.bl true) H'
theorem big_small {n : Nat} (h : n ≤ 100000) : n < sizeLine := by rw [sizeLine_eq]; omega
structure Txt (P : Program) (w : World) (K : PySem.W.Frag) (mg : Str → Option Value) (C_Row A_LETTERS : Addr) : Prop where
  g_Row : mg "Row" = some (.ref C_Row)
  cl_Row : Cls K C_Row
  con_Row_MOST : ∃ u : Value, Con K C_Row "MOST" (.int 2000) u
  nf_Row_letters : NoAttr K C_Row "letters"
  i_Row : C8.InsC K C_Row
  c_LETTERS : mg "LETTERS" = some (.ref A_LETTERS)
  q_LETTERS : ∀ H : Hp, SqT K H A_LETTERS [V.int 0, V.int 1, V.int 2, V.int 3, V.int 4]
  n_enumerate : mg "enumerate" = none
  n_tuple : mg "tuple" = none
  n_len : mg "len" = none
  n_iter : mg "iter" = none
  n_isinstance : mg "isinstance" = none
  n_int : mg "int" = none
  n_abs : mg "abs" = none
  n_bool : mg "bool" = none
  n_str : mg "str" = none
  n_list : mg "list" = none
  n_range : mg "range" = none

section
variable {P : Program} {w : World} {K : PySem.W.Frag} {mg : Str → Option Value} {base : Heap} {C_Row A_LETTERS : Addr}
theorem in_letters (n : Int) : inV (.int n) [V.int 0, V.int 1, V.int 2, V.int 3, V.int 4] = decide (0 ≤ n ∧ n ≤ 4) := by
  have e : inV (.int n) [V.int 0, V.int 1, V.int 2, V.int 3, V.int 4] = ((0 : Int) == n || ((1 : Int) == n || ((2 : Int) == n || ((3 : Int) == n || ((4 : Int) == n || false))))) := rfl
  rw [e, Bool.eq_iff_iff, decide_eq_true_iff]
  simp only [Bool.or_eq_true, beq_iff_eq, Bool.false_eq_true, or_false]
  omega
theorem ok_Row_len {f : Addr} {fd : FuncData} (F : Fun K "__len__" "Row.__len__" s_Row_len f fd) (T : Txt P w K mg C_Row A_LETTERS)  :
    FnOk P w K mg base CX0 1 f fd ["self"] (sp_Row_len K C_Row) := by
  refine F.ok sc_Row_len (fun vs H Q E h => ?_) (fun cdv A outer s H vs Q E hr h => ?_)
  · obtain ⟨x, ns, rfl, _⟩ := h
    rfl
  · obtain ⟨x, ns, rfl, ⟨dx, tp, hx, ht⟩, q⟩ := h
    refine ⟨_, (pss_one (ps_ret (pe_callB call_len_seq (by rfl) T.n_len PySem.boot_len (pa_cons (pe_fld (pv 0) rfl) pa_nil)))), ?_⟩
    refine ⟨_, rfl, x, C_Row, dx, _, _, rfl, hx, T.cl_Row, T.nf_Row_letters, rwf_at _, tp, _, rfl, .inr ht, ?_⟩
    rw [List.length_map]
    exact q
theorem ok_Row_iter {f : Addr} {fd : FuncData} (F : Fun K "__iter__" "Row.__iter__" s_Row_iter f fd) (T : Txt P w K mg C_Row A_LETTERS)  :
    FnOk P w K mg base CX0 1 f fd ["self"] (sp_Row_iter K C_Row) := by
  refine F.ok sc_Row_iter (fun vs H Q E h => ?_) (fun cdv A outer s H vs Q E hr h => ?_)
  · obtain ⟨x, tp, dx, ns, rfl, _⟩ := h
    rfl
  · obtain ⟨x, tp, dx, ns, rfl, hx, ht, q⟩ := h
    refine ⟨_, (pss_one (ps_ret (pe_callB call_iterT (by rfl) T.n_iter (by decide +kernel) (pa_cons (pe_fld (pv 0) rfl) pa_nil)))), ?_⟩
    exact ⟨_, rfl, x, C_Row, dx, _, _, rfl, hx, T.cl_Row, T.nf_Row_letters, rwf_at _, tp, _, rfl, ht, q⟩
theorem ok_Lcell {f : Addr} {fd : FuncData} (F : Fun K "_law_cell" "_law_cell" s_Lcell f fd) (T : Txt P w K mg C_Row A_LETTERS)  :
    FnOk P w K mg base CX0 1 f fd ["_law_script", "_law_at"] (sp_Lcell K) := by
  refine F.ok sc_Lcell (fun vs H Q E h => ?_) (fun cdv A outer s H vs Q E hr h => ?_)
  · obtain ⟨l, ns, j, rfl, _⟩ := h
    rfl
  · obtain ⟨l, ns, j, rfl, hs, q⟩ := h
    refine ⟨_, (pss_cons (ps_if (pt_cmpR op_lt (pv 1) (pe_callB call_len_seq (by rfl) T.n_len PySem.boot_len (pa_cons (pv 0) pa_nil)) (nomark _)) (pss_one (ps_ret (pe_callB call_abs (by rfl) T.n_abs (by decide +kernel) (pa_cons (pe_callTy call_int1 (by rfl) T.n_int (by decide +kernel) (pa_cons (pe_ix ix_list (pv 0) (pv 1) (fun _ _ => rfl)) pa_nil)) pa_nil)))) pss_nil)
      (pss_one (ps_ret pe_int))), ?_⟩
    refine ⟨_, rfl, _, rfl, l, _, rfl, .inl hs, _, _, rfl, rfl, _, rfl, ?_⟩
    refine ite2 (fun hlt => ?_) (fun _ => q 0 (by decide))
    have hj : j < ns.length := by
      have z := of_decide_eq_true hlt
      rw [List.length_map] at z
      omega
    have hat : (ns.map V.int)[j]? = some (V.int ns[j]) := by rw [List.getElem?_map, List.getElem?_eq_getElem hj] <;> rfl
    refine ⟨_, rfl, _, rfl, l, _, _, _, rfl, rfl, hs, atI_nat hat, .inl ⟨_, rfl, _, rfl, q _ ?_⟩⟩
    split <;> omega
theorem ok_Lpool {f : Addr} {fd : FuncData} (F : Fun K "_law_pool" "_law_pool" s_Lpool f fd) (T : Txt P w K mg C_Row A_LETTERS)  :
    FnOk P w K mg base CX0 1 f fd ["_law_cell_here"] sp_Lpool := by
  refine F.ok sc_Lpool (fun vs H Q E h => ?_) (fun cdv A outer s H vs Q E hr h => ?_)
  · obtain ⟨c, rfl, _⟩ := h
    rfl
  · obtain ⟨c, rfl, q⟩ := h
    refine ⟨_, (pss_cons (ps_if (pt_cmpR op_ge (pv 0) (pe_op op_pow pe_int pe_int) (nomark _)) (pss_one (ps_ret (pe_lst (pa_cons (pv 0) (pa_cons (pv 0) (pa_cons pe_int pa_nil)))))) pss_nil)
      (pss_one (ps_ret (pe_lst (pa_cons pe_int (pa_cons (pv 0) (pa_cons pe_int pa_nil))))))), ?_⟩
    refine ⟨_, rfl, _, _, rfl, rfl, ⟨by decide, by decide, by decide⟩, _, _, rfl, rfl, _, rfl, ?_⟩
    refine ite2 (fun _ => ?_) (fun _ => ?_)
    · exact ⟨_, rfl, _, rfl, (by show 3 ≤ sizeLine; decide), fun p hp => q p _ hp (same_upd hp) ⟨_, _, _, upd_same⟩⟩
    · exact ⟨_, rfl, (by show 3 ≤ sizeLine; decide), fun p hp => q p _ hp (same_upd hp) ⟨_, _, _, upd_same⟩⟩
theorem ok_Ltake {f : Addr} {fd : FuncData} (F : Fun K "_law_take" "_law_take" s_Ltake f fd) (T : Txt P w K mg C_Row A_LETTERS)  :
    FnOk P w K mg base CX0 1 f fd ["_law_pool_here", "_law_many"] sp_Ltake := by
  refine F.ok sc_Ltake (fun vs H Q E h => ?_) (fun cdv A outer s H vs Q E hr h => ?_)
  · obtain ⟨p, many, rfl, _⟩ := h
    rfl
  · obtain ⟨p, many, rfl, ⟨x, y, z, hp⟩, hm, hb, q⟩ := h
    refine ⟨_, (pss_cons (ps_asg (pe_op op_add (pe_ix ix_list (pv 0) pe_int (fun _ _ => rfl)) pe_int) (pg_sub (pv 0) pe_int set_list))
      (pss_cons (ps_if (pt_cmpR op_gt (pe_ix ix_list (pv 0) pe_int (fun _ _ => rfl)) pe_int (nomark _)) (pss_cons (ps_set (i := 2) sc_Ltake.nd rfl (Or.inl rfl) (pe_op op_mod (pe_callTy call_int1 (by rfl) T.n_int (by decide +kernel) (pa_cons (pe_ix ix_list (pv 0) pe_int (fun _ _ => rfl)) pa_nil)) (pv 1)))
      (pss_cons (ps_asg (pe_op op_fdivW (pe_ix ix_list (pv 0) pe_int (fun _ _ => rfl)) (pv 1)) (pg_sub (pv 0) pe_int set_list))
      (pss_one (ps_ret (pv 2))))) pss_nil)
      (pss_cons (ps_set (i := 3) sc_Ltake.nd rfl (Or.inl rfl) (pe_op op_mod (pe_callTy call_int1 (by rfl) T.n_int (by decide +kernel) (pa_cons (pe_op op_mulA (pe_op op_add (pe_ix ix_list (pv 0) pe_int (fun _ _ => rfl)) (pe_op op_mulA pe_int (pe_ix ix_list (pv 0) pe_int (fun _ _ => rfl)))) pe_int) pa_nil)) pe_int))
      (pss_cons (ps_set (i := 3) sc_Ltake.nd rfl (Or.inl rfl) (pe_op op_mod (pe_callTy call_int1 (by rfl) T.n_int (by decide +kernel) (pa_cons (pe_op op_add (pe_op op_mulA (pv 3) pe_int) (pe_op op_mulA pe_int (pe_ix ix_list (pv 0) pe_int (fun _ _ => rfl)))) pa_nil)) pe_int))
      (pss_one (ps_ret (pe_op op_mod (pe_callTy call_int1 (by rfl) T.n_int (by decide +kernel) (pa_cons (pe_op op_fdivW (pv 3) pe_int) pa_nil)) (pv 1)))))))), ?_⟩
    refine ⟨_, rfl, p, _, _, _, rfl, rfl, SqL.of hp, at2, _, _, rfl, rfl, _, rfl, p, _, _, _, rfl, rfl, hp, rfl, ?_⟩
    refine ⟨_, rfl, p, _, _, _, rfl, rfl, SqL.of upd_same, at0, _, _, rfl, rfl, _, rfl, ?_⟩
    refine ite2 (fun _ => ?_) (fun _ => ?_)
    · refine ⟨_, rfl, p, _, _, _, rfl, rfl, SqL.of upd_same, at0, .inl ⟨_, rfl, _, rfl, _, _, rfl, rfl, hm, ?_⟩⟩
      refine ⟨_, rfl, p, _, _, _, rfl, rfl, SqL.of upd_same, at0, _, rfl, _, _, rfl, rfl, wide_div hm hb (by decide) (by decide), _, rfl, p, _, _, _, rfl, rfl, upd_same, rfl, ?_⟩
      exact ⟨_, rfl, q _ _ (Kp.trans Kp.upd Kp.upd) ⟨_, _, _, upd_same⟩ (Int.emod_nonneg _ (by omega)) (Int.emod_lt_of_pos _ hm)⟩
    · refine ⟨_, rfl, p, _, _, _, rfl, rfl, SqL.of upd_same, at1, _, rfl, p, _, _, _, rfl, rfl, SqL.of upd_same, at2, _, _, rfl, rfl, .inl (.inl ⟨by decide, by decide⟩), _, _, rfl, rfl, _, _, rfl, rfl, .inl (.inr ⟨by decide, by decide⟩), .inl ⟨_, rfl, _, _, rfl, rfl, (by show (0 : Int) < 2147483647; decide), ?_⟩⟩
      refine ⟨_, rfl, _, _, rfl, rfl, .inl (.inr ⟨by decide, by decide⟩), _, rfl, p, _, _, _, rfl, rfl, SqL.of upd_same, at2, _, _, rfl, rfl, .inl (.inl ⟨by decide, by decide⟩), _, _, rfl, rfl, .inl ⟨_, rfl, _, _, rfl, rfl, (by show (0 : Int) < 2147483399; decide), ?_⟩⟩
      refine ⟨_, rfl, _, _, rfl, rfl, wide_div (b := 300) (by decide) (by decide) (by decide) (by decide), .inl ⟨_, rfl, _, rfl, _, _, rfl, rfl, hm, ?_⟩⟩
      exact q _ _ Kp.upd ⟨_, _, _, upd_same⟩ (Int.emod_nonneg _ (by omega)) (Int.emod_lt_of_pos _ hm)
theorem okr_Lsame {f : Addr} {fd : FuncData} {j n : Nat} (F : Fun K "_law_same" "_law_same" s_Lsame f fd) (T : Txt P w K mg C_Row A_LETTERS) (c_Lsame : Cal CX0 P w K mg base j "_law_same" (sp_Lsame K n)) :
    FnOk P w K mg base CX0 (j + 1) f fd ["_law_told", "_law_due"] (sp_Lsame K (n + 1)) := by
  refine F.ok sc_Lsame (fun vs H Q E h => ?_) (fun cdv A outer s H vs Q E hr h => ?_)
  · obtain ⟨x, y, rfl, _⟩ := h
    rfl
  · obtain ⟨x, y, rfl, hv, q⟩ := h
    refine ⟨_, (pss_cons (ps_if (pt_cmpR op_isN (pv 1) pe_non (nomark _)) (pss_one (ps_ret (pe_cmpR op_isN (pv 0) pe_non (nomark _)))) pss_nil)
      (pss_cons (ps_if (pt_cmpR op_isB (pv 1) pe_bl (nomark _)) (pss_one (ps_ret (pe_cmpR op_isB (pv 0) pe_bl (nomark _)))) pss_nil)
      (pss_cons (ps_if (pt_cmpR op_isB (pv 1) pe_bl (nomark _)) (pss_one (ps_ret (pe_cmpR op_isB (pv 0) pe_bl (nomark _)))) pss_nil)
      (pss_cons (ps_if (pt_val (pe_callB call_isi (by rfl) T.n_isinstance (by decide +kernel) (pa_cons (pv 1) (pa_cons (pe_bltn (v := .ty "int") (by rfl) T.n_int (by decide +kernel) rfl) pa_nil)))) (pss_one (ps_ret (pe_and (pe_callB call_isi (by rfl) T.n_isinstance (by decide +kernel) (pa_cons (pv 0) (pa_cons (pe_bltn (v := .ty "int") (by rfl) T.n_int (by decide +kernel) rfl) pa_nil))) (pe_and (pe_not (pe_callB call_isi (by rfl) T.n_isinstance (by decide +kernel) (pa_cons (pv 0) (pa_cons (pe_bltn (v := .ty "bool") (by rfl) T.n_bool (by decide +kernel) rfl) pa_nil)))) (pe_one (pe_cmpR op_eq (pv 0) (pv 1) (nomark _))))))) pss_nil)
      (pss_cons (ps_if (pt_val (pe_callB call_isi (by rfl) T.n_isinstance (by decide +kernel) (pa_cons (pv 1) (pa_cons (pe_bltn (v := .ty "str") (by rfl) T.n_str (by decide +kernel) rfl) pa_nil)))) (pss_one (ps_ret (pe_and (pe_callB call_isi (by rfl) T.n_isinstance (by decide +kernel) (pa_cons (pv 0) (pa_cons (pe_bltn (v := .ty "str") (by rfl) T.n_str (by decide +kernel) rfl) pa_nil))) (pe_one (pe_cmpR op_eq (pv 0) (pv 1) (nomark _)))))) pss_nil)
      (pss_cons (ps_if (PW.pt (pw_and (pt_val (pe_callB call_isi (by rfl) T.n_isinstance (by decide +kernel) (pa_cons (pv 1) (pa_cons (pe_bltn (v := .ty "tuple") (by rfl) T.n_tuple (by decide +kernel) rfl) pa_nil)))) (pw_and1 (pt_not (pt_val (pe_callB call_isi (by rfl) T.n_isinstance (by decide +kernel) (pa_cons (pv 0) (pa_cons (pe_bltn (v := .ty "tuple") (by rfl) T.n_tuple (by decide +kernel) rfl) pa_nil)))))))) (pss_one (ps_ret pe_bl)) pss_nil)
      (pss_cons (ps_if (PW.pt (pw_and (pt_val (pe_callB call_isi (by rfl) T.n_isinstance (by decide +kernel) (pa_cons (pv 1) (pa_cons (pe_bltn (v := .ty "list") (by rfl) T.n_list (by decide +kernel) rfl) pa_nil)))) (pw_and1 (pt_not (pt_val (pe_callB call_isi (by rfl) T.n_isinstance (by decide +kernel) (pa_cons (pv 0) (pa_cons (pe_bltn (v := .ty "list") (by rfl) T.n_list (by decide +kernel) rfl) pa_nil)))))))) (pss_one (ps_ret pe_bl)) pss_nil)
      (pss_cons (ps_if (pt_cmpR op_ne (pe_callB call_len_seq (by rfl) T.n_len PySem.boot_len (pa_cons (pv 0) pa_nil)) (pe_callB call_len_seq (by rfl) T.n_len PySem.boot_len (pa_cons (pv 1) pa_nil)) (nomark _)) (pss_one (ps_ret pe_bl)) pss_nil)
      (pss_cons (ps_for PassesOwn.never rfl (pi_range1 (by rfl) T.n_range (pa_cons (pe_callB call_len_seq (by rfl) T.n_len PySem.boot_len (pa_cons (pv 1) pa_nil)) pa_nil)) (pg_name (i := 2) sc_Lsame.nd rfl (Or.inl rfl))
        (pss_one (ps_if (pt_not (pt_val (pc_c c_Lsame hr (Nat.le_refl _) rfl pass0 (pa_cons (pe_ix ix_seq (pv 0) (pv 2) (fun _ _ => rfl)) (pa_cons (pe_ix ix_seq (pv 1) (pv 2) (fun _ _ => rfl)) pa_nil))))) (pss_one (ps_ret pe_bl)) pss_nil)))
      (pss_one (ps_ret pe_bl))))))))))), ?_⟩
    have kL1 : PySem.W.kitOne K (.type "list") (.type "int") = some false := kit_ty (by decide +kernel)
    have kL2 : PySem.W.kitOne K (.type "list") (.type "str") = some false := kit_ty (by decide +kernel)
    have kL3 : PySem.W.kitOne K (.type "list") (.type "tuple") = some false := kit_ty (by decide +kernel)
    have kL4 : PySem.W.kitOne K (.type "list") (.type "list") = some true := kit_ty (by decide +kernel)
    have kT1 : PySem.W.kitOne K (.type "tuple") (.type "int") = some false := kit_ty (by decide +kernel)
    have kT2 : PySem.W.kitOne K (.type "tuple") (.type "str") = some false := kit_ty (by decide +kernel)
    have kT3 : PySem.W.kitOne K (.type "tuple") (.type "tuple") = some true := kit_ty (by decide +kernel)
    have kT4 : PySem.W.kitOne K (.type "tuple") (.type "list") = some false := kit_ty (by decide +kernel)
    have hv' : (flatD x = true ∧ x = y) ∨ (∃ m, n = m + 1 ∧ ∃ (a b : Addr) (xs ys : List V), x = .ref a ∧ y = .ref b ∧ SqL K H a xs ∧ SqL K H b ys ∧ xs.length ≤ sizeLine ∧ Pairs (SameV K H m) xs ys) ∨
        (∃ m, n = m + 1 ∧ ∃ (a b : Addr) (xs ys : List V), x = .ref a ∧ y = .ref b ∧ SqT K H a xs ∧ SqT K H b ys ∧ xs.length ≤ sizeLine ∧ Pairs (SameV K H m) xs ys) := by
      cases n with
      | zero => exact .inl hv
      | succ m =>
        rcases hv with h | h | h
        · exact .inl h
        · exact .inr (.inl ⟨m, rfl, h⟩)
        · exact .inr (.inr ⟨m, rfl, h⟩)
    rcases hv' with ⟨hf, e⟩ | ⟨m, rfl, a, b, xs, ys, rfl, rfl, ha, hb, hl, hp⟩ | ⟨m, rfl, a, b, xs, ys, rfl, rfl, ha, hb, hl, hp⟩
    · subst e
      cases x with
      | non => exact ⟨_, rfl, rfl, _, rfl, iteDT rfl ⟨_, rfl, rfl, q⟩⟩
      | bl b =>
        refine ⟨_, rfl, rfl, _, rfl, iteDF (by intro z; cases z) ?_⟩
        cases b with
        | true => exact ⟨_, rfl, _, rfl, _, rfl, iteDT rfl ⟨_, rfl, _, rfl, q⟩⟩
        | false => exact ⟨_, rfl, _, rfl, _, rfl, iteDF (by intro z; cases z) ⟨_, rfl, _, rfl, _, rfl, iteDT rfl ⟨_, rfl, _, rfl, q⟩⟩⟩
      | int i =>
        refine ⟨_, rfl, rfl, _, rfl, iteDF (by intro z; cases z) ?_⟩
        refine ⟨_, rfl, _, rfl, _, rfl, iteDF (by intro z; cases z) ?_⟩
        refine ⟨_, rfl, _, rfl, _, rfl, iteDF (by intro z; cases z) ?_⟩
        refine ⟨_, rfl, _, _, _, .type "int", true, rfl, .ty "int", .base (.int i), kit_ty (by decide +kernel), true, rfl, iteT ?_⟩
        refine ⟨_, rfl, _, _, _, .type "int", true, rfl, .ty "int", .base (.int i), kit_ty (by decide +kernel), true, rfl, iteT ?_⟩
        refine ⟨_, rfl, _, _, _, .type "bool", false, rfl, .ty "bool", .base (.int i), kit_ty (by decide +kernel), false, rfl, true, rfl, iteT ?_⟩
        refine ⟨_, rfl, _, rfl, rfl, ?_⟩
        rw [decide_eq_true (show V.int i = V.int i from rfl)]
        exact q
      | str i =>
        refine ⟨_, rfl, rfl, _, rfl, iteDF (by intro z; cases z) ?_⟩
        refine ⟨_, rfl, _, rfl, _, rfl, iteDF (by intro z; cases z) ?_⟩
        refine ⟨_, rfl, _, rfl, _, rfl, iteDF (by intro z; cases z) ?_⟩
        refine ⟨_, rfl, _, _, _, .type "int", false, rfl, .ty "int", .base (.str i), kit_ty (by decide +kernel), false, rfl, iteF ?_⟩
        refine ⟨_, rfl, _, _, _, .type "str", true, rfl, .ty "str", .base (.str i), kit_ty (by decide +kernel), true, rfl, iteT ?_⟩
        refine ⟨_, rfl, _, _, _, .type "str", true, rfl, .ty "str", .base (.str i), kit_ty (by decide +kernel), true, rfl, iteT ?_⟩
        refine ⟨_, rfl, _, rfl, rfl, ?_⟩
        rw [decide_eq_true (show V.str i = V.str i from rfl)]
        exact q
      | _ => exact absurd (show false = true from hf) Bool.false_ne_true
    · refine ⟨_, rfl, rfl, _, rfl, iteDF (by intro z; cases z) ?_⟩
      refine ⟨_, rfl, _, rfl, _, rfl, iteDF (by intro z; cases z) ?_⟩
      refine ⟨_, rfl, _, rfl, _, rfl, iteDF (by intro z; cases z) ?_⟩
      refine ⟨_, rfl, _, _, _, .type "int", false, rfl, .ty "int", tyx_list hb, kL1, false, rfl, iteF ?_⟩
      refine ⟨_, rfl, _, _, _, .type "str", false, rfl, .ty "str", tyx_list hb, kL2, false, rfl, iteF ?_⟩
      refine ⟨_, rfl, _, _, _, .type "tuple", false, rfl, .ty "tuple", tyx_list hb, kL3, false, rfl, iteF (iteF ?_)⟩
      refine ⟨_, rfl, _, _, _, .type "list", true, rfl, .ty "list", tyx_list hb, kL4, true, rfl, iteT ?_⟩
      refine ⟨_, rfl, _, _, _, .type "list", true, rfl, .ty "list", tyx_list ha, kL4, true, rfl, iteF ?_⟩
      refine ⟨_, rfl, a, _, rfl, .inl ha, _, rfl, b, _, rfl, .inl hb, rfl, _, rfl, ?_⟩
      rw [decide_eq_true (show V.int (xs.length : Nat) = V.int (ys.length : Nat) by rw [hp.1])]
      refine iteF ?_
      have hy : ys.length ≤ 16777216 := by rw [← hp.1, ← sizeLine_eq]; exact hl
      refine ⟨_, rfl, b, _, rfl, .inl hb, _, rfl, by omega, by omega, for_range (lo := 0) (n := ((ys.length : Nat) : Int).toNat) (fun i σ H' => H' = H ∧ ∃ v : Option V, σ = [some (.ref a), some (.ref b), v]) ⟨rfl, none, rfl⟩ ?_ ?_⟩
      · rintro i σ H' hi ⟨rfl, v, rfl⟩
        have i1 : i < ys.length := by omega
        have i2 : i < xs.length := by rw [hp.1]; exact i1
        have ex : xs[i]? = some xs[i] := List.getElem?_eq_getElem i2
        have ey : ys[i]? = some ys[i] := List.getElem?_eq_getElem i1
        have ex' := atI_nat ex
        have ey' := atI_nat ey
        rw [show ((i : Nat) : Int) = 0 + ((i : Nat) : Int) by omega] at ex' ey'
        refine ⟨_, rfl, _, rfl, .inl ⟨a, _, _, _, rfl, rfl, ha, ex', _, rfl, _, rfl, .inl ⟨b, _, _, _, rfl, rfl, hb, ey', _, _, rfl, hp.2 i _ _ ex ey, true, rfl, iteF ?_⟩⟩⟩
        exact ⟨rfl, _, rfl⟩
      · rintro σ H' ⟨rfl, v, rfl⟩
        exact q
    · refine ⟨_, rfl, rfl, _, rfl, iteDF (by intro z; cases z) ?_⟩
      refine ⟨_, rfl, _, rfl, _, rfl, iteDF (by intro z; cases z) ?_⟩
      refine ⟨_, rfl, _, rfl, _, rfl, iteDF (by intro z; cases z) ?_⟩
      refine ⟨_, rfl, _, _, _, .type "int", false, rfl, .ty "int", tyx_tup hb, kT1, false, rfl, iteF ?_⟩
      refine ⟨_, rfl, _, _, _, .type "str", false, rfl, .ty "str", tyx_tup hb, kT2, false, rfl, iteF ?_⟩
      refine ⟨_, rfl, _, _, _, .type "tuple", true, rfl, .ty "tuple", tyx_tup hb, kT3, true, rfl, iteT ?_⟩
      refine ⟨_, rfl, _, _, _, .type "tuple", true, rfl, .ty "tuple", tyx_tup ha, kT3, true, rfl, iteF ?_⟩
      refine ⟨_, rfl, _, _, _, .type "list", false, rfl, .ty "list", tyx_tup hb, kT4, false, rfl, iteF (iteF ?_)⟩
      refine ⟨_, rfl, a, _, rfl, .inr ha, _, rfl, b, _, rfl, .inr hb, rfl, _, rfl, ?_⟩
      rw [decide_eq_true (show V.int (xs.length : Nat) = V.int (ys.length : Nat) by rw [hp.1])]
      refine iteF ?_
      have hy : ys.length ≤ 16777216 := by rw [← hp.1, ← sizeLine_eq]; exact hl
      refine ⟨_, rfl, b, _, rfl, .inr hb, _, rfl, by omega, by omega, for_range (lo := 0) (n := ((ys.length : Nat) : Int).toNat) (fun i σ H' => H' = H ∧ ∃ v : Option V, σ = [some (.ref a), some (.ref b), v]) ⟨rfl, none, rfl⟩ ?_ ?_⟩
      · rintro i σ H' hi ⟨rfl, v, rfl⟩
        have i1 : i < ys.length := by omega
        have i2 : i < xs.length := by rw [hp.1]; exact i1
        have ex : xs[i]? = some xs[i] := List.getElem?_eq_getElem i2
        have ey : ys[i]? = some ys[i] := List.getElem?_eq_getElem i1
        have ex' := atI_nat ex
        have ey' := atI_nat ey
        rw [show ((i : Nat) : Int) = 0 + ((i : Nat) : Int) by omega] at ex' ey'
        refine ⟨_, rfl, _, rfl, .inr (.inl ⟨a, _, _, _, rfl, rfl, ha, ex', _, rfl, _, rfl, .inr (.inl ⟨b, _, _, _, rfl, rfl, hb, ey', _, _, rfl, hp.2 i _ _ ex ey, true, rfl, iteF ?_⟩)⟩)⟩
        exact ⟨rfl, _, rfl⟩
      · rintro σ H' ⟨rfl, v, rfl⟩
        exact q
theorem ok_Lsame {f : Addr} {fd : FuncData} (F : Fun K "_law_same" "_law_same" s_Lsame f fd) (T : Txt P w K mg C_Row A_LETTERS) (m : mg "_law_same" = some (.ref f)) (kp : PySem.W.keepIn K (.ref f) = true) (b : Binds K fd ["_law_told", "_law_due"] []) :
    ∀ n : Nat, FnOk P w K mg base CX0 (n + 1) f fd ["_law_told", "_law_due"] (sp_Lsame K n)
  | 0 => F.ok sc_Lsame (fun _ _ _ _ h => False.elim h) (fun _ _ _ _ _ _ _ _ _ h => False.elim h)
  | n + 1 => okr_Lsame F T (cal_mk (ok_Lsame F T m kp b n) m kp b)
theorem ok_Row_init {f : Addr} {fd : FuncData} (F : Fun K "__init__" "Row.__init__" s_Row_init f fd) (T : Txt P w K mg C_Row A_LETTERS)  :
    FnOk P w K mg base CX0 1 f fd ["self", "letters"] (sp_Row_init0 K C_Row) := by
  refine F.ok sc_Row_init (fun vs H Q E h => ?_) (fun cdv A outer s H vs Q E hr h => ?_)
  · obtain ⟨x, dx, a, ns, rfl, _⟩ := h
    rfl
  · obtain ⟨x, dx, a, ns, rfl, hx, ha, hok, q⟩ := h
    refine ⟨_, (pss_cons (ps_for PassesOwn.never rfl (pi_enumS (by rfl) T.n_enumerate (pa_cons (pv 1) pa_nil)) (pg_tup rfl (pgs_cons (pg_name (i := 2) sc_Row_init.nd rfl (Or.inl rfl)) (pgs_cons (pg_name (i := 3) sc_Row_init.nd rfl (Or.inl rfl)) pgs_nil)))
        (pss_one (ps_if (PW.pt (pw_or (pt_cmpR op_eq (pv 2) (pe_con (pv 0) rfl) (nomark _)) (pw_or1 (pt_cmpR op_notIn_seq (pv 3) (pe_glob (v := .ref A_LETTERS) rfl T.c_LETTERS rfl) (by rfl))))) (pss_one ps_never) pss_nil)))
      (pss_one (ps_fld (pv 0) (pe_callTy call_tuple_of (by rfl) T.n_tuple (by decide +kernel) (pa_cons (pv 1) pa_nil)) rfl))), ?_⟩
    obtain ⟨u, hu⟩ := T.con_Row_MOST
    have hz := hok.1
    refine ⟨_, rfl, a, _, false, rfl, ha, for_enumB (K := K) (bb := false) (a := a) (xs := ns.map V.int) (fun i σ H' => ∃ v2 v3 : Option V, σ = [some (.ref x), some (.ref a), v2, v3] ∧ Same H H')
      ⟨none, none, rfl, Same.of _⟩ (fun i σ H' _ ⟨_, _, _, s1⟩ => Same.seq s1 ha) ?_ ?_⟩
    · rintro i y σ H' T' hy ⟨v2, v3, rfl, s1⟩ hT
      obtain ⟨n, hn, rfl⟩ := int_at hy
      have hi : i < ns.length := (List.getElem?_eq_some_iff.mp hn).1
      have s2 := s1.trans (same_upd (o := .tup [.int (i : Nat), .int n]) hT)
      have hx2 := s2 _ _ hx
      refine ⟨T', _, rfl, SqT.of upd_same, rfl, _, _, rfl, _, _, rfl, rfl, ?_⟩
      refine ⟨_, rfl, _, rfl, x, C_Row, dx, [], _, u, rfl, hx2, T.cl_Row, hu, rfl, rfl, _, rfl, ?_⟩
      refine iteDF (fun z => by have := V.int.inj z; omega) ?_
      refine ⟨_, rfl, A_LETTERS, _, rfl, .inr (T.q_LETTERS _), rfl, rfl, _, rfl, ?_⟩
      rw [in_letters, decide_eq_true (hok.2 n (List.mem_of_getElem? hn))]
      exact iteF ⟨_, _, rfl, s2⟩
    · rintro σ H' ⟨v2, v3, rfl, s1⟩
      have hx1 := s1 _ _ hx
      refine ⟨_, rfl, a, _, rfl, .inl ⟨Same.seq s1 ha, fun z hz' => ?_⟩⟩
      have sz := same_upd (o := .tup (ns.map V.int)) hz'
      have nzx : z ≠ x := fun w => by rw [w, hx1] at hz'; cases hz'
      refine ⟨_, rfl, x, C_Row, dx, [], rfl, sz _ _ hx1, T.cl_Row, T.nf_Row_letters, (by show 0 < 1000; decide), ?_⟩
      refine q _ (fun b o nb e => ?_) ⟨dx, z, upd_same, SqT.of (by rw [upd_ne nzx, upd_same])⟩
      rw [upd_ne nb]
      exact sz _ _ (s1 _ _ e)
theorem ok_Row_eq {f : Addr} {fd : FuncData} (F : Fun K "__eq__" "Row.__eq__" s_Row_eq f fd) (T : Txt P w K mg C_Row A_LETTERS)  :
    FnOk P w K mg base CX0 1 f fd ["self", "other"] (sp_Row_eq K C_Row) := by
  refine F.ok sc_Row_eq (fun vs H Q E h => ?_) (fun cdv A outer s H vs Q E hr h => ?_)
  · obtain ⟨a, b, ns, ms, rfl, _⟩ := h
    rfl
  · obtain ⟨a, b, ns, ms, rfl, ⟨dx, tp, ha, htp⟩, ⟨dy, tq, hb, htq⟩, q⟩ := h
    refine ⟨_, (pss_cons (ps_if (pt_not (pt_val (pe_callB (C8.call_isC T.i_Row) (by rfl) T.n_isinstance (by decide +kernel) (pa_cons (pv 1) (pa_cons (pe_glob (v := .ref C_Row) rfl T.g_Row rfl) pa_nil))))) (pss_one ps_never) pss_nil)
      (pss_one (ps_ret (pe_cmpR (op_eqNT (Room.units hr)) (pe_tup (pa_cons (pe_callB call_len_seq (by rfl) T.n_len PySem.boot_len (pa_cons (pe_fld (pv 0) rfl) pa_nil)) (pa_cons (pe_fld (pv 0) rfl) pa_nil))) (pe_tup (pa_cons (pe_callB call_len_seq (by rfl) T.n_len PySem.boot_len (pa_cons (pe_fld (pv 1) rfl) pa_nil)) (pa_cons (pe_fld (pv 1) rfl) pa_nil))) (nomark _))))), ?_⟩
    refine ⟨_, rfl, b, dy, _, rfl, hb, true, rfl, iteF ?_⟩
    refine ⟨_, rfl, a, C_Row, dx, _, _, rfl, ha, T.cl_Row, T.nf_Row_letters, rwf_at _, tp, _, rfl, .inr htp, ?_⟩
    refine ⟨_, rfl, a, C_Row, dx, _, _, rfl, ha, T.cl_Row, T.nf_Row_letters, rwf_at _, (by show 2 ≤ sizeLine; decide), fun u hu => ?_⟩
    have s1 := same_upd (o := .tup [.int ((ns.map V.int).length : Nat), .ref tp]) hu
    have hb1 := s1 _ _ hb
    refine ⟨_, rfl, b, C_Row, dy, _, _, rfl, hb1, T.cl_Row, T.nf_Row_letters, rwf_at _, tq, _, rfl, .inr (sqt_same htq s1), ?_⟩
    refine ⟨_, rfl, b, C_Row, dy, _, _, rfl, hb1, T.cl_Row, T.nf_Row_letters, rwf_at _, (by show 2 ≤ sizeLine; decide), fun v hv => ?_⟩
    have s2' := same_upd (o := .tup [.int ((ms.map V.int).length : Nat), .ref tq]) hv
    have s2 := s1.trans s2'
    refine ⟨_, _, ns, ms, ⟨u, tp, rfl, SqT.of (s2' _ _ upd_same), sqt_same htp s2⟩, ⟨v, tq, rfl, SqT.of upd_same, sqt_same htq s2⟩, ?_⟩
    have e : decide (((ns.map V.int).length : Int) = ((ms.map V.int).length : Int) ∧ ns = ms) = decide (ns = ms) := by
      rw [Bool.eq_iff_iff, decide_eq_true_iff, decide_eq_true_iff]
      exact ⟨fun h => h.2, fun h => ⟨by rw [h], h⟩⟩
    rw [e]
    exact q _ s2
theorem ok_Row_lt {f : Addr} {fd : FuncData} (F : Fun K "__lt__" "Row.__lt__" s_Row_lt f fd) (T : Txt P w K mg C_Row A_LETTERS)  :
    FnOk P w K mg base CX0 1 f fd ["self", "other"] (sp_Row_lt K C_Row) := by
  refine F.ok sc_Row_lt (fun vs H Q E h => ?_) (fun cdv A outer s H vs Q E hr h => ?_)
  · obtain ⟨a, b, ns, ms, rfl, _⟩ := h
    rfl
  · obtain ⟨a, b, ns, ms, rfl, ⟨dx, tp, ha, htp⟩, ⟨dy, tq, hb, htq⟩, q⟩ := h
    refine ⟨_, (pss_cons (ps_if (pt_not (pt_val (pe_callB (C8.call_isC T.i_Row) (by rfl) T.n_isinstance (by decide +kernel) (pa_cons (pv 1) (pa_cons (pe_glob (v := .ref C_Row) rfl T.g_Row rfl) pa_nil))))) (pss_one ps_never) pss_nil)
      (pss_one (ps_ret (pe_cmpR (op_ltNT (Room.units hr)) (pe_tup (pa_cons (pe_callB call_len_seq (by rfl) T.n_len PySem.boot_len (pa_cons (pe_fld (pv 0) rfl) pa_nil)) (pa_cons (pe_fld (pv 0) rfl) pa_nil))) (pe_tup (pa_cons (pe_callB call_len_seq (by rfl) T.n_len PySem.boot_len (pa_cons (pe_fld (pv 1) rfl) pa_nil)) (pa_cons (pe_fld (pv 1) rfl) pa_nil))) (nomark _))))), ?_⟩
    refine ⟨_, rfl, b, dy, _, rfl, hb, true, rfl, iteF ?_⟩
    refine ⟨_, rfl, a, C_Row, dx, _, _, rfl, ha, T.cl_Row, T.nf_Row_letters, rwf_at _, tp, _, rfl, .inr htp, ?_⟩
    refine ⟨_, rfl, a, C_Row, dx, _, _, rfl, ha, T.cl_Row, T.nf_Row_letters, rwf_at _, (by show 2 ≤ sizeLine; decide), fun u hu => ?_⟩
    have s1 := same_upd (o := .tup [.int ((ns.map V.int).length : Nat), .ref tp]) hu
    have hb1 := s1 _ _ hb
    refine ⟨_, rfl, b, C_Row, dy, _, _, rfl, hb1, T.cl_Row, T.nf_Row_letters, rwf_at _, tq, _, rfl, .inr (sqt_same htq s1), ?_⟩
    refine ⟨_, rfl, b, C_Row, dy, _, _, rfl, hb1, T.cl_Row, T.nf_Row_letters, rwf_at _, (by show 2 ≤ sizeLine; decide), fun v hv => ?_⟩
    have s2' := same_upd (o := .tup [.int ((ms.map V.int).length : Nat), .ref tq]) hv
    have s2 := s1.trans s2'
    refine ⟨_, _, ns, ms, ⟨u, tp, rfl, SqT.of (s2' _ _ upd_same), sqt_same htp s2⟩, ⟨v, tq, rfl, SqT.of upd_same, sqt_same htq s2⟩, ?_⟩
    have e : ltP (((ns.map V.int).length : Nat) : Int) ns (((ms.map V.int).length : Nat) : Int) ms = ltP (ns.length : Nat) ns (ms.length : Nat) ms := by rw [List.length_map, List.length_map]
    rw [e]
    exact q _ s2
theorem ok_Lahead {f : Addr} {fd : FuncData} (F : Fun K "_law_ahead" "_law_ahead" s_Lahead f fd) (T : Txt P w K mg C_Row A_LETTERS)  :
    FnOk P w K mg base CX0 1 f fd ["_law_one", "_law_two"] (sp_Lahead K) := by
  refine F.ok sc_Lahead (fun vs H Q E h => ?_) (fun cdv A outer s H vs Q E hr h => ?_)
  · obtain ⟨a, b, n, m, rfl, _⟩ := h
    rfl
  · obtain ⟨a, b, n, m, rfl, ha, hb, hl, hz, q⟩ := h
    refine ⟨_, (pss_cons (ps_for PassesOwn.never rfl (pi_range1 (by rfl) T.n_range (pa_cons (pe_callB call_len_seq (by rfl) T.n_len PySem.boot_len (pa_cons (pv 0) pa_nil)) pa_nil)) (pg_name (i := 2) sc_Lahead.nd rfl (Or.inl rfl))
        (pss_one (ps_if (pt_cmpR op_ne (pe_ix ix_list (pv 0) (pv 2) (fun _ _ => rfl)) (pe_ix ix_list (pv 1) (pv 2) (fun _ _ => rfl)) (nomark _)) (pss_one (ps_ret (pe_cmpR op_lt (pe_ix ix_list (pv 0) (pv 2) (fun _ _ => rfl)) (pe_ix ix_list (pv 1) (pv 2) (fun _ _ => rfl)) (nomark _)))) pss_nil)))
      (pss_one (ps_ret pe_bl))), ?_⟩
    refine ⟨_, rfl, a, _, rfl, .inl ha, _, rfl, by rw [List.length_map]; omega, by rw [List.length_map]; omega, for_range (lo := 0) (n := (((n.map V.int).length : Nat) : Int).toNat) (fun i σ H' => H' = H ∧ (∃ v : Option V, σ = [some (.ref a), some (.ref b), v]) ∧ HT.lexLt (n.drop i) (m.drop i) = HT.lexLt n m) ⟨rfl, ⟨none, rfl⟩, rfl⟩ ?_ ?_⟩
    · rintro i σ H' hi ⟨rfl, ⟨v, rfl⟩, e⟩
      have i1 : i < n.length := by simpa using hi
      have i2 : i < m.length := by omega
      have ex0 : (n.map V.int)[i]? = some (V.int n[i]) := by rw [List.getElem?_map, List.getElem?_eq_getElem i1] <;> rfl
      have ey0 : (m.map V.int)[i]? = some (V.int m[i]) := by rw [List.getElem?_map, List.getElem?_eq_getElem i2] <;> rfl
      have ex := atI_nat ex0
      have ey := atI_nat ey0
      rw [show ((i : Nat) : Int) = 0 + ((i : Nat) : Int) by omega] at ex ey
      rw [List.drop_eq_getElem_cons i1, List.drop_eq_getElem_cons i2, HT.lexLt_cons] at e
      refine ⟨_, rfl, _, rfl, a, _, _, _, rfl, rfl, ha, ex, _, rfl, _, rfl, b, _, _, _, rfl, rfl, hb, ey, rfl, _, rfl, ?_⟩
      refine ite2 (fun hc => ?_) (fun hc => ?_)
      · have hne : ¬ n[i] = m[i] := fun z => by rw [z] at hc; simp at hc
        rw [if_neg hne] at e
        refine ⟨_, rfl, _, rfl, a, _, _, _, rfl, rfl, ha, ex, _, rfl, _, rfl, b, _, _, _, rfl, rfl, hb, ey, _, _, rfl, rfl, ?_⟩
        rw [← e] at q
        exact q
      · have he : n[i] = m[i] := by
          simp at hc
          exact hc
        rw [if_pos he] at e
        exact ⟨rfl, ⟨_, rfl⟩, e⟩
    · rintro σ H' ⟨rfl, ⟨v, rfl⟩, e⟩
      rw [show (((n.map V.int).length : Nat) : Int).toNat = n.length by simp] at e
      rw [List.drop_length, hl, List.drop_length, HT.lexLt_nil_nil] at e
      rw [← e] at q
      exact q
theorem ok_Lshorter {f : Addr} {fd : FuncData} (F : Fun K "_law_shorter" "_law_shorter" s_Lshorter f fd) (T : Txt P w K mg C_Row A_LETTERS) (c_Lahead : Cal CX0 P w K mg base 1 "_law_ahead" (sp_Lahead K)) :
    FnOk P w K mg base CX0 2 f fd ["_law_one", "_law_two"] (sp_Lshorter K) := by
  refine F.ok sc_Lshorter (fun vs H Q E h => ?_) (fun cdv A outer s H vs Q E hr h => ?_)
  · obtain ⟨a, b, n, m, rfl, _⟩ := h
    rfl
  · obtain ⟨a, b, n, m, rfl, ha, hb, hz, q⟩ := h
    refine ⟨_, (pss_cons (ps_if (pt_cmpR op_ne (pe_callB call_len_seq (by rfl) T.n_len PySem.boot_len (pa_cons (pv 0) pa_nil)) (pe_callB call_len_seq (by rfl) T.n_len PySem.boot_len (pa_cons (pv 1) pa_nil)) (nomark _)) (pss_one (ps_ret (pe_cmpR op_lt (pe_callB call_len_seq (by rfl) T.n_len PySem.boot_len (pa_cons (pv 0) pa_nil)) (pe_callB call_len_seq (by rfl) T.n_len PySem.boot_len (pa_cons (pv 1) pa_nil)) (nomark _)))) pss_nil)
      (pss_one (ps_ret (pc_c c_Lahead hr (by decide) rfl pass0 (pa_cons (pv 0) (pa_cons (pv 1) pa_nil)))))), ?_⟩
    refine ⟨_, rfl, a, _, rfl, .inl ha, _, rfl, b, _, rfl, .inl hb, rfl, _, rfl, ?_⟩
    rw [List.length_map, List.length_map]
    unfold ltP at q
    by_cases e : n.length = m.length
    · rw [if_pos (by omega)] at q
      refine iteNe (by rw [e]) ?_
      exact ⟨_, rfl, _, rfl, a, b, n, m, rfl, ha, hb, e, hz, q⟩
    · rw [if_neg (by omega)] at q
      rw [decide_eq_false (show ¬ V.int ((n.length : Nat) : Int) = V.int ((m.length : Nat) : Int) from fun z => e (by have := V.int.inj z; omega))]
      refine iteT ⟨_, rfl, a, _, rfl, .inl ha, _, rfl, b, _, rfl, .inl hb, _, _, rfl, rfl, ?_⟩
      rw [List.length_map, List.length_map]
      exact q
theorem ok_Lletters_are {f : Addr} {fd : FuncData} (F : Fun K "_law_letters_are" "_law_letters_are" s_Lletters_are f fd) (T : Txt P w K mg C_Row A_LETTERS)  :
    FnOk P w K mg base CX0 1 f fd ["_law_told", "_law_letters_here"] (sp_Lare K) := by
  refine F.ok sc_Lletters_are (fun vs H Q E h => ?_) (fun cdv A outer s H vs Q E hr h => ?_)
  · obtain ⟨a, b, ns, rfl, _⟩ := h
    rfl
  · obtain ⟨a, b, ns, rfl, ha, hb, hz, q⟩ := h
    refine ⟨_, (pss_cons (ps_setLc (i := 2) (own := [("_law_letter", 3)]) (g := (gName 3)) rfl sc_Lletters_are.nd rfl rfl (sw_true rfl rfl rfl (by decide +kernel)) (pi_list (pv 0)) (blkOk_by (own := [("_law_letter", 3)]) (N := ["_law_told", "_law_letters_here", "_law_odd", "_law_letter"]) (sc := defScope s_Lletters_are) (by decide +kernel)) (fun _ _ _ _ _ => (pg_name (i := 3) sc_Lletters_are.nd rfl (Or.inl rfl))) (fun _ _ _ _ _ => (pts_one (PW.pt (pw_or (pt_not (pt_val (pe_callB (call_isiK (K := K) rfl) (by rfl) T.n_isinstance (by decide +kernel) (pa_cons (pv 3) (pa_cons (pe_bltn (v := .ty "int") (by rfl) T.n_int (by decide +kernel) rfl) pa_nil))))) (pw_or1 (pt_val (pe_callB (call_isiK (K := K) rfl) (by rfl) T.n_isinstance (by decide +kernel) (pa_cons (pv 3) (pa_cons (pe_bltn (v := .ty "bool") (by rfl) T.n_bool (by decide +kernel) rfl) pa_nil))))))))) (fun _ _ _ _ _ => (pv 3)))
      (pss_one (ps_ret (pe_and (pe_cmpR op_eq (pe_callB call_len_seq (by rfl) T.n_len PySem.boot_len (pa_cons (pv 2) pa_nil)) pe_int (nomark _)) (pe_one (pe_cmpR (op_eqLI (Room.units hr)) (pv 0) (pv 1) (nomark _))))))), ?_⟩
    refine ⟨_, rfl, a, rfl, ⟨_, ha⟩, fun D hD => lc_list (K := K) (a := a) (xs := ns.map V.int) (fun i H' => Same H H' ∧ H' D = some (.lst []))
      ⟨same_upd hD, upd_same⟩ (fun i H' _ ⟨s1, _⟩ => Same.seq s1 ha) ?_ ?_⟩
    · rintro i y H' hy ⟨s1, hD1⟩
      obtain ⟨z, hz1, rfl⟩ := int_at hy
      refine ⟨rfl, _, rfl, _, _, _, .type "int", true, rfl, .ty "int", .base (.int z), kit_ty (by decide +kernel), true, rfl, iteF ?_⟩
      exact ⟨_, rfl, _, _, _, .type "bool", false, rfl, .ty "bool", .base (.int z), kit_ty (by decide +kernel), false, rfl, iteF ⟨s1, hD1⟩⟩
    · rintro H1 ⟨s1, hD1⟩
      refine ⟨_, rfl, D, _, rfl, .inl (SqL.of hD1), rfl, true, rfl, iteT ?_⟩
      refine ⟨_, rfl, _, rfl, a, b, ns, ns, rfl, rfl, Same.seq s1 ha, Same.seq s1 hb, ?_⟩
      rw [decide_eq_true rfl]
      exact q _ s1
theorem ixN_int {n : Nat} {r : Int} (h0 : 0 ≤ r) (h1 : r < (n : Int)) : ixN n r = some r.toNat := by
  have e := ixN_nat (n := n) (k := r.toNat) (by omega)
  rw [Int.toNat_of_nonneg h0] at e
  exact e
theorem small300 {r : Int} (h0 : 0 ≤ r) (h1 : r < 100000) : r.natAbs < 2 ^ 300 := Nat.lt_of_lt_of_le (by omega : r.natAbs < 2 ^ 20) (by decide)
theorem lok_ins {ns : List Int} {y : Int} {i : Nat} (h : Lok ns) (hl : ns.length < 2000) (y0 : 0 ≤ y) (y1 : y < 5) : Lok (ns.take i ++ [y] ++ ns.drop i) := by
  refine ⟨?_, fun n hn => ?_⟩
  · rw [List.length_append, List.length_append, List.length_take, List.length_drop, List.length_singleton]
    omega
  · rw [List.mem_append, List.mem_append] at hn
    rcases hn with (hn | hn) | hn
    · exact h.2 n (List.mem_of_mem_take hn)
    · rw [List.mem_singleton] at hn
      omega
    · exact h.2 n (List.mem_of_mem_drop hn)
theorem lok_set {ns : List Int} {y : Int} {i : Nat} (h : Lok ns) (y0 : 0 ≤ y) (y1 : y < 5) : Lok (ns.set i y) := by
  refine ⟨by rw [List.length_set]; exact h.1, fun n hn => ?_⟩
  rcases List.mem_or_eq_of_mem_set hn with hn | hn
  · exact h.2 n hn
  · omega
theorem pool_upd {H : Hp} {t p : Addr} {o : HO} (h : PoolAt H p) (n : t ≠ p) : PoolAt (upd H t o) p := by
  obtain ⟨x, y, z, e⟩ := h
  exact ⟨x, y, z, by rw [upd_ne n.symm]; exact e⟩
def LstV (K : PySem.W.Frag) (H : Hp) (x : V) (ns : List Int) : Prop := ∃ l : Addr, x = .ref l ∧ SqL K H l (ns.map V.int)
def RowV (K : PySem.W.Frag) (C : Addr) (H : Hp) (x : V) (ns : List Int) : Prop := ∃ r : Addr, x = .ref r ∧ RowAt K C H r ns
theorem LstV.same {K : PySem.W.Frag} {H H' : Hp} {x : V} {ns : List Int} (h : LstV K H x ns) (e : Same H H') : LstV K H' x ns := by
  obtain ⟨p, ex, hp⟩ := h
  exact ⟨p, ex, Same.seq e hp⟩
theorem RowV.same {K : PySem.W.Frag} {C : Addr} {H H' : Hp} {x : V} {ns : List Int} (h : RowV K C H x ns) (e : Same H H') : RowV K C H' x ns := by
  obtain ⟨p, ex, hp⟩ := h
  exact ⟨p, ex, hp.same e⟩
theorem at_al {α : Type} {R : V → α → Prop} {xs : List V} {ys : List α} {i : Nat} {y : α} (h : Al R xs ys) (hy : ys[i]? = some y) : ∃ x, atI xs (0 + ((i : Nat) : Int)) = some x ∧ R x y := by
  obtain ⟨x, hx, r⟩ := h.at' hy
  refine ⟨x, ?_, r⟩
  rw [Int.zero_add]
  exact atI_nat hx
theorem ok_Lletters {f : Addr} {fd : FuncData} (F : Fun K "_law_letters" "_law_letters" s_Lletters f fd) (T : Txt P w K mg C_Row A_LETTERS) (c_Ltake : Cal CX0 P w K mg base 1 "_law_take" sp_Ltake) :
    FnOk P w K mg base CX0 2 f fd ["_law_pool_here", "_law_size"] sp_Lletters := by
  refine F.ok sc_Lletters (fun vs H Q E h => ?_) (fun cdv A outer s H vs Q E hr h => ?_)
  · obtain ⟨p, n, rfl, _⟩ := h
    rfl
  · obtain ⟨p, n, rfl, hn, hp, q⟩ := h
    refine ⟨_, (C8.pss_cut (ps_if (PW.pt (pw_and (pt_cmpR op_gt (pv 1) pe_int (nomark _)) (pw_and1 (pt_cmpR op_eq (pe_ix ix_list (pv 0) pe_int (fun _ _ => rfl)) pe_int (nomark _))))) (pss_cons (ps_set (i := 2) sc_Lletters.nd rfl (Or.inr rfl) (pc_c c_Ltake hr (by decide) rfl pass0 (pa_cons (pv 0) (pa_cons pe_int pa_nil))))
      (pss_cons (ps_set (i := 3) sc_Lletters.nd rfl (Or.inr rfl) (pc_c c_Ltake hr (by decide) rfl pass0 (pa_cons (pv 0) (pa_cons pe_int pa_nil))))
      (pss_one (ps_ret (pe_lc (own := [("_law_k", 4)]) (g := (gName 4)) (tt := tYes) rfl sc_Lletters.nd (pi_range1 (by rfl) T.n_range (pa_cons (pv 1) pa_nil)) (blkOk_by (own := [("_law_k", 4)]) (N := ["_law_pool_here", "_law_size", "_law_step", "_law_shift", "_law_k"]) (sc := defScope s_Lletters) (by decide +kernel)) (fun _ _ _ _ _ => (pg_name (i := 4) sc_Lletters.nd rfl (Or.inl rfl))) (fun _ _ _ _ _ => pts_nil) (fun _ _ _ _ _ => (pe_op op_mod (pe_callTy call_int1 (by rfl) T.n_int (by decide +kernel) (pa_cons (pe_op op_add (pe_op op_mulA (pv 4) (pv 2)) (pv 3)) pa_nil)) pe_int))))))) pss_nil)
      (pss_one (ps_ret (pe_lc (own := [("_law_k", 4)]) (g := (gName 4)) (tt := tYes) rfl sc_Lletters.nd (pi_range1 (by rfl) T.n_range (pa_cons (pv 1) pa_nil)) (blkOk_by (own := [("_law_k", 4)]) (N := ["_law_pool_here", "_law_size", "_law_step", "_law_shift", "_law_k"]) (sc := defScope s_Lletters) (by decide +kernel)) (fun _ _ _ _ _ => (pg_name (i := 4) sc_Lletters.nd rfl (Or.inl rfl))) (fun _ _ _ _ _ => pts_nil) (fun _ _ _ _ _ => (pc_c c_Ltake hr (by decide) rfl pass0 (pa_cons (pv 0) (pa_cons pe_int pa_nil)))))))), ?_⟩
    refine ⟨fun σ' H' => σ' = [some (.ref p), some (.int (n : Nat)), none, none, none] ∧ H' = H, ?_, ?_⟩
    · refine ⟨_, rfl, _, _, rfl, rfl, _, rfl, ite2 (fun _ => ?_) (fun _ => ⟨rfl, rfl⟩)⟩
      obtain ⟨x, y, z, hp0⟩ := id hp
      refine ⟨_, rfl, p, _, _, _, rfl, rfl, SqL.of hp0, at0, rfl, _, rfl, ite2 (fun _ => ?_) (fun _ => ⟨rfl, rfl⟩)⟩
      refine ⟨_, rfl, p, 5, rfl, hp, by decide, by decide, fun H1 st k1 p1 st0 st1 => ?_⟩
      refine ⟨_, rfl, p, 5, rfl, p1, by decide, by decide, fun H2 sh k2 p2 sh0 sh1 => ?_⟩
      have k12 := k1.trans k2
      refine ⟨_, rfl, _, rfl, by omega, by omega, fun D hD => lc_range (lo := 0) (n := (((n : Nat) : Int)).toNat) (fun i H' => ∃ ts : List Int, ts.length = i ∧ (∀ n ∈ ts, 0 ≤ n ∧ n ≤ 4) ∧ Same H2 H' ∧ H' D = some (.lst (ts.map V.int)))
        ⟨[], rfl, (fun _ z => by cases z), same_upd hD, upd_same⟩ ?_ ?_⟩
      · rintro i H' hi ⟨ts, e1, e2, s3, hD1⟩
        refine ⟨rfl, tyes ?_⟩
        refine ⟨_, rfl, _, rfl, _, _, rfl, rfl, .inl (.inl ⟨by omega, by omega⟩), _, rfl, _, _, rfl, rfl, .inl ⟨_, rfl, _, _, rfl, rfl, (by show (0 : Int) < 5; decide), ?_⟩⟩
        have m0 := Int.emod_nonneg ((0 + (i : Int)) * st + sh) (show (5 : Int) ≠ 0 by decide)
        have m1 := Int.emod_lt_of_pos ((0 + (i : Int)) * st + sh) (show (0 : Int) < 5 by decide)
        refine ⟨_, hD1, big_small (by rw [List.length_map]; omega), ts ++ [((0 + (i : Int)) * st + sh) % 5], ?_, fun n hn => ?_, same_app s3 hD, ?_⟩
        · rw [List.length_append, e1]
          rfl
        · rw [List.mem_append, List.mem_singleton] at hn
          rcases hn with hn | rfl
          · exact e2 n hn
          · omega
        · rw [upd_same, List.map_append]
          rfl
      · rintro H' ⟨ts, e1, e2, s3, hD1⟩
        exact q H' D ts (fun b o nb e => s3 _ _ (k12 _ _ nb e)) (p2.same s3) (none_kp k12 (pool_ne p2 hD) hD) hD1 ⟨by omega, e2⟩
    · rintro σ' H' ⟨rfl, rfl⟩
      refine ⟨_, rfl, _, rfl, by omega, by omega, fun D hD => lc_range (lo := 0) (n := (((n : Nat) : Int)).toNat) (fun i H2 => ∃ ts : List Int, ts.length = i ∧ (∀ n ∈ ts, 0 ≤ n ∧ n ≤ 4) ∧ Kp p H' H2 ∧ PoolAt H2 p ∧ H2 D = some (.lst (ts.map V.int)))
        ⟨[], rfl, (fun _ z => by cases z), Kp.of (same_upd hD), hp.same (same_upd hD), upd_same⟩ ?_ ?_⟩
      · rintro i H2 hi ⟨ts, e1, e2, k3, p3, hD1⟩
        refine ⟨rfl, tyes ?_⟩
        refine ⟨_, rfl, p, 5, rfl, p3, by decide, by decide, fun H3 r k4 p4 r0 r1 => ?_⟩
        have nD := pool_ne hp hD
        refine ⟨_, k4 _ _ nD hD1, big_small (by rw [List.length_map]; omega), ts ++ [r], ?_, fun n hn => ?_, kp_app (k3.trans k4) hD, pool_upd p4 nD, ?_⟩
        · rw [List.length_append, e1]
          rfl
        · rw [List.mem_append, List.mem_singleton] at hn
          rcases hn with hn | rfl
          · exact e2 n hn
          · omega
        · rw [upd_same, List.map_append]
          rfl
      · rintro H2 ⟨ts, e1, e2, k3, p3, hD1⟩
        exact q H2 D ts k3 p3 hD hD1 ⟨by omega, e2⟩
theorem ok_Lnear {f : Addr} {fd : FuncData} (F : Fun K "_law_near" "_law_near" s_Lnear f fd) (T : Txt P w K mg C_Row A_LETTERS) (c_Lletters : Cal CX0 P w K mg base 2 "_law_letters" sp_Lletters) (c_Ltake : Cal CX0 P w K mg base 1 "_law_take" sp_Ltake) :
    FnOk P w K mg base CX0 3 f fd ["_law_pool_here", "_law_letters_here", "_law_relation", "_law_most"] (sp_Lnear K) := by
  refine F.ok sc_Lnear (fun vs H Q E h => ?_) (fun cdv A outer s H vs Q E hr h => ?_)
  · obtain ⟨p, l, rel, mo, ns, rfl, _⟩ := h
    rfl
  · obtain ⟨p, l, rel, mo, ns, rfl, hp, nlp, hl0, hok, m0, m1, hl, q⟩ := h
    refine ⟨_, (pss_cons (ps_if (pt_cmpR op_eq (pv 2) pe_int (nomark _)) (pss_one (ps_ret (pc_c c_Lletters hr (by decide) rfl pass0 (pa_cons (pv 0) (pa_cons (pc_c c_Ltake hr (by decide) rfl pass0 (pa_cons (pv 0) (pa_cons (pv 3) pa_nil))) pa_nil))))) pss_nil)
      (pss_cons (ps_set (i := 4) sc_Lnear.nd rfl (Or.inl rfl) (pe_callTy call_list_of (by rfl) T.n_list (by decide +kernel) (pa_cons (pv 1) pa_nil)))
      (C8.pss_cut (ps_if (PW.pt (pw_and (pt_cmpR op_eq (pv 2) pe_int (nomark _)) (pw_and1 (pt_cmpR op_lt (pe_callB call_len_seq (by rfl) T.n_len PySem.boot_len (pa_cons (pv 4) pa_nil)) pe_int (nomark _))))) (pss_cons (ps_set (i := 5) sc_Lnear.nd rfl (Or.inl rfl) (pc_c c_Ltake hr (by decide) rfl pass0 (pa_cons (pv 0) (pa_cons (pe_op op_add (pe_callB call_len_seq (by rfl) T.n_len PySem.boot_len (pa_cons (pv 4) pa_nil)) pe_int) pa_nil))))
      (pss_one (ps_expr (pe_bm PySem.F.plainAttrs_list PySem.F.slot_list_insert PySem.F.type_list_insert mt_insert (pv 4) (pa_cons (pv 5) (pa_cons (pc_c c_Ltake hr (by decide) rfl pass0 (pa_cons (pv 0) (pa_cons pe_int pa_nil))) pa_nil)))))) (pss_one (ps_if (pt_cmpR op_gt (pe_callB call_len_seq (by rfl) T.n_len PySem.boot_len (pa_cons (pv 4) pa_nil)) pe_int (nomark _)) (pss_cons (ps_set (i := 5) sc_Lnear.nd rfl (Or.inl rfl) (pc_c c_Ltake hr (by decide) rfl pass0 (pa_cons (pv 0) (pa_cons (pe_callB call_len_seq (by rfl) T.n_len PySem.boot_len (pa_cons (pv 4) pa_nil)) pa_nil))))
      (pss_one (ps_asg (pc_c c_Ltake hr (by decide) rfl pass0 (pa_cons (pv 0) (pa_cons pe_int pa_nil))) (pg_sub (pv 4) (pv 5) set_list)))) pss_nil)))
      (pss_one (ps_ret (pv 4)))))), ?_⟩
    refine ⟨_, rfl, rfl, _, rfl, ite2 (fun _ => ?_) (fun _ => ?_)⟩
    · refine ⟨_, rfl, _, rfl, _, rfl, p, _, rfl, hp, by omega, small300 (by omega) (by omega), fun H1 r k1 p1 r0 r1 => ?_⟩
      refine ⟨p, r.toNat, by rw [Int.toNat_of_nonneg r0] <;> rfl, by omega, p1, fun H2 t ts k2 p2 nt ht ok => ?_⟩
      exact q _ t ts (k1.trans k2) (none_kp k1 (pool_ne p1 nt) nt) ht ok
    · refine ⟨_, rfl, l, _, rfl, .inl hl0, fun D hD => ?_⟩
      have nD := pool_ne hp hD
      have s1 := same_upd (o := .lst (ns.map V.int)) hD
      have hp1 := hp.same s1
      have hD1 : upd H D (.lst (ns.map V.int)) D = some (.lst (ns.map V.int)) := upd_same
      generalize upd H D (.lst (ns.map V.int)) = H1 at s1 hp1 hD1 ⊢
      refine ⟨fun σ' H' => ∃ (v5 : Option V) (ts : List Int), σ' = [some (.ref p), some (.ref l), some (.int rel), some (.int (mo : Nat)), some (.ref D), v5] ∧ Kp p H H' ∧ H' D = some (.lst (ts.map V.int)) ∧ Lok ts, ?_, ?_⟩
      · refine ⟨_, rfl, rfl, _, rfl, ite2 (fun _ => ⟨_, rfl, D, _, rfl, .inl (SqL.of hD1), _, _, rfl, rfl, _, rfl, ite2 (fun hlt => ?ins) (fun _ => ?_)⟩) (fun _ => ?_)⟩
        case ins =>
          have hlt := of_decide_eq_true hlt
          rw [List.length_map] at hlt
          refine ⟨_, rfl, _, rfl, D, _, rfl, .inl (SqL.of hD1), _, _, rfl, rfl, p, _, rfl, hp1, by omega, small300 (by omega) (by rw [List.length_map]; omega), fun H2 r k2 p2 r0 r1 => ?_⟩
          have hD2 := k2 _ _ nD hD1
          refine ⟨_, rfl, .inl ⟨rfl, _, SqL.of hD2⟩, _, rfl, _, rfl, p, 5, rfl, p2, by decide, by decide, fun H3 y k3 p3 y0 y1 => ?_⟩
          have hD3 := k3 _ _ nD hD2
          rw [List.length_map] at r1
          refine ⟨D, _, _, _, rfl, rfl, hD3, big_small (by rw [List.length_map]; omega), r0, by omega, ?_⟩
          refine ⟨_, ns.take r.toNat ++ [y] ++ ns.drop r.toNat, rfl, kp_app ((Kp.of s1).trans (k2.trans k3)) hD, ?_, lok_ins hok (by omega) y0 y1⟩
          rw [upd_same, List.map_append, List.map_append, List.map_take, List.map_drop]
          rfl
        all_goals
          refine ⟨_, rfl, D, _, rfl, .inl (SqL.of hD1), _, _, rfl, rfl, _, rfl, ite2 (fun hlt => ?_) (fun _ => ⟨_, ns, rfl, Kp.of s1, hD1, hok⟩)⟩
          have hlt := of_decide_eq_true hlt
          refine ⟨_, rfl, _, rfl, D, _, rfl, .inl (SqL.of hD1), p, _, rfl, hp1, hlt, small300 (by omega) (by rw [List.length_map]; have := hok.1; omega), fun H2 r k2 p2 r0 r1 => ?_⟩
          have hD2 := k2 _ _ nD hD1
          refine ⟨_, rfl, p, 5, rfl, p2, by decide, by decide, fun H3 y k3 p3 y0 y1 => ?_⟩
          have hD3 := k3 _ _ nD hD2
          refine ⟨_, rfl, _, rfl, D, _, _, _, rfl, rfl, hD3, ixN_int r0 r1, ?_⟩
          refine ⟨_, ns.set r.toNat y, rfl, kp_app ((Kp.of s1).trans (k2.trans k3)) hD, ?_, lok_set hok y0 y1⟩
          rw [upd_same, List.map_set]
      · rintro σ' H' ⟨v5, ts, rfl, k, hD', ok⟩
        exact ⟨_, rfl, q _ D ts k hD hD' ok⟩
theorem ok_law {f : Addr} {fd : FuncData} (F : Fun K "law" "law" s_law f fd) (T : Txt P w K mg C_Row A_LETTERS) (c_Lpool : Cal CX0 P w K mg base 1 "_law_pool" sp_Lpool) (c_Lcell : Cal CX0 P w K mg base 1 "_law_cell" (sp_Lcell K)) (c_Lletters : Cal CX0 P w K mg base 2 "_law_letters" sp_Lletters) (c_Ltake : Cal CX0 P w K mg base 1 "_law_take" sp_Ltake) (c_Lnear : Cal CX0 P w K mg base 3 "_law_near" (sp_Lnear K)) (c_Row : Mak CX0 P w K mg base 1 "Row" C_Row (sp_Row_init0 K C_Row)) (c_Lsame : Cal CX0 P w K mg base 2 "_law_same" (sp_Lsame K 1)) (c_Row_lt : Met CX0 P w K mg base 1 C_Row "__lt__" (sp_Row_lt K C_Row)) (c_Lshorter : Cal CX0 P w K mg base 2 "_law_shorter" (sp_Lshorter K)) (c_Row_eq : Met CX0 P w K mg base 1 C_Row "__eq__" (sp_Row_eq K C_Row)) (c_Lletters_are : Cal CX0 P w K mg base 1 "_law_letters_are" (sp_Lare K)) (c_Row_iter : Met CX0 P w K mg base 1 C_Row "__iter__" (sp_Row_iter K C_Row)) (c_Row_len : Met CX0 P w K mg base 1 C_Row "__len__" (sp_Row_len K C_Row)) :
    FnOk P w K mg base CX0 7 f fd ["_law_script"] (sp_law K) := by
  refine F.ok sc_law (fun vs H Q E h => ?_) (fun cdv A outer s H vs Q E hr h => ?_)
  · obtain ⟨a, ns, rfl, _⟩ := h
    rfl
  · obtain ⟨a, cs, rfl, ha, hz, q⟩ := h
    refine ⟨_, (pss_cons (ps_set (i := 1) sc_law.nd rfl (Or.inl rfl) (pc_c c_Lpool hr (by decide) rfl pass0 (pa_cons (pc_c c_Lcell hr (by decide) rfl pass0 (pa_cons (pv 0) (pa_cons pe_int pa_nil))) pa_nil)))
      (pss_cons (ps_set (i := 2) sc_law.nd rfl (Or.inl rfl) (pe_op op_mod (pe_callTy call_int1 (by rfl) T.n_int (by decide +kernel) (pa_cons (pc_c c_Lcell hr (by decide) rfl pass0 (pa_cons (pv 0) (pa_cons pe_int pa_nil))) pa_nil)) pe_int))
      (pss_cons (ps_set (i := 3) sc_law.nd rfl (Or.inl rfl) pe_int)
      (C8.pss_cut (ps_if (pt_cmpR op_eq (pe_op op_mod (pe_callTy call_int1 (by rfl) T.n_int (by decide +kernel) (pa_cons (pc_c c_Lcell hr (by decide) rfl pass0 (pa_cons (pv 0) (pa_cons pe_int pa_nil))) pa_nil)) pe_int) pe_int (nomark _)) (pss_one (ps_set (i := 3) sc_law.nd rfl (Or.inl rfl) pe_int)) pss_nil)
      (pss_cons (ps_set (i := 4) sc_law.nd rfl (Or.inl rfl) (pc_c c_Lletters hr (by decide) rfl pass0 (pa_cons (pv 1) (pa_cons (pc_c c_Ltake hr (by decide) rfl pass0 (pa_cons (pv 1) (pa_cons (pv 3) pa_nil))) pa_nil))))
      (pss_cons (ps_set (i := 5) sc_law.nd rfl (Or.inl rfl) (pc_c c_Lnear hr (by decide) rfl pass0 (pa_cons (pc_c c_Lpool hr (by decide) rfl pass0 (pa_cons (pc_c c_Lcell hr (by decide) rfl pass0 (pa_cons (pv 0) (pa_cons pe_int pa_nil))) pa_nil)) (pa_cons (pv 4) (pa_cons (pe_op op_mod (pe_callTy call_int1 (by rfl) T.n_int (by decide +kernel) (pa_cons (pv 2) pa_nil)) pe_int) (pa_cons (pv 3) pa_nil))))))
      (pss_cons (ps_set (i := 6) sc_law.nd rfl (Or.inl rfl) (pc_c c_Lnear hr (by decide) rfl pass0 (pa_cons (pc_c c_Lpool hr (by decide) rfl pass0 (pa_cons (pc_c c_Lcell hr (by decide) rfl pass0 (pa_cons (pv 0) (pa_cons pe_int pa_nil))) pa_nil)) (pa_cons (pv 5) (pa_cons (pe_op op_fdivW (pv 2) pe_int) (pa_cons (pv 3) pa_nil))))))
      (pss_cons (ps_set (i := 7) sc_law.nd rfl (Or.inl rfl) (pe_lst (pa_cons (pv 4) (pa_cons (pv 5) (pa_cons (pv 6) (pa_cons (pe_callTy call_list_of (by rfl) T.n_list (by decide +kernel) (pa_cons (pv 4) pa_nil)) pa_nil))))))
      (pss_cons (ps_setLc (i := 8) (own := [("_law_row", 11)]) (g := (gName 11)) (tt := tYes) rfl sc_law.nd rfl rfl (sw_true rfl rfl rfl (by decide +kernel)) (pi_list (pv 7)) (blkOk_by (own := [("_law_row", 11)]) (N := ["_law_script", "_law_pool_here", "_law_relation", "_law_most", "_law_letters_here", "_law_others", "_law_thirds", "_law_rows", "_law_made", "_law_x", "_law_y", "_law_row"]) (sc := defScope s_law) (by decide +kernel)) (fun _ _ _ _ _ => (pg_name (i := 11) sc_law.nd rfl (Or.inl rfl))) (fun _ _ _ _ _ => pts_nil) (fun _ _ _ _ _ => (pc_mk c_Row hr (by decide) rfl pass0 (pa_cons (pe_callTy (call_list_ofK (K := K) rfl) (by rfl) T.n_list (by decide +kernel) (pa_cons (pv 11) pa_nil)) pa_nil))))
      (pss_cons (ps_for PassesOwn.never rfl (pi_range1 (by rfl) T.n_range (pa_cons pe_int pa_nil)) (pg_name (i := 9) sc_law.nd rfl (Or.inl rfl))
        (pss_one (ps_for PassesOwn.never rfl (pi_range1 (by rfl) T.n_range (pa_cons pe_int pa_nil)) (pg_name (i := 10) sc_law.nd rfl (Or.inl rfl))
        (pss_one (ps_if (PW.pt (pw_or (pt_cmpR op_ne (pv 9) (pv 10) (nomark _)) (pw_or1 (pt_cmpR op_le (pe_callB call_len_seq (by rfl) T.n_len PySem.boot_len (pa_cons (pe_ix ix_list (pv 7) (pv 9) (fun _ _ => rfl)) pa_nil)) pe_int (nomark _))))) (pss_cons (ps_if (pt_not (pt_val (pc_c c_Lsame hr (by decide) rfl pass0 (pa_cons (pe_cmpR (op_cmpO c_Row_lt hr (by decide) pass0) (pe_ix ix_list (pv 8) (pv 9) (fun _ _ => rfl)) (pe_ix ix_list (pv 8) (pv 10) (fun _ _ => rfl)) (nomark _)) (pa_cons (pc_c c_Lshorter hr (by decide) rfl pass0 (pa_cons (pe_ix ix_list (pv 7) (pv 9) (fun _ _ => rfl)) (pa_cons (pe_ix ix_list (pv 7) (pv 10) (fun _ _ => rfl)) pa_nil))) pa_nil))))) (pss_one (ps_ret pe_bl)) pss_nil)
      (pss_one (ps_if (pt_not (pt_val (pc_c c_Lsame hr (by decide) rfl pass0 (pa_cons (pe_cmpR (op_cmpO c_Row_eq hr (by decide) pass0) (pe_ix ix_list (pv 8) (pv 9) (fun _ _ => rfl)) (pe_ix ix_list (pv 8) (pv 10) (fun _ _ => rfl)) (nomark _)) (pa_cons (pe_cmpR (op_eqLI (Room.units hr)) (pe_ix ix_list (pv 7) (pv 9) (fun _ _ => rfl)) (pe_ix ix_list (pv 7) (pv 10) (fun _ _ => rfl)) (nomark _)) pa_nil))))) (pss_one (ps_ret pe_bl)) pss_nil))) pss_nil)))))
      (pss_cons (ps_for PassesOwn.never rfl (pi_range1 (by rfl) T.n_range (pa_cons pe_int pa_nil)) (pg_name (i := 9) sc_law.nd rfl (Or.inl rfl))
        (pss_one (ps_if (pt_not (pt_val (pc_c c_Lletters_are hr (by decide) rfl pass0 (pa_cons (pe_callTy (call_listO rfl c_Row_iter c_Row_len hr (by decide) (by decide)) (by rfl) T.n_list (by decide +kernel) (pa_cons (pe_ix ix_list (pv 8) (pv 9) (fun _ _ => rfl)) pa_nil)) (pa_cons (pe_ix ix_list (pv 7) (pv 9) (fun _ _ => rfl)) pa_nil))))) (pss_one (ps_ret pe_bl)) pss_nil)))
      (pss_one (ps_ret pe_bl))))))))))))), ?_⟩
    refine ⟨_, rfl, a, cs, 0, rfl, ha, fun c c0 => ⟨c, rfl, fun p H1 np s1 hp => ?_⟩⟩
    have ha1 := Same.seq s1 ha
    refine ⟨_, rfl, a, cs, 3, rfl, ha1, fun c3 c30 => .inl ⟨_, rfl, _, _, rfl, rfl, (by show (0 : Int) < 16; decide), ?_⟩⟩
    refine ⟨fun σ' H' => ∃ mo : Nat, (mo = 9 ∨ mo = 2001) ∧ σ' = [some (.ref a), some (.ref p), some (.int (c3 % 16)), some (.int (mo : Nat)), none, none, none, none, none, none, none, none] ∧ H' = H1, ?_, ?_⟩
    · exact ⟨_, rfl, a, cs, 4, rfl, ha1, fun c4 c40 => .inl ⟨_, rfl, _, _, rfl, rfl, (by show (0 : Int) < 8; decide), rfl, _, rfl, ite2 (fun _ => ⟨2001, .inr rfl, rfl, rfl⟩) (fun _ => ⟨9, .inl rfl, rfl, rfl⟩)⟩⟩
    rintro σ' _ ⟨mo, hmo, rfl, rfl⟩
    refine ⟨_, rfl, _, rfl, _, rfl, p, _, rfl, hp, by omega, small300 (by omega) (by omega), fun H2 r k2 p2 r0 r1 => ?_⟩
    refine ⟨p, r.toNat, by rw [Int.toNat_of_nonneg r0] <;> rfl, by omega, p2, fun H3 l1 n1 k3 p3 nl1 hl1 ok1 => ?_⟩
    have s3 : Same H H3 := Kp.same s1 (k2.trans k3) np
    have ha3 := Same.seq s3 ha
    refine ⟨_, rfl, a, cs, 1, rfl, ha3, fun c1 c10 => ⟨c1, rfl, fun p4 H4 np4 s4 hp4 => ?_⟩⟩
    have hl14 := s4 _ _ hl1
    have n14 : l1 ≠ p4 := fun w => by rw [w, np4] at hl1; cases hl1
    refine ⟨_, rfl, _, rfl, .inl ⟨_, rfl, _, _, rfl, rfl, (by show (0 : Int) < 4; decide), _, rfl, ?_⟩⟩
    refine ⟨p4, l1, _, mo, n1, rfl, hp4, n14, SqL.of hl14, ok1, by omega, by omega, hl14, fun H5 l2 n2 k5 nl2 hl2 ok2 => ?_⟩
    have s35 : Same H3 H5 := Kp.same s4 k5 np4
    have hl15 := s35 _ _ hl1
    have ha5 := Same.seq s35 ha3
    refine ⟨_, rfl, a, cs, 2, rfl, ha5, fun c2 c20 => ⟨c2, rfl, fun p6 H6 np6 s6 hp6 => ?_⟩⟩
    have hl26 := s6 _ _ hl2
    have n26 : l2 ≠ p6 := fun w => by rw [w, np6] at hl2; cases hl2
    refine ⟨_, rfl, _, rfl, _, _, rfl, rfl, wide_div (b := 300) (by decide) (by decide) (by decide) (by decide), _, rfl, ?_⟩
    refine ⟨p6, l2, _, mo, n2, rfl, hp6, n26, SqL.of hl26, ok2, by omega, by omega, hl26, fun H7 l3 n3 k7 nl3 hl3 ok3 => ?_⟩
    have s57 : Same H5 H7 := Kp.same s6 k7 np6
    have hl17 := s57 _ _ hl15
    have hl27 := s57 _ _ hl2
    refine ⟨_, rfl, _, rfl, _, rfl, _, rfl, l1, _, rfl, .inl (SqL.of hl17), fun l4 nl4 => ⟨(by show 4 ≤ sizeLine; decide), fun z nz => ?_⟩⟩
    have s74 := same_upd (o := .lst (n1.map V.int)) nl4
    have l47 : upd H7 l4 (.lst (n1.map V.int)) l4 = some (.lst (n1.map V.int)) := upd_same
    have s8 := same_upd (o := .lst [V.ref l1, V.ref l2, V.ref l3, V.ref l4]) nz
    have hzz : upd (upd H7 l4 (.lst (n1.map V.int))) z (.lst [V.ref l1, V.ref l2, V.ref l3, V.ref l4]) z = some (.lst [V.ref l1, V.ref l2, V.ref l3, V.ref l4]) := upd_same
    generalize upd H7 l4 (.lst (n1.map V.int)) = G0 at s74 l47 s8 hzz nz ⊢
    generalize upd G0 z (.lst [V.ref l1, V.ref l2, V.ref l3, V.ref l4]) = G1 at s8 hzz ⊢
    have s78 := s74.trans s8
    have hrows : Al (LstV K G1) [V.ref l1, V.ref l2, V.ref l3, V.ref l4] [n1, n2, n3, n1] :=
      .cons ⟨l1, rfl, SqL.of (s78 _ _ hl17)⟩ (.cons ⟨l2, rfl, SqL.of (s78 _ _ hl27)⟩ (.cons ⟨l3, rfl, SqL.of (s78 _ _ hl3)⟩ (.cons ⟨l4, rfl, SqL.of (s8 _ _ l47)⟩ .nil)))
    have hNs : ∀ ns ∈ [n1, n2, n3, n1], Lok ns := fun ns h => by
      simp only [List.mem_cons, List.not_mem_nil, or_false] at h
      rcases h with rfl | rfl | rfl | rfl
      · exact ok1
      · exact ok2
      · exact ok3
      · exact ok1
    have hN4 : [n1, n2, n3, n1].length = 4 := rfl
    generalize [n1, n2, n3, n1] = Ns at hrows hNs hN4
    have hy4 : [V.ref l1, V.ref l2, V.ref l3, V.ref l4].length = 4 := rfl
    generalize [V.ref l1, V.ref l2, V.ref l3, V.ref l4] = ys at hrows hy4 hzz ⊢
    refine ⟨_, rfl, z, rfl, ⟨_, SqL.of hzz⟩, fun D hD => lc_list (K := K) (a := z) (xs := ys) (fun i H' => Same G1 H' ∧ ∃ xs, H' D = some (.lst xs) ∧ Al (RowV K C_Row H') xs (Ns.take i))
      ⟨same_upd hD, [], upd_same, .nil⟩ (fun i H' _ ⟨s1, _⟩ => Same.seq s1 (SqL.of hzz)) ?_ ?_⟩
    · rintro i y H' hy ⟨t1, xs, hD1, hxs⟩
      obtain ⟨ns, hns, l, rfl, hl⟩ := hrows.at hy
      have ok := hNs ns (List.mem_of_getElem? hns)
      have hxl : xs.length ≤ 4 := by
        rw [hxs.len, List.length_take]
        omega
      refine ⟨rfl, tyes ?_⟩
      refine ⟨_, rfl, l, _, rfl, .inl (Same.seq t1 hl), fun u nu => fun x dx nx nd nxd => ?_⟩
      have nx0 : H' x = none := none_of (same_upd nu) nx
      have u1 := same_upd (o := .lst (ns.map V.int)) nu
      have u2 := same_upd (o := .own x) nd
      have nx2 : upd (upd H' u (.lst (ns.map V.int))) dx (.own x) x = none := by rw [upd_ne nxd.symm]; exact nx
      have u3 := same_upd (o := .ins C_Row dx []) nx2
      have u123 := (u1.trans u2).trans u3
      refine ⟨x, dx, u, ns, rfl, upd_same, SqL.of (u3 _ _ (u2 _ _ upd_same)), ok, fun H8 k8 hr8 => ⟨rfl, ?_⟩⟩
      have s88 : Same H' H8 := Kp.same u123 k8 nx0
      have hD8 := s88 _ _ hD1
      have t8 := t1.trans s88
      have k9 : Kp D H8 (upd H8 D (.lst (xs ++ [V.ref x]))) := Kp.upd
      refine ⟨_, hD8, big_small (by omega), same_app t8 hD, _, upd_same, ?_⟩
      rw [← take_snoc hns]
      refine Al.snoc (Al.mono (fun v n ⟨r, e, h⟩ => ⟨r, e, (h.same s88).lst k9 hD8⟩) hxs) ⟨x, rfl, hr8.lst k9 hD8⟩
    · rintro G2 ⟨t1, xs, hD1, hxs⟩
      rw [hy4, ← hN4, List.take_length] at hxs
      have hz2 := t1 _ _ hzz
      have hrows2 : Al (LstV K G2) ys Ns := Al.mono (fun _ _ h => h.same t1) hrows
      refine ⟨4, rfl, by decide, by decide, for_range (lo := 0) (n := 4) (fun i σ H' => ∃ v9 v10 : Option V, σ = [some (.ref a), some (.ref p), some (.int (c3 % 16)), some (.int (mo : Nat)), some (.ref l1), some (.ref l2), some (.ref l3), some (.ref z), some (.ref D), v9, v10, none] ∧ Same G2 H')
        ⟨none, none, rfl, Same.of _⟩ ?_ ?_⟩
      · rintro i σ H' hi ⟨v9, v10, rfl, t2⟩
        obtain ⟨nx, hnx⟩ : ∃ n, Ns[i]? = some n := ⟨_, List.getElem?_eq_getElem (by omega)⟩
        refine ⟨4, rfl, by decide, by decide, for_range (lo := 0) (n := 4) (fun j σ H' => ∃ v10 : Option V, σ = [some (.ref a), some (.ref p), some (.int (c3 % 16)), some (.int (mo : Nat)), some (.ref l1), some (.ref l2), some (.ref l3), some (.ref z), some (.ref D), some (.int (0 + ((i : Nat) : Int))), v10, none] ∧ Same G2 H')
          ⟨_, rfl, t2⟩ ?_ ?_⟩
        · rintro j σ G3 hj ⟨w10, rfl, t3⟩
          obtain ⟨ny, hny⟩ : ∃ n, Ns[j]? = some n := ⟨_, List.getElem?_eq_getElem (by omega)⟩
          obtain ⟨vx, atx, lx, rfl, hlx⟩ := at_al hrows2 hnx
          obtain ⟨vy, aty, ly, rfl, hly⟩ := at_al hrows2 hny
          obtain ⟨vr, atr, rx, rfl, hrx⟩ := at_al hxs hnx
          obtain ⟨vs, ats, ry, rfl, hry⟩ := at_al hxs hny
          have hz3 := t3 _ _ hz2
          have hD3 := t3 _ _ hD1
          have hlx3 := Same.seq t3 hlx
          have hly3 := Same.seq t3 hly
          have hrx3 := hrx.same t3
          have hry3 := hry.same t3
          obtain ⟨dx, tp, ex, _⟩ := id hrx3
          obtain ⟨dy, tq, ey, _⟩ := id hry3
          have okx := (hNs nx (List.mem_of_getElem? hnx)).1
          refine ⟨_, rfl, _, rfl, rfl, _, rfl, ite2 (fun _ => ?_) (fun _ => ⟨_, rfl, _, rfl, z, _, _, _, rfl, rfl, SqL.of hz3, atx, lx, _, rfl, .inl hlx3, _, _, rfl, rfl, _, rfl, ite2 (fun _ => ?_) (fun _ => ?skip)⟩)⟩
          case skip => exact ⟨_, rfl, t3⟩
          all_goals
            refine ⟨_, rfl, _, rfl, D, _, _, _, rfl, rfl, SqL.of hD3, atr, _, rfl, _, rfl, D, _, _, _, rfl, rfl, SqL.of hD3, ats, rx, ry, dx, dy, _, _, rfl, rfl, ex, ey, rx, ry, nx, ny, rfl, hrx3, hry3, fun G4 t4 => ?_⟩
            refine ⟨_, rfl, _, rfl, z, _, _, _, rfl, rfl, SqL.of (t4 _ _ hz3), atx, _, rfl, _, rfl, z, _, _, _, rfl, rfl, SqL.of (t4 _ _ hz3), aty, lx, ly, nx, ny, rfl, Same.seq t4 hlx3, Same.seq t4 hly3, by omega, _, _, rfl, SameV.flat rfl, true, rfl, iteF ?_⟩
            have hD4 := t4 _ _ hD3
            refine ⟨_, rfl, _, rfl, D, _, _, _, rfl, rfl, SqL.of hD4, atr, _, rfl, _, rfl, D, _, _, _, rfl, rfl, SqL.of hD4, ats, rx, ry, dx, dy, _, _, rfl, rfl, t4 _ _ ex, t4 _ _ ey, rx, ry, nx, ny, rfl, hrx3.same t4, hry3.same t4, fun G5 t5 => ?_⟩
            have t35 := t4.trans t5
            refine ⟨_, rfl, _, rfl, z, _, _, _, rfl, rfl, SqL.of (t35 _ _ hz3), atx, _, rfl, _, rfl, z, _, _, _, rfl, rfl, SqL.of (t35 _ _ hz3), aty, lx, ly, nx, ny, rfl, rfl, Same.seq t35 hlx3, Same.seq t35 hly3, _, _, rfl, SameV.flat rfl, true, rfl, iteF ?_⟩
            exact ⟨_, rfl, t3.trans t35⟩
        · rintro σ G3 ⟨w10, rfl, t3⟩
          exact ⟨_, _, rfl, t3⟩
      · rintro σ G3 ⟨v9, v10, rfl, t3⟩
        refine ⟨4, rfl, by decide, by decide, for_range (lo := 0) (n := 4) (fun i σ H' => ∃ v9 : Option V, σ = [some (.ref a), some (.ref p), some (.int (c3 % 16)), some (.int (mo : Nat)), some (.ref l1), some (.ref l2), some (.ref l3), some (.ref z), some (.ref D), v9, v10, none] ∧ Same G2 H')
          ⟨_, rfl, t3⟩ ?_ ?_⟩
        · rintro i σ G4 hi ⟨w9, rfl, t4⟩
          obtain ⟨nx, hnx⟩ : ∃ n, Ns[i]? = some n := ⟨_, List.getElem?_eq_getElem (by omega)⟩
          obtain ⟨vx, atx, lx, rfl, hlx⟩ := at_al hrows2 hnx
          obtain ⟨vr, atr, rx, rfl, hrx⟩ := at_al hxs hnx
          have hz4 := t4 _ _ hz2
          have hD4 := t4 _ _ hD1
          have hlx4 := Same.seq t4 hlx
          have hrx4 := hrx.same t4
          obtain ⟨dx, tp, ex, htp⟩ := id hrx4
          have okx := (hNs nx (List.mem_of_getElem? hnx)).1
          refine ⟨_, rfl, _, rfl, D, _, _, _, rfl, rfl, SqL.of hD4, atr, rx, dx, _, rfl, ex, fun u hu => ?_⟩
          have s4 := same_upd (o := .lst []) hu
          refine ⟨rx, tp, dx, nx, rfl, s4 _ _ ex, sqt_same htp s4, fun it hit => ?_⟩
          have s5 := same_upd (o := itO it tp 0) hit
          have nui : u ≠ it := fun w => by rw [← w, upd_same] at hit; cases hit
          have s45 := s4.trans s5
          refine ⟨it, tp, nx.map V.int, dx, _, rfl, upd_same, s45 _ _ ex, nui, rx, nx, rfl, hrx4.same s45, nx.length, rfl, by omega, nx.length, rfl, by omega, sqt_same htp s45, upd_same, (by rw [upd_ne nui, upd_same]), fun H6 he6 hu6 => ?_⟩
          have s36 : Same G4 H6 := fun b o e => by
            have nb : b ≠ u := ne_of_none e hu
            have nb2 : b ≠ it := ne_of_none (s4 _ _ e) hit
            rw [he6 b nb2 nb]
            exact s45 _ _ e
          refine ⟨_, rfl, _, rfl, z, _, _, _, rfl, rfl, SqL.of (s36 _ _ hz4), atx, ?_⟩
          exact ⟨u, lx, nx, rfl, SqL.of hu6, Same.seq s36 hlx4, by omega, fun H7 s7 => ⟨true, rfl, iteF ⟨_, rfl, t4.trans (s36.trans s7)⟩⟩⟩
        · rintro σ G4 ⟨w9, rfl, t4⟩
          exact q _
end
theorem all_mk {l : PySem.W.OpenLaw} {w : World} {K : PySem.W.Frag} {h : Heap} {mg : Str → Option Value} {fa C_Row A_LETTERS : Addr} {tk_Row_MOST : Tok} {uLETTERS0 uLETTERS1 uLETTERS2 uLETTERS3 uLETTERS4 : Tok} {nLETTERS : Nat} {ddLETTERS : Option Addr} {slLETTERS : Array (Option Value)} {f_Row_init : Addr} {od_Row_init an_Row_init : Option Addr} {sl_Row_init : Array (Option Value)} {oc_Row_init kV_Row_init dc_Row_init pm_Row_init cd_Row_init ct_Row_init : Value} {f_Row_len : Addr} {od_Row_len an_Row_len : Option Addr} {sl_Row_len : Array (Option Value)} {oc_Row_len kV_Row_len dc_Row_len pm_Row_len cd_Row_len ct_Row_len : Value} {f_Row_iter : Addr} {od_Row_iter an_Row_iter : Option Addr} {sl_Row_iter : Array (Option Value)} {oc_Row_iter kV_Row_iter dc_Row_iter pm_Row_iter cd_Row_iter ct_Row_iter : Value} {f_Row_eq : Addr} {od_Row_eq an_Row_eq : Option Addr} {sl_Row_eq : Array (Option Value)} {oc_Row_eq kV_Row_eq dc_Row_eq pm_Row_eq cd_Row_eq ct_Row_eq : Value} {f_Row_lt : Addr} {od_Row_lt an_Row_lt : Option Addr} {sl_Row_lt : Array (Option Value)} {oc_Row_lt kV_Row_lt dc_Row_lt pm_Row_lt cd_Row_lt ct_Row_lt : Value} {f_Lcell : Addr} {od_Lcell an_Lcell : Option Addr} {sl_Lcell : Array (Option Value)} {oc_Lcell kV_Lcell dc_Lcell pm_Lcell cd_Lcell ct_Lcell : Value} {f_Lpool : Addr} {od_Lpool an_Lpool : Option Addr} {sl_Lpool : Array (Option Value)} {oc_Lpool kV_Lpool dc_Lpool pm_Lpool cd_Lpool ct_Lpool : Value} {f_Ltake : Addr} {od_Ltake an_Ltake : Option Addr} {sl_Ltake : Array (Option Value)} {oc_Ltake kV_Ltake dc_Ltake pm_Ltake cd_Ltake ct_Ltake : Value} {f_Lsame : Addr} {od_Lsame an_Lsame : Option Addr} {sl_Lsame : Array (Option Value)} {oc_Lsame kV_Lsame dc_Lsame pm_Lsame cd_Lsame ct_Lsame : Value} {f_Lahead : Addr} {od_Lahead an_Lahead : Option Addr} {sl_Lahead : Array (Option Value)} {oc_Lahead kV_Lahead dc_Lahead pm_Lahead cd_Lahead ct_Lahead : Value} {f_Lshorter : Addr} {od_Lshorter an_Lshorter : Option Addr} {sl_Lshorter : Array (Option Value)} {oc_Lshorter kV_Lshorter dc_Lshorter pm_Lshorter cd_Lshorter ct_Lshorter : Value} {f_Lletters : Addr} {od_Lletters an_Lletters : Option Addr} {sl_Lletters : Array (Option Value)} {oc_Lletters kV_Lletters dc_Lletters pm_Lletters cd_Lletters ct_Lletters : Value} {f_Lletters_are : Addr} {od_Lletters_are an_Lletters_are : Option Addr} {sl_Lletters_are : Array (Option Value)} {oc_Lletters_are kV_Lletters_are dc_Lletters_are pm_Lletters_are cd_Lletters_are ct_Lletters_are : Value} {f_Lnear : Addr} {od_Lnear an_Lnear : Option Addr} {sl_Lnear : Array (Option Value)} {oc_Lnear kV_Lnear dc_Lnear pm_Lnear cd_Lnear ct_Lnear : Value} {f_law : Addr} {od_law an_law : Option Addr} {sl_law : Array (Option Value)} {oc_law kV_law dc_law pm_law cd_law ct_law : Value}
    (X : K.In h) (G : h.Ns mainGlobals mg) (hfa : mg "law" = some (.ref fa))
    (g_Row : PySem.W.nsIn K mainGlobals "Row" = some (some (.ref C_Row)))
    (pg_Row : PySem.W.plainGet K C_Row Str.empty = true)
    (hd_Row : PySem.W.hasDictIn K C_Row = true)
    (po_Row : PySem.W.plainOver K C_Row = true)
    (sa_Row : PySem.W.findIn K (.ref C_Row) "__setattr__" = some (some (.builtin "object.__setattr__")))
    (cna_Row_MOST : PySem.W.findIn K (.ref C_Row) "MOST" = some (some (.int 2000 tk_Row_MOST)))
    (cnb_Row_MOST : PySem.W.specialIn K (.int 2000 tk_Row_MOST) "__get__" = some none)
    (nf_Row_letters : PySem.W.findIn K (.ref C_Row) "letters" = some none)
    (ha_Row : PySem.W.findIn K (.ref C_Row) "__class__" = some (some (.builtin "object.__class__")))
    (hn_Row : PySem.W.specialIn K (.builtin "object.__class__") "__get__" = some (some (.builtin "getset_descriptor.__get__")))
    (ht_Row : PySem.W.takesIn K (.builtin "object.__class__") = some true)
    (hm_Row : PySem.W.mroIn K C_Row (.type "object") = some true)
    (me_Row : PySem.W.kitOne K (.ref C_Row) (.ref C_Row) = some true)
    (c_LETTERS : PySem.W.nsIn K mainGlobals "LETTERS" = some (some (.ref A_LETTERS)))
    (l_LETTERS : K.lookup A_LETTERS = some ⟨.type "tuple", ddLETTERS, .seq #[.int 0 uLETTERS0, .int 1 uLETTERS1, .int 2 uLETTERS2, .int 3 uLETTERS3, .int 4 uLETTERS4] nLETTERS, slLETTERS⟩)
    (n_enumerate : PySem.W.nsIn K mainGlobals "enumerate" = some none)
    (n_tuple : PySem.W.nsIn K mainGlobals "tuple" = some none)
    (n_len : PySem.W.nsIn K mainGlobals "len" = some none)
    (n_iter : PySem.W.nsIn K mainGlobals "iter" = some none)
    (n_isinstance : PySem.W.nsIn K mainGlobals "isinstance" = some none)
    (n_int : PySem.W.nsIn K mainGlobals "int" = some none)
    (n_abs : PySem.W.nsIn K mainGlobals "abs" = some none)
    (n_bool : PySem.W.nsIn K mainGlobals "bool" = some none)
    (n_str : PySem.W.nsIn K mainGlobals "str" = some none)
    (n_list : PySem.W.nsIn K mainGlobals "list" = some none)
    (n_range : PySem.W.nsIn K mainGlobals "range" = some none)
    (mk_Row : PySem.W.makesIn K C_Row = true)
    (mkk_Row : PySem.W.keepIn K (.ref C_Row) = true)
    (a_Row_init : PySem.W.findIn K (.ref C_Row) "__init__" = some (some (.ref f_Row_init)))
    (j_Row_init : PySem.W.isFn K (.ref f_Row_init) = true)
    (l_Row_init : K.lookup f_Row_init = some ⟨oc_Row_init, od_Row_init, .func (PySem.W.fnOf "__init__" "Row.__init__" (defArgs s_Row_init) (defBody s_Row_init) (defScope s_Row_init) .none kV_Row_init dc_Row_init pm_Row_init an_Row_init cd_Row_init ct_Row_init), sl_Row_init⟩)
    (q_Row_init : PySem.W.codeIn K cd_Row_init "Row.__init__" = true)
    (k_Row_init : PySem.W.keepIn K (.ref f_Row_init) = true)
    (a_Row_len : PySem.W.findIn K (.ref C_Row) "__len__" = some (some (.ref f_Row_len)))
    (j_Row_len : PySem.W.isFn K (.ref f_Row_len) = true)
    (l_Row_len : K.lookup f_Row_len = some ⟨oc_Row_len, od_Row_len, .func (PySem.W.fnOf "__len__" "Row.__len__" (defArgs s_Row_len) (defBody s_Row_len) (defScope s_Row_len) .none kV_Row_len dc_Row_len pm_Row_len an_Row_len cd_Row_len ct_Row_len), sl_Row_len⟩)
    (q_Row_len : PySem.W.codeIn K cd_Row_len "Row.__len__" = true)
    (k_Row_len : PySem.W.keepIn K (.ref f_Row_len) = true)
    (a_Row_iter : PySem.W.findIn K (.ref C_Row) "__iter__" = some (some (.ref f_Row_iter)))
    (j_Row_iter : PySem.W.isFn K (.ref f_Row_iter) = true)
    (l_Row_iter : K.lookup f_Row_iter = some ⟨oc_Row_iter, od_Row_iter, .func (PySem.W.fnOf "__iter__" "Row.__iter__" (defArgs s_Row_iter) (defBody s_Row_iter) (defScope s_Row_iter) .none kV_Row_iter dc_Row_iter pm_Row_iter an_Row_iter cd_Row_iter ct_Row_iter), sl_Row_iter⟩)
    (q_Row_iter : PySem.W.codeIn K cd_Row_iter "Row.__iter__" = true)
    (k_Row_iter : PySem.W.keepIn K (.ref f_Row_iter) = true)
    (a_Row_eq : PySem.W.findIn K (.ref C_Row) "__eq__" = some (some (.ref f_Row_eq)))
    (j_Row_eq : PySem.W.isFn K (.ref f_Row_eq) = true)
    (l_Row_eq : K.lookup f_Row_eq = some ⟨oc_Row_eq, od_Row_eq, .func (PySem.W.fnOf "__eq__" "Row.__eq__" (defArgs s_Row_eq) (defBody s_Row_eq) (defScope s_Row_eq) .none kV_Row_eq dc_Row_eq pm_Row_eq an_Row_eq cd_Row_eq ct_Row_eq), sl_Row_eq⟩)
    (q_Row_eq : PySem.W.codeIn K cd_Row_eq "Row.__eq__" = true)
    (k_Row_eq : PySem.W.keepIn K (.ref f_Row_eq) = true)
    (a_Row_lt : PySem.W.findIn K (.ref C_Row) "__lt__" = some (some (.ref f_Row_lt)))
    (j_Row_lt : PySem.W.isFn K (.ref f_Row_lt) = true)
    (l_Row_lt : K.lookup f_Row_lt = some ⟨oc_Row_lt, od_Row_lt, .func (PySem.W.fnOf "__lt__" "Row.__lt__" (defArgs s_Row_lt) (defBody s_Row_lt) (defScope s_Row_lt) .none kV_Row_lt dc_Row_lt pm_Row_lt an_Row_lt cd_Row_lt ct_Row_lt), sl_Row_lt⟩)
    (q_Row_lt : PySem.W.codeIn K cd_Row_lt "Row.__lt__" = true)
    (k_Row_lt : PySem.W.keepIn K (.ref f_Row_lt) = true)
    (a_Lcell : PySem.W.nsIn K mainGlobals "_law_cell" = some (some (.ref f_Lcell)))
    (l_Lcell : K.lookup f_Lcell = some ⟨oc_Lcell, od_Lcell, .func (PySem.W.fnOf "_law_cell" "_law_cell" (defArgs s_Lcell) (defBody s_Lcell) (defScope s_Lcell) .none kV_Lcell dc_Lcell pm_Lcell an_Lcell cd_Lcell ct_Lcell), sl_Lcell⟩)
    (q_Lcell : PySem.W.codeIn K cd_Lcell "_law_cell" = true)
    (k_Lcell : PySem.W.keepIn K (.ref f_Lcell) = true)
    (a_Lpool : PySem.W.nsIn K mainGlobals "_law_pool" = some (some (.ref f_Lpool)))
    (l_Lpool : K.lookup f_Lpool = some ⟨oc_Lpool, od_Lpool, .func (PySem.W.fnOf "_law_pool" "_law_pool" (defArgs s_Lpool) (defBody s_Lpool) (defScope s_Lpool) .none kV_Lpool dc_Lpool pm_Lpool an_Lpool cd_Lpool ct_Lpool), sl_Lpool⟩)
    (q_Lpool : PySem.W.codeIn K cd_Lpool "_law_pool" = true)
    (k_Lpool : PySem.W.keepIn K (.ref f_Lpool) = true)
    (a_Ltake : PySem.W.nsIn K mainGlobals "_law_take" = some (some (.ref f_Ltake)))
    (l_Ltake : K.lookup f_Ltake = some ⟨oc_Ltake, od_Ltake, .func (PySem.W.fnOf "_law_take" "_law_take" (defArgs s_Ltake) (defBody s_Ltake) (defScope s_Ltake) .none kV_Ltake dc_Ltake pm_Ltake an_Ltake cd_Ltake ct_Ltake), sl_Ltake⟩)
    (q_Ltake : PySem.W.codeIn K cd_Ltake "_law_take" = true)
    (k_Ltake : PySem.W.keepIn K (.ref f_Ltake) = true)
    (a_Lsame : PySem.W.nsIn K mainGlobals "_law_same" = some (some (.ref f_Lsame)))
    (l_Lsame : K.lookup f_Lsame = some ⟨oc_Lsame, od_Lsame, .func (PySem.W.fnOf "_law_same" "_law_same" (defArgs s_Lsame) (defBody s_Lsame) (defScope s_Lsame) .none kV_Lsame dc_Lsame pm_Lsame an_Lsame cd_Lsame ct_Lsame), sl_Lsame⟩)
    (q_Lsame : PySem.W.codeIn K cd_Lsame "_law_same" = true)
    (k_Lsame : PySem.W.keepIn K (.ref f_Lsame) = true)
    (a_Lahead : PySem.W.nsIn K mainGlobals "_law_ahead" = some (some (.ref f_Lahead)))
    (l_Lahead : K.lookup f_Lahead = some ⟨oc_Lahead, od_Lahead, .func (PySem.W.fnOf "_law_ahead" "_law_ahead" (defArgs s_Lahead) (defBody s_Lahead) (defScope s_Lahead) .none kV_Lahead dc_Lahead pm_Lahead an_Lahead cd_Lahead ct_Lahead), sl_Lahead⟩)
    (q_Lahead : PySem.W.codeIn K cd_Lahead "_law_ahead" = true)
    (k_Lahead : PySem.W.keepIn K (.ref f_Lahead) = true)
    (a_Lshorter : PySem.W.nsIn K mainGlobals "_law_shorter" = some (some (.ref f_Lshorter)))
    (l_Lshorter : K.lookup f_Lshorter = some ⟨oc_Lshorter, od_Lshorter, .func (PySem.W.fnOf "_law_shorter" "_law_shorter" (defArgs s_Lshorter) (defBody s_Lshorter) (defScope s_Lshorter) .none kV_Lshorter dc_Lshorter pm_Lshorter an_Lshorter cd_Lshorter ct_Lshorter), sl_Lshorter⟩)
    (q_Lshorter : PySem.W.codeIn K cd_Lshorter "_law_shorter" = true)
    (k_Lshorter : PySem.W.keepIn K (.ref f_Lshorter) = true)
    (a_Lletters : PySem.W.nsIn K mainGlobals "_law_letters" = some (some (.ref f_Lletters)))
    (l_Lletters : K.lookup f_Lletters = some ⟨oc_Lletters, od_Lletters, .func (PySem.W.fnOf "_law_letters" "_law_letters" (defArgs s_Lletters) (defBody s_Lletters) (defScope s_Lletters) .none kV_Lletters dc_Lletters pm_Lletters an_Lletters cd_Lletters ct_Lletters), sl_Lletters⟩)
    (q_Lletters : PySem.W.codeIn K cd_Lletters "_law_letters" = true)
    (k_Lletters : PySem.W.keepIn K (.ref f_Lletters) = true)
    (a_Lletters_are : PySem.W.nsIn K mainGlobals "_law_letters_are" = some (some (.ref f_Lletters_are)))
    (l_Lletters_are : K.lookup f_Lletters_are = some ⟨oc_Lletters_are, od_Lletters_are, .func (PySem.W.fnOf "_law_letters_are" "_law_letters_are" (defArgs s_Lletters_are) (defBody s_Lletters_are) (defScope s_Lletters_are) .none kV_Lletters_are dc_Lletters_are pm_Lletters_are an_Lletters_are cd_Lletters_are ct_Lletters_are), sl_Lletters_are⟩)
    (q_Lletters_are : PySem.W.codeIn K cd_Lletters_are "_law_letters_are" = true)
    (k_Lletters_are : PySem.W.keepIn K (.ref f_Lletters_are) = true)
    (a_Lnear : PySem.W.nsIn K mainGlobals "_law_near" = some (some (.ref f_Lnear)))
    (l_Lnear : K.lookup f_Lnear = some ⟨oc_Lnear, od_Lnear, .func (PySem.W.fnOf "_law_near" "_law_near" (defArgs s_Lnear) (defBody s_Lnear) (defScope s_Lnear) .none kV_Lnear dc_Lnear pm_Lnear an_Lnear cd_Lnear ct_Lnear), sl_Lnear⟩)
    (q_Lnear : PySem.W.codeIn K cd_Lnear "_law_near" = true)
    (k_Lnear : PySem.W.keepIn K (.ref f_Lnear) = true)
    (a_law : PySem.W.nsIn K mainGlobals "law" = some (some (.ref f_law)))
    (l_law : K.lookup f_law = some ⟨oc_law, od_law, .func (PySem.W.fnOf "law" "law" (defArgs s_law) (defBody s_law) (defScope s_law) .none kV_law dc_law pm_law an_law cd_law ct_law), sl_law⟩)
    (q_law : PySem.W.codeIn K cd_law "law" = true)
    (k_law : PySem.W.keepIn K (.ref f_law) = true) :
    ∃ fd : FuncData, (∀ (s : Shared) (v : Value), BindsTo s fd ⟨[v], []⟩ [("_law_script", v)]) ∧ ∀ base : Heap, K.In base → base.Ns mainGlobals mg → FnOk l.prog w K mg base CX0 7 fa fd ["_law_script"] (sp_law K) := by
  have e := hfa.symm.trans (PySem.W.mg_of X G a_law)
  cases e
  have T : Txt l.prog w K mg C_Row A_LETTERS := ⟨PySem.W.mg_of X G g_Row, ⟨pg_Row, hd_Row, po_Row, sa_Row⟩, ⟨_, cna_Row_MOST, ⟨_, rfl⟩, cnb_Row_MOST, by decide +kernel⟩, nf_Row_letters, ⟨⟨pg_Row, hd_Row, po_Row, sa_Row⟩, ha_Row, hn_Row, ht_Row, hm_Row, me_Row⟩, PySem.W.mg_of X G c_LETTERS, fun H => .inr ⟨_, _, _, l_LETTERS, rfl, rfl, by rw [sizeLine_eq]; show 5 ≤ 16777216; decide, (.cons ⟨_, rfl⟩ (.cons ⟨_, rfl⟩ (.cons ⟨_, rfl⟩ (.cons ⟨_, rfl⟩ (.cons ⟨_, rfl⟩ .nil)))))⟩, PySem.W.mg_none_of X G n_enumerate, PySem.W.mg_none_of X G n_tuple, PySem.W.mg_none_of X G n_len, PySem.W.mg_none_of X G n_iter, PySem.W.mg_none_of X G n_isinstance, PySem.W.mg_none_of X G n_int, PySem.W.mg_none_of X G n_abs, PySem.W.mg_none_of X G n_bool, PySem.W.mg_none_of X G n_str, PySem.W.mg_none_of X G n_list, PySem.W.mg_none_of X G n_range⟩
  have F_Row_init := fun_mk (st := s_Row_init) l_Row_init q_Row_init k_Row_init
  have b_Row_init := F_Row_init.binds (ps := ["self", "letters"]) fun _ _ _ _ _ _ us hl => match us, hl with | [_, _], _ => rfl
  have F_Row_len := fun_mk (st := s_Row_len) l_Row_len q_Row_len k_Row_len
  have b_Row_len := F_Row_len.binds (ps := ["self"]) fun _ _ _ _ _ _ us hl => match us, hl with | [_], _ => rfl
  have F_Row_iter := fun_mk (st := s_Row_iter) l_Row_iter q_Row_iter k_Row_iter
  have b_Row_iter := F_Row_iter.binds (ps := ["self"]) fun _ _ _ _ _ _ us hl => match us, hl with | [_], _ => rfl
  have F_Row_eq := fun_mk (st := s_Row_eq) l_Row_eq q_Row_eq k_Row_eq
  have b_Row_eq := F_Row_eq.binds (ps := ["self", "other"]) fun _ _ _ _ _ _ us hl => match us, hl with | [_, _], _ => rfl
  have F_Row_lt := fun_mk (st := s_Row_lt) l_Row_lt q_Row_lt k_Row_lt
  have b_Row_lt := F_Row_lt.binds (ps := ["self", "other"]) fun _ _ _ _ _ _ us hl => match us, hl with | [_, _], _ => rfl
  have F_Lcell := fun_mk (st := s_Lcell) l_Lcell q_Lcell k_Lcell
  have b_Lcell := F_Lcell.binds (ps := ["_law_script", "_law_at"]) fun _ _ _ _ _ _ us hl => match us, hl with | [_, _], _ => rfl
  have F_Lpool := fun_mk (st := s_Lpool) l_Lpool q_Lpool k_Lpool
  have b_Lpool := F_Lpool.binds (ps := ["_law_cell_here"]) fun _ _ _ _ _ _ us hl => match us, hl with | [_], _ => rfl
  have F_Ltake := fun_mk (st := s_Ltake) l_Ltake q_Ltake k_Ltake
  have b_Ltake := F_Ltake.binds (ps := ["_law_pool_here", "_law_many"]) fun _ _ _ _ _ _ us hl => match us, hl with | [_, _], _ => rfl
  have F_Lsame := fun_mk (st := s_Lsame) l_Lsame q_Lsame k_Lsame
  have b_Lsame := F_Lsame.binds (ps := ["_law_told", "_law_due"]) fun _ _ _ _ _ _ us hl => match us, hl with | [_, _], _ => rfl
  have F_Lahead := fun_mk (st := s_Lahead) l_Lahead q_Lahead k_Lahead
  have b_Lahead := F_Lahead.binds (ps := ["_law_one", "_law_two"]) fun _ _ _ _ _ _ us hl => match us, hl with | [_, _], _ => rfl
  have F_Lshorter := fun_mk (st := s_Lshorter) l_Lshorter q_Lshorter k_Lshorter
  have b_Lshorter := F_Lshorter.binds (ps := ["_law_one", "_law_two"]) fun _ _ _ _ _ _ us hl => match us, hl with | [_, _], _ => rfl
  have F_Lletters := fun_mk (st := s_Lletters) l_Lletters q_Lletters k_Lletters
  have b_Lletters := F_Lletters.binds (ps := ["_law_pool_here", "_law_size"]) fun _ _ _ _ _ _ us hl => match us, hl with | [_, _], _ => rfl
  have F_Lletters_are := fun_mk (st := s_Lletters_are) l_Lletters_are q_Lletters_are k_Lletters_are
  have b_Lletters_are := F_Lletters_are.binds (ps := ["_law_told", "_law_letters_here"]) fun _ _ _ _ _ _ us hl => match us, hl with | [_, _], _ => rfl
  have F_Lnear := fun_mk (st := s_Lnear) l_Lnear q_Lnear k_Lnear
  have b_Lnear := F_Lnear.binds (ps := ["_law_pool_here", "_law_letters_here", "_law_relation", "_law_most"]) fun _ _ _ _ _ _ us hl => match us, hl with | [_, _, _, _], _ => rfl
  refine ⟨PySem.W.fnOf "law" "law" (defArgs s_law) (defBody s_law) (defScope s_law) .none kV_law dc_law pm_law an_law cd_law ct_law, fun s v => .of_eq rfl, fun base _ _ => ?_⟩
  have c_Row := mak_mk (ok_Row_init (P := l.prog) (w := w) (base := base) F_Row_init T ) (T.g_Row) ⟨mk_Row, a_Row_init, j_Row_init, mkk_Row⟩ b_Row_init
  have c_Row_len := met_mk (ok_Row_len (P := l.prog) (w := w) (base := base) F_Row_len T ) T.cl_Row ⟨a_Row_len, j_Row_len, k_Row_len⟩ b_Row_len (fn_in l_Row_len)
  have c_Row_iter := met_mk (ok_Row_iter (P := l.prog) (w := w) (base := base) F_Row_iter T ) T.cl_Row ⟨a_Row_iter, j_Row_iter, k_Row_iter⟩ b_Row_iter (fn_in l_Row_iter)
  have c_Row_eq := met_mk (ok_Row_eq (P := l.prog) (w := w) (base := base) F_Row_eq T ) T.cl_Row ⟨a_Row_eq, j_Row_eq, k_Row_eq⟩ b_Row_eq (fn_in l_Row_eq)
  have c_Row_lt := met_mk (ok_Row_lt (P := l.prog) (w := w) (base := base) F_Row_lt T ) T.cl_Row ⟨a_Row_lt, j_Row_lt, k_Row_lt⟩ b_Row_lt (fn_in l_Row_lt)
  have c_Lcell := cal_mk (ok_Lcell (P := l.prog) (w := w) (base := base) F_Lcell T ) (PySem.W.mg_of X G a_Lcell) k_Lcell b_Lcell
  have c_Lpool := cal_mk (ok_Lpool (P := l.prog) (w := w) (base := base) F_Lpool T ) (PySem.W.mg_of X G a_Lpool) k_Lpool b_Lpool
  have c_Ltake := cal_mk (ok_Ltake (P := l.prog) (w := w) (base := base) F_Ltake T ) (PySem.W.mg_of X G a_Ltake) k_Ltake b_Ltake
  have c_Lsame := cal_mk (ok_Lsame (P := l.prog) (w := w) (base := base) F_Lsame T (PySem.W.mg_of X G a_Lsame) k_Lsame b_Lsame 1) (PySem.W.mg_of X G a_Lsame) k_Lsame b_Lsame
  have c_Lahead := cal_mk (ok_Lahead (P := l.prog) (w := w) (base := base) F_Lahead T ) (PySem.W.mg_of X G a_Lahead) k_Lahead b_Lahead
  have c_Lshorter := cal_mk (ok_Lshorter (P := l.prog) (w := w) (base := base) F_Lshorter T c_Lahead) (PySem.W.mg_of X G a_Lshorter) k_Lshorter b_Lshorter
  have c_Lletters := cal_mk (ok_Lletters (P := l.prog) (w := w) (base := base) F_Lletters T c_Ltake) (PySem.W.mg_of X G a_Lletters) k_Lletters b_Lletters
  have c_Lletters_are := cal_mk (ok_Lletters_are (P := l.prog) (w := w) (base := base) F_Lletters_are T ) (PySem.W.mg_of X G a_Lletters_are) k_Lletters_are b_Lletters_are
  have c_Lnear := cal_mk (ok_Lnear (P := l.prog) (w := w) (base := base) F_Lnear T c_Lletters c_Ltake) (PySem.W.mg_of X G a_Lnear) k_Lnear b_Lnear
  exact ok_law (fun_mk (st := s_law) l_law q_law k_law) T c_Lpool c_Lcell c_Lletters c_Ltake c_Lnear c_Row c_Lsame c_Row_lt c_Lshorter c_Row_eq c_Lletters_are c_Row_iter c_Row_len

theorem walk {l : PySem.W.OpenLaw} {q : Program} {loose : List Str} {XP : (Str → Option Value) → Heap → Prop} {YP : World → Heap → Prop} {d : DefRec} {K : Params → PySem.W.Frag} (hn : l.most = some 63) (hdf : d.params.defaults = [])
    (hY : ∀ (w : World) (h : Heap), YP w h → (K w.params).In h)
    (F : ∀ (w : World) (mg : Str → Option Value) (fa : Addr) (h : Heap), (K w.params).In h → h.Ns mainGlobals mg → mg d.name = some (.ref fa) →
      ∃ fd : FuncData, (∀ (s : Shared) (u : Value), BindsTo s fd ⟨[u], []⟩ [("_law_script", u)]) ∧ ∀ base : Heap, (K w.params).In base → base.Ns mainGlobals mg → FnOk l.prog w (K w.params) mg base CX0 7 fa fd ["_law_script"] (sp_law (K w.params))) :
    PySem.W.WalkO q loose XP YP l.row.toRowW d [] (fun f vs => PySem.call f vs) :=
  L2.walk_of (n := 63) (k := 7) (x := "_law_script") (CX := fun _ => CX0) (sp := fun w => sp_law (K w.params)) hn (by decide) hdf ⟨rfl, by decide, by decide⟩ hY F (fun _ _ a ns hl _ hS => ⟨a, ns, rfl, hS, hl, fun _ => rfl⟩) fun _ _ _ _ _ z => z
end My

open PySem PySem.W PyProof.Rows in
set_option maxRecDepth 100000 in
set_option maxHeartbeats 0 in
theorem PySem.Challenge.cw_onecable_k07_row_order_holds : PySem.Challenge.rw_onecable_k07_row_order.Holds := by
  w_on; o_law; k_head; (case hw => w_witness2)
  k_fill
  refine My.walk (l := PySem.Challenge.rw_onecable_k07_row_order) rfl rfl (fun w h Y => PySem.W.kIn_of Y) ?F
  case F =>
    intro w mg fa h KX G hmg
    refine' My.all_mk KX G hmg ?g_Row ?pg_Row ?hd_Row ?po_Row ?sa_Row ?cna_Row_MOST ?cnb_Row_MOST ?nf_Row_letters ?ha_Row ?hn_Row ?ht_Row ?hm_Row ?me_Row ?c_LETTERS ?l_LETTERS ?n_enumerate ?n_tuple ?n_len ?n_iter ?n_isinstance ?n_int ?n_abs ?n_bool ?n_str ?n_list ?n_range ?mk_Row ?mkk_Row ?a_Row_init ?j_Row_init ?l_Row_init ?q_Row_init ?k_Row_init ?a_Row_len ?j_Row_len ?l_Row_len ?q_Row_len ?k_Row_len ?a_Row_iter ?j_Row_iter ?l_Row_iter ?q_Row_iter ?k_Row_iter ?a_Row_eq ?j_Row_eq ?l_Row_eq ?q_Row_eq ?k_Row_eq ?a_Row_lt ?j_Row_lt ?l_Row_lt ?q_Row_lt ?k_Row_lt ?a_Lcell ?l_Lcell ?q_Lcell ?k_Lcell ?a_Lpool ?l_Lpool ?q_Lpool ?k_Lpool ?a_Ltake ?l_Ltake ?q_Ltake ?k_Ltake ?a_Lsame ?l_Lsame ?q_Lsame ?k_Lsame ?a_Lahead ?l_Lahead ?q_Lahead ?k_Lahead ?a_Lshorter ?l_Lshorter ?q_Lshorter ?k_Lshorter ?a_Lletters ?l_Lletters ?q_Lletters ?k_Lletters ?a_Lletters_are ?l_Lletters_are ?q_Lletters_are ?k_Lletters_are ?a_Lnear ?l_Lnear ?q_Lnear ?k_Lnear ?a_law ?l_law ?q_law ?k_law
    (case g_Row => k_is)
    (case pg_Row => k_is)
    (case hd_Row => k_is)
    (case po_Row => k_is)
    (case sa_Row => k_is)
    (case cna_Row_MOST => k_is)
    (case cnb_Row_MOST => k_is)
    (case nf_Row_letters => k_is)
    (case ha_Row => k_is)
    (case hn_Row => k_is)
    (case ht_Row => k_is)
    (case hm_Row => k_is)
    (case me_Row => kit_is)
    (case c_LETTERS => k_is)
    (case l_LETTERS => k_is)
    (case n_enumerate => k_is)
    (case n_tuple => k_is)
    (case n_len => k_is)
    (case n_iter => k_is)
    (case n_isinstance => k_is)
    (case n_int => k_is)
    (case n_abs => k_is)
    (case n_bool => k_is)
    (case n_str => k_is)
    (case n_list => k_is)
    (case n_range => k_is)
    (case mk_Row => k_is)
    (case mkk_Row => k_is)
    (case a_Row_init => k_is)
    (case j_Row_init => k_is)
    (case l_Row_init => k_is)
    (case q_Row_init => k_is)
    (case k_Row_init => k_is)
    (case a_Row_len => k_is)
    (case j_Row_len => k_is)
    (case l_Row_len => k_is)
    (case q_Row_len => k_is)
    (case k_Row_len => k_is)
    (case a_Row_iter => k_is)
    (case j_Row_iter => k_is)
    (case l_Row_iter => k_is)
    (case q_Row_iter => k_is)
    (case k_Row_iter => k_is)
    (case a_Row_eq => k_is)
    (case j_Row_eq => k_is)
    (case l_Row_eq => k_is)
    (case q_Row_eq => k_is)
    (case k_Row_eq => k_is)
    (case a_Row_lt => k_is)
    (case j_Row_lt => k_is)
    (case l_Row_lt => k_is)
    (case q_Row_lt => k_is)
    (case k_Row_lt => k_is)
    (case a_Lcell => k_is)
    (case l_Lcell => k_is)
    (case q_Lcell => k_is)
    (case k_Lcell => k_is)
    (case a_Lpool => k_is)
    (case l_Lpool => k_is)
    (case q_Lpool => k_is)
    (case k_Lpool => k_is)
    (case a_Ltake => k_is)
    (case l_Ltake => k_is)
    (case q_Ltake => k_is)
    (case k_Ltake => k_is)
    (case a_Lsame => k_is)
    (case l_Lsame => k_is)
    (case q_Lsame => k_is)
    (case k_Lsame => k_is)
    (case a_Lahead => k_is)
    (case l_Lahead => k_is)
    (case q_Lahead => k_is)
    (case k_Lahead => k_is)
    (case a_Lshorter => k_is)
    (case l_Lshorter => k_is)
    (case q_Lshorter => k_is)
    (case k_Lshorter => k_is)
    (case a_Lletters => k_is)
    (case l_Lletters => k_is)
    (case q_Lletters => k_is)
    (case k_Lletters => k_is)
    (case a_Lletters_are => k_is)
    (case l_Lletters_are => k_is)
    (case q_Lletters_are => k_is)
    (case k_Lletters_are => k_is)
    (case a_Lnear => k_is)
    (case l_Lnear => k_is)
    (case q_Lnear => k_is)
    (case k_Lnear => k_is)
    (case a_law => k_is)
    (case l_law => k_is)
    (case q_law => k_is)
    (case k_law => k_is)

