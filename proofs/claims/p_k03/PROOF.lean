import PyProof.Rows.All
import Wide.All
import OpenK.AllK
import Wide.FinOn
import HandS.ForExc
import HandS.Wide
import HandS.Gcd
import HandS.Codes
import HandS.IsInst
import HandS.ExcIs
import KE.RegKIsAll
import HandS.OwnEq
import PySem.Challenge.RW_onecable_k03_ratio_floors_and_order
set_option Elab.async false
set_option maxRecDepth 100000
set_option maxHeartbeats 4000000
set_option linter.all false
namespace My
open PySem PySem.Spec PyProof.Rows L2
/-! ### callables of the text: a def by its name, a method, a class -/
structure Cal (CX : CXT) (P : Program) (w : World) (K : PySem.W.Frag) (mg : Str → Option Value) (base : Heap) (k : Nat) (x : Str) (sp : Sp) : Prop where
  ex : ∃ (f : Addr) (fd : FuncData) (ps : List Str), FnOk P w K mg base CX k f fd ps sp ∧ mg x = some (.ref f) ∧ PySem.W.keepIn K (.ref f) = true ∧ Binds K fd ps []
structure Met (CX : CXT) (P : Program) (w : World) (K : PySem.W.Frag) (mg : Str → Option Value) (base : Heap) (k : Nat) (C : Addr) (m : Str) (sp : Sp) : Prop where
  ex : ∃ (f : Addr) (fd : FuncData) (ps : List Str), Cls K C ∧ Meth K C m f ∧ FnOk P w K mg base CX k f fd ps sp ∧ Binds K fd ps []
structure Mak (CX : CXT) (P : Program) (w : World) (K : PySem.W.Frag) (mg : Str → Option Value) (base : Heap) (k : Nat) (x : Str) (C : Addr) (sp : Sp) : Prop where
  ex : ∃ (f : Addr) (fd : FuncData) (ps : List Str), Mk K C f ∧ FnOk P w K mg base CX k f fd ps sp ∧ mg x = some (.ref C) ∧ Binds K fd ps []
section
variable {CX : CXT} {P : Program} {w : World} {K : PySem.W.Frag} {mg : Str → Option Value} {base : Heap} {k : Nat} {x m : Str} {f C : Addr} {fd : FuncData} {ps : List Str} {sp : Sp}
theorem cal_mk (F : FnOk P w K mg base CX k f fd ps sp) (m : mg x = some (.ref f)) (kp : PySem.W.keepIn K (.ref f) = true) (b : Binds K fd ps []) : Cal CX P w K mg base k x sp := ⟨f, fd, ps, F, m, kp, b⟩
theorem met_mk (F : FnOk P w K mg base CX k f fd ps sp) (c : Cls K C) (me : Meth K C m f) (b : Binds K fd ps []) : Met CX P w K mg base k C m sp := ⟨f, fd, ps, c, me, F, b⟩
theorem mak_mk (F : FnOk P w K mg base CX k f fd ps sp) (m : mg x = some (.ref C)) (M : Mk K C f) (b : Binds K fd ps []) : Mak CX P w K mg base k x C sp := ⟨f, fd, ps, M, F, m, b⟩
end
section
variable {X : Cx} {CX : CXT} {k j : Nat} {C : Addr} {x m : Str} {sp : Sp} {E : XK} {p pos apos : Pos} {e o : Expr} {es : List Expr} {ta : TE} {t : TA}
theorem pc_c (c : Cal CX X.prog X.w X.K X.mg X.base k x sp) (hr : Room j X.A) (hk : k ≤ j) (hg : Gl X x) (hx : Passes CX X E) (ha : PA X (e :: es) t)
    (hdb : (x == ("__debug__" : Str)) = false := by decide) (he : starEach (e :: es) X.env = (false, eval e X.env) :: starEach es X.env := by rfl) (hpl : (backTo pos (starEach es X.env)).any (·.1) = false := by rfl) :
    PE X (.Call (.Name x p) (e :: es) [] pos) (tCall sp [] E t) := by
  obtain ⟨f, fd, ps, F, hm, kp, b⟩ := c.ex
  exact pe_call F (hr.mono hk) hg hm kp b .nil hx ha hdb he hpl
theorem pc_cS {E : L2.St → XK} (c : Cal CX X.prog X.w X.K X.mg X.base k x sp) (hr : Room j X.A) (hk : k ≤ j) (hg : Gl X x) (hx : ∀ σ, PassesAt CX X σ (E σ)) (ha : PA X (e :: es) t)
    (hdb : (x == ("__debug__" : Str)) = false := by decide) (he : starEach (e :: es) X.env = (false, eval e X.env) :: starEach es X.env := by rfl) (hpl : (backTo pos (starEach es X.env)).any (·.1) = false := by rfl) :
    PE X (.Call (.Name x p) (e :: es) [] pos) (tCallS sp E t) := by
  obtain ⟨f, fd, ps, F, hm, kp, b⟩ := c.ex
  exact pe_callS F (hr.mono hk) hg hm kp b hx ha hdb he hpl
theorem pc_mk (c : Mak CX X.prog X.w X.K X.mg X.base k x C sp) (hr : Room j X.A) (hk : k + 1 ≤ j) (hg : Gl X x) (hx : Passes CX X E) (ha : PA X (e :: es) t)
    (hdb : (x == ("__debug__" : Str)) = false := by decide) (he : starEach (e :: es) X.env = (false, eval e X.env) :: starEach es X.env := by rfl) (hpl : (backTo pos (starEach es X.env)).any (·.1) = false := by rfl) :
    PE X (.Call (.Name x p) (e :: es) [] pos) (tMake C sp [] E t) := by
  obtain ⟨f, fd, ps, M, F, hm, b⟩ := c.ex
  exact pe_make M F (hr.mono hk) hg hm b .nil hx ha hdb he hpl
/-- a class made where a try stands around: what is raised is wished for at the slots -/
def tMakeS (C : Addr) (sp : Sp) (E : L2.St → XK) (t : TA) : TE := fun σ H Q => t σ H fun vs H1 => ∀ x dx, H1 x = none → H1 dx = none → dx ≠ x →
  sp (.ref x :: (vs ++ [])) (upd (upd H1 dx (.own x)) x (.ins C dx [])) (fun v H2 => v = .non ∧ Q (.ref x) H2) (E σ)
theorem run_mkS {f : Addr} {fd : FuncData} {ps : List Str} {ds : List Value} {dvs : List V} {pins : List (Addr × Obj)} {σ : L2.St} {H : Hp} {s : Shared} {Q : VK} {us : List Value} {vs : List V} (M : Mk X.K C f) (F : FnOk X.prog X.w X.K X.mg X.base CX k f fd ps sp) (hr : Room (k + 1) X.A) (hb : Binds X.K fd ps ds) (hd : Vals dvs ds)
    (hx : PassesAt CX X σ E) (I : Inv X pins σ H s) (r : Vals vs us)
    (h : ∀ x dx, H x = none → H dx = none → dx ≠ x → sp (.ref x :: (vs ++ dvs)) (upd (upd H dx (.own x)) x (.ins C dx [])) (fun v H2 => v = .non ∧ Q (.ref x) H2) E) :
    wpAny (model X.prog X.w) X.A (call (.ref C) us) (EP X pins σ Q) X.xe s := by
  have hq := h (s.heap.objs.size + 1) s.heap.objs.size (I.hok.fresh (Nat.le_succ _)) (I.hok.fresh (Nat.le_refl _)) (Nat.ne_of_lt (Nat.lt_succ_self _))
  have I2 := Inv.made (C := C) I
  have r2 : Vals (V.ref (s.heap.objs.size + 1) :: (vs ++ dvs)) (Value.ref (s.heap.objs.size + 1) :: (us ++ ds)) := .cons rfl (r.append hd)
  have hl : (Value.ref (s.heap.objs.size + 1) :: us ++ ds).length = ps.length := by
    have e := r2.length
    rw [F.len _ _ _ _ hq] at e
    exact e.symm
  refine wpAny_call (make_map (f := f) I.kIn M.makes M.init (beq_iff_eq.mp M.fn) (codeAny_mono (F.run _ X.stack _ _ ⟨Value.ref (s.heap.objs.size + 1) :: us, []⟩ (Value.ref (s.heap.objs.size + 1) :: (us ++ ds)) _ _ E (hr.make C us [])
    (I2.env0.make C us []) (hb _ (Value.ref (s.heap.objs.size + 1) :: us) I2.kIn hl) r2 hq) fun r s' hq' => ?_))
  cases r with
  | error e => exact hx pins _ _ e s' I2 hq'
  | ok fl =>
    cases fl with
    | ret u =>
      obtain ⟨v, H', I3, rv, ev, q3⟩ := I2.after hq'
      subst ev
      exact ⟨rv, ⟨V.ref (s.heap.objs.size + 1), H', I3, rfl, q3⟩⟩
    | next => exact False.elim hq'
    | brk => exact False.elim hq'
    | cont => exact False.elim hq'
theorem pc_mkS {E : L2.St → XK} (c : Mak CX X.prog X.w X.K X.mg X.base k x C sp) (hr : Room j X.A) (hk : k + 1 ≤ j) (hg : Gl X x) (hx : ∀ σ, PassesAt CX X σ (E σ)) (ha : PA X (e :: es) t)
    (hdb : (x == ("__debug__" : Str)) = false := by decide) (he : starEach (e :: es) X.env = (false, eval e X.env) :: starEach es X.env := by rfl) (hpl : (backTo pos (starEach es X.env)).any (·.1) = false := by rfl) :
    PE X (.Call (.Name x p) (e :: es) [] pos) (tMakeS C sp E t) := by
  obtain ⟨f, fd, ps, M, F, hm, b⟩ := c.ex
  refine ⟨fun pins s σ H Q I h => ?_⟩
  refine wpAny_Call_Name_kw (ld_glob I hg hm ?_ hdb)
  refine PySem.W.callWith_K (h₀ := X.base) I.ok.mod.kin M.kp (thn (ha.run pos pins s σ H _ I h) fun us s1 ⟨vs, H1, I1, r, q⟩ => ⟨I1.kIn, ?_⟩) he hpl
  exact run_mkS M F (hr.mono hk) b .nil (hx σ) I1 r q
theorem pc_mt {pl : Sem Bool} (c : Met CX X.prog X.w X.K X.mg X.base k C m sp) (hr : Room j X.A) (hk : k ≤ j) (hx : Passes CX X E) (he : PE X o ta) (ha : PA X (e :: es) t)
    (hst : starEach (e :: es) X.env = (false, eval e X.env) :: starEach es X.env := by rfl) (hpl : (backTo pos (starEach es X.env)).any (·.1) = false := by rfl)
    (ht : eval (.Call (.Attribute o m apos) (e :: es) [] pos) X.env = (do
      let ov ← eval o X.env
      standAt apos.atName
      let (f, first) ← holding [ov] (getMethod ov m pl)
      callWith pos f first (backTo pos (starEach (e :: es) X.env)) (backToKw pos (keywordEach [] X.env))) := by rfl) :
    PE X (.Call (.Attribute o m apos) (e :: es) [] pos) (tMeth C m sp [] E ta t) := by
  obtain ⟨f, fd, ps, hc, hm, F, b⟩ := c.ex
  exact pe_meth (pl := pl) he hc hm F (hr.mono hk) b .nil hx ha hst hpl ht
theorem pc_mt0 {pl : Sem Bool} (c : Met CX X.prog X.w X.K X.mg X.base k C m sp) (hr : Room j X.A) (hk : k ≤ j) (hx : Passes CX X E) (he : PE X o ta)
    (ht : eval (.Call (.Attribute o m apos) [] [] pos) X.env = (do
      let ov ← eval o X.env
      standAt apos.atName
      let (f, first) ← holding [ov] (getMethod ov m pl)
      callWith pos f first (backTo pos (starEach [] X.env)) (backToKw pos (keywordEach [] X.env))) := by rfl) :
    PE X (.Call (.Attribute o m apos) [] [] pos) (tMeth C m sp [] E ta tNil) := by
  obtain ⟨f, fd, ps, hc, hm, F, b⟩ := c.ex
  exact pe_meth0 (pl := pl) he hc hm F (hr.mono hk) b .nil hx ht
/-! ### further operators -/
/-- * : one factor small, or both below a million bits together -/
def CMulA (i j : Int) : Prop := CMul i j ∨ CMulW i j
theorem op_mulA : OpR X (binaryOp .Mult) (rI CMulA fun i j => .int (i * j)) := opI fun _ _ _ _ _ _ _ hc q => mul_int q (hc.elim CMul.ok CMulW.ok)
/-- // by any divisor but 0 that is no giant -/
def CDivA (_ j : Int) : Prop := j ≠ 0 ∧ j.natAbs.log2 < 9000
theorem op_fdivA : OpR X (binaryOp .FloorDiv) (rI CDivA fun i j => .int (i.fdiv j)) := opI fun _ _ _ _ _ _ _ hc q => floordiv_int hc.1 q (.inl (PyProof.noPylong_of_log2 hc.2))
theorem divA {i j : Int} {b : Nat} (h : j ≠ 0) (hb : j.natAbs < 2 ^ b) (h0 : 0 < b) (h9 : b ≤ 9000) : CDivA i j := ⟨h, Nat.lt_of_lt_of_le (PySem.Flt.log2_lt_of h0 hb) h9⟩
end
/-! ### heaps: all but what stands at p is kept -/
def Kp (p : Addr) (H H' : Hp) : Prop := ∀ b o, b ≠ p → H b = some o → H' b = some o
theorem Kp.refl {p : Addr} {H : Hp} : Kp p H H := fun _ _ _ h => h
theorem Kp.trans {p : Addr} {H H1 H2 : Hp} (a : Kp p H H1) (b : Kp p H1 H2) : Kp p H H2 := fun c o n h => b c o n (a c o n h)
theorem Kp.upd {p : Addr} {H : Hp} {o : HO} : Kp p H (upd H p o) := fun _ _ n h => by rw [upd_ne n]; exact h
theorem Kp.same {p : Addr} {H0 H H' : Hp} (s : Same H0 H) (k : Kp p H H') (n : H0 p = none) : Same H0 H' := fun b o h => k b o (fun e => by rw [e, n] at h; cases h) (s b o h)
theorem same_upd {H : Hp} {p : Addr} {o : HO} (n : H p = none) : Same H (upd H p o) := fun b u h => by rw [upd_ne (ne_of_none h n)]; exact h
theorem Same.of (H : Hp) : Same H H := fun _ _ h => h
/-- isinstance(e, c), e the exception that the suite holds; its class and its dict are told in the reading -/
theorem call_isE2 {X : Cx} {a D : Addr} {oe : Obj} {cls : Value} {d : Option Addr} {pn : List (Addr × Obj)} (C : ExcC X.K D) (hz : Zc cls d oe) (hf : ∃ vs, oe.data = .fields vs) :
    CallR (X.suite a ((a, oe) :: pn)) (.builtin "isinstance") (fun xs H Q => cls = .ref D ∧ d = none ∧ rIsE X.K D a xs H Q) := by
  intro pins s σ H xs us Q I r h
  obtain ⟨rfl, rfl, h⟩ := h
  exact call_isE C hz hf pins s σ H xs us Q I r h
/-- an error of the class at S is what «except S» names -/
theorem exm_self {K : PySem.W.Frag} {S : Addr} (h1 : PySem.W.subIn K (.ref S) (.type "BaseException") = some true) (h2 : PySem.W.isClsIn K S = true) (h3 : PySem.W.typeIn K (.ref S) = some (.type "type")) (h4 : PySem.W.subIn K (.ref S) (.ref S) = some true) :
    PySem.W.exmOne K (.ref S) (.ref S) = some true := by
  have e1 : (PySem.W.subIn K (.ref S) (.type "BaseException") == some true) = true := by rw [h1] <;> rfl
  have e2 : ((PySem.W.clsIn K S).isSome && PySem.W.typeIn K (.ref S) == some (.type "type")) = true := by
    have h2' : (PySem.W.clsIn K S).isSome = true := h2
    rw [h2', h3] <;> rfl
  show (if (PySem.W.subIn K (.ref S) (.type "BaseException") == some true) = true then (if ((PySem.W.clsIn K S).isSome && PySem.W.typeIn K (.ref S) == some (.type "type")) = true then PySem.W.subIn K (.ref S) (.ref S) else none) else none) = some true
  rw [if_pos e1, if_pos e2]
  exact h4
/-- x is True, x is False: whatever x is -/
theorem op_isB {X : Cx} : OpR X (compareOp .Is) (fun x y H Q => ∃ b, y = .bl b ∧ Q (.bl (decide (x = .bl b))) H) := by
  intro pins s σ H x y v u Q I rx ry h
  obtain ⟨b, rfl, q⟩ := h
  cases (show u = Value.bool b from ry)
  have fin : ∀ k : Bool, decide (x = .bl b) = k → EP X pins σ Q (.bool k) s := fun k e => ⟨.bl k, H, I, rfl, by rw [← e]; exact q⟩
  cases x with
  | non => cases (show v = Value.none from rx); exact wpAny_pure (fin _ (by simp))
  | bl c =>
    cases (show v = Value.bool c from rx)
    refine wpAny_pure (fin _ ?_)
    by_cases e : c = b
    · subst e; simp
    · simp [e]
  | int i => obtain ⟨t, e⟩ := (show ∃ t, v = Value.int i t from rx); subst e; exact wpAny_pure (fin _ (by simp))
  | str i => obtain ⟨t, e⟩ := (show ∃ t, v = Value.str i t from rx); subst e; exact wpAny_pure (fin _ (by simp))
  | byt i => obtain ⟨t, e⟩ := (show ∃ t, v = Value.bytes i t from rx); subst e; exact wpAny_pure (fin _ (by simp))
  | flt i => obtain ⟨t, e⟩ := (show ∃ t, v = Value.float i t from rx); subst e; exact wpAny_pure (fin _ (by simp))
  | ref a => cases (show v = Value.ref a from rx); exact wpAny_pure (fin _ (by simp))
  | ty n => cases (show v = Value.type n from rx); exact wpAny_pure (fin _ (by simp))
theorem iteDT {p A B : Prop} [Decidable p] (hp : p) (h : A) : if decide p = true then A else B := by
  rw [decide_eq_true hp]
  exact iteT h
theorem iteDF {p A B : Prop} [Decidable p] (hp : ¬ p) (h : B) : if decide p = true then A else B := by
  rw [decide_eq_false hp]
  exact iteF h
/-! ### operators of an own class, called by their signs -/
theorem inst_of {X : Cx} {pins : List (Addr × Obj)} {σ : L2.St} {H : Hp} {s : Shared} {a C dx : Addr} {fs : List (Str × V)} (I : Inv X pins σ H s) (h : H a = some (.ins C dx fs)) :
    ∃ (ox : Obj) (od : Option Obj), PySem.W.InstAt s.heap a ox C od ∧ ox.data = .plain := by
  obtain ⟨mA, O, _⟩ := ins_get I.hok h
  obtain ⟨od, J, _⟩ := O.look
  exact ⟨_, _, J, rfl⟩
theorem back_of {X : Cx} {pins : List (Addr × Obj)} {σ : L2.St} {Q : VK} {u : Value} {s : Shared} (h : EP X pins σ Q u s) : PySem.W.CmpBack (EP X pins σ Q) u s := by
  obtain ⟨v, H', I, r, q⟩ := id h
  cases u with
  | notImplemented =>
    cases v <;> first
      | exact (nomatch (show Value.notImplemented = _ from r))
      | (obtain ⟨t, e⟩ := (show ∃ t, Value.notImplemented = _ from r); cases e)
  | _ => exact h
/-- what the text has of an operator's method: run it on two values; A: where the call stands -/
theorem met_runA {X : Cx} {CX : CXT} {A : Around} {k j : Nat} {C : Addr} {m : Str} {sp : Sp} {E : XK} (c : Met CX X.prog X.w X.K X.mg X.base k C m sp) (hr : Room j A) (hk : k ≤ j) (hx : Passes CX X E)
    (hA : ∀ (s : Shared) (H : Hp), Env0 X.prog X.w X.K X.mg X.base X.A X.stack s H → Env0 X.prog X.w X.K X.mg X.base A X.stack s H) :
    ∃ f : Addr, PySem.W.findIn X.K (.ref C) m = some (some (.ref f)) ∧ PySem.W.isFn X.K (.ref f) = true ∧ PySem.W.keepIn X.K (.ref f) = true ∧
      ∀ (pins : List (Addr × Obj)) (s : Shared) (σ : L2.St) (H : Hp) (us : List Value) (vs : List V) (Q : VK), Inv X pins σ H s → Vals vs us → sp vs H Q E → wpAny (model X.prog X.w) A (call (.ref f) us) (EP X pins σ Q) X.xe s := by
  obtain ⟨f, fd, ps, hc, hm, F, b⟩ := c.ex
  refine ⟨f, hm.at_, hm.fn, hm.kp, fun pins s σ H us vs Q I r h => ?_⟩
  have hl : us.length = ps.length := by rw [← r.length]; exact F.len _ _ _ _ h
  have hb := b s us I.kIn (by rw [List.append_nil]; exact hl)
  rw [List.append_nil] at hb
  refine wpAny_call (codeAny_mono (F.run A X.stack s H ⟨us, []⟩ us vs Q E (hr.mono hk) (hA _ _ I.env0) hb r h) fun r s' hq => ?_)
  match r with
  | .error e => exact hx pins σ H s e s' I hq
  | .ok (.ret u) => exact I.after hq
  | .ok .next => exact False.elim hq
  | .ok .brk => exact False.elim hq
  | .ok .cont => exact False.elim hq
theorem met_run {X : Cx} {CX : CXT} {k j : Nat} {C : Addr} {m : Str} {sp : Sp} {E : XK} (c : Met CX X.prog X.w X.K X.mg X.base k C m sp) (hr : Room j X.A) (hk : k ≤ j) (hx : Passes CX X E) :
    ∃ f : Addr, PySem.W.findIn X.K (.ref C) m = some (some (.ref f)) ∧ PySem.W.isFn X.K (.ref f) = true ∧ PySem.W.keepIn X.K (.ref f) = true ∧
      ∀ (pins : List (Addr × Obj)) (s : Shared) (σ : L2.St) (H : Hp) (us : List Value) (vs : List V) (Q : VK), Inv X pins σ H s → Vals vs us → sp vs H Q E → wpAny (model X.prog X.w) X.A (call (.ref f) us) (EP X pins σ Q) X.xe s := met_runA c hr hk hx fun _ _ z => z
section
variable {X : Cx} {CX : CXT} {k j : Nat} {C : Addr} {m : Str} {sp : Sp} {E : XK}
def rOwn2 (C : Addr) (sp : Sp) (E : XK) : R2 := fun x y H Q => ∃ (a b dx dy : Addr) (fs gs : List (Str × V)), x = .ref a ∧ y = .ref b ∧ H a = some (.ins C dx fs) ∧ H b = some (.ins C dy gs) ∧ sp [x, y] H Q E
/-- x op y, both of one own class that has the method -/
theorem op_own {op : Operator} (c : Met CX X.prog X.w X.K X.mg X.base k C m sp) (hr : Room j X.A) (hk : k ≤ j) (hx : Passes CX X E) (sf : PySem.W.selfFirst X.K C = true) (hm : PySem.dunder op.info.2 = m := by decide +kernel) :
    OpR X (binaryOp op) (rOwn2 C sp E) := by
  intro pins s σ H x y v u Q I rx ry h
  obtain ⟨a, b, dx, dy, fs, gs, rfl, rfl, ha, hb, hs⟩ := h
  obtain ⟨f, hf, fn, kp, run⟩ := met_run c hr hk hx
  obtain ⟨mF, F⟩ := I.fr
  obtain ⟨ox, od, J, _⟩ := inst_of I ha
  obtain ⟨oy, oe, J2, _⟩ := inst_of I hb
  have r2 : Vals [V.ref a, V.ref b] [v, u] := .cons rx (.cons ry .nil)
  cases (show v = Value.ref a from rx)
  cases (show u = Value.ref b from ry)
  exact PySem.W.binop_K F I.ok.mod.kin J J2.type sf (by rw [hm]; exact hf) fn (wpAny_mono (run pins s σ H _ _ Q I r2 hs) (fun _ _ z => back_of z) fun _ _ z => z)
def rOwnI (C : Addr) (sp : Sp) (E : XK) : R2 := fun x y H Q => ∃ (a dx : Addr) (fs : List (Str × V)) (i : Int), x = .ref a ∧ y = .int i ∧ H a = some (.ins C dx fs) ∧ sp [x, y] H Q E
/-- x op i, i a whole number -/
theorem op_ownI {op : Operator} (c : Met CX X.prog X.w X.K X.mg X.base k C m sp) (hr : Room j X.A) (hk : k ≤ j) (hx : Passes CX X E) (sf : PySem.W.selfFirst X.K C = true)
    (hrc : ∃ rc, PySem.W.findIn X.K (.ref C) (dunderR op.info.2) = some rc ∧ (rc = none ∨ ∃ g : Addr, rc = some (.ref g)))
    (h1 : ∃ fo, PySem.W.findIn X.K (.type "int") (PySem.dunder op.info.2) = some fo) (h2 : ∃ ro, PySem.W.findIn X.K (.type "int") (dunderR op.info.2) = some ro) (hsub : PySem.W.subIn X.K (.type "int") (.ref C) = some false)
    (hm : PySem.dunder op.info.2 = m := by decide +kernel) : OpR X (binaryOp op) (rOwnI C sp E) := by
  intro pins s σ H x y v u Q I rx ry h
  obtain ⟨a, dx, fs, i, rfl, rfl, ha, hs⟩ := h
  obtain ⟨f, hf, fn, kp, run⟩ := met_run c hr hk hx
  obtain ⟨rc, hrc, hp⟩ := hrc
  obtain ⟨fo, h1⟩ := h1
  obtain ⟨ro, h2⟩ := h2
  obtain ⟨mF, F⟩ := I.fr
  obtain ⟨ox, od, J, _⟩ := inst_of I ha
  have r2 : Vals [V.ref a, V.int i] [v, u] := .cons rx (.cons ry .nil)
  cases (show v = Value.ref a from rx)
  obtain ⟨t, et⟩ := (show ∃ t, u = Value.int i t from ry)
  subst et
  exact PySem.W.ksp_binT (T := "int") F I.ok.mod.kin J rfl sf (by rw [hm]; exact hf) fn hrc hp h1 h2 hsub (wpAny_mono (run pins s σ H _ _ Q I r2 hs) (fun _ _ z => back_of z) fun _ _ z => z)
def rOwn1 (C : Addr) (sp : Sp) (E : XK) : V → Hp → VK → Prop := fun x H Q => ∃ (a dx : Addr) (fs : List (Str × V)), x = .ref a ∧ H a = some (.ins C dx fs) ∧ sp [x] H Q E
/-- -x -/
theorem un_own (c : Met CX X.prog X.w X.K X.mg X.base k C "__neg__" sp) (hr : Room j X.A) (hk : k ≤ j) (hx : Passes CX X E) : UnR X (unaryOp .USub) (rOwn1 C sp E) := by
  intro pins s σ H x v Q I rx h
  obtain ⟨a, dx, fs, rfl, ha, hs⟩ := h
  obtain ⟨f, hf, fn, kp, run⟩ := met_run c hr hk hx
  obtain ⟨mF, F⟩ := I.fr
  obtain ⟨ox, od, J, _⟩ := inst_of I ha
  have r1 : Vals [V.ref a] [v] := .cons rx .nil
  cases (show v = Value.ref a from rx)
  exact PySem.W.ksp_neg F I.ok.mod.kin J hf fn (run pins s σ H _ _ Q I r1 hs)
/-- int's method finds no int in an own instance -/
theorem int_declines {prog : Program} {w : World} {A : Around} {Er : Value → Shared → Prop} {s : Shared} {x D : Addr} {ox : Obj} {od : Option Obj} {i : Int} {t : Tok} {nm : String} {id : String} {nmB : String} {f : Int → Int → Sem Fin} {Q : Option Value → Shared → Prop}
    (J : PySem.W.InstAt s.heap x ox D od) (hd : ox.data = .plain) (slot : Slot "int" (PySem.dunder nm) id) (entry : entryFor table id = some (Builtin.Int.intBinary nmB f)) (args : argsOk id ⟨[.int i t, .ref x], []⟩) (h : Q none s) :
    wpAny (model prog w) A (tryMethod (.int i t) (PySem.dunder nm) (.ref x)) Q Er s := by
  refine wpAny_tryMethod_declines (typeIs_int s i t) slot ?_
  refine GQ.call_here slot (typeIs_int s i t) entry args ?_
  unfold Builtin.Int.intBinary
  obtain ⟨hp, g, d, tk, os⟩ := s
  obtain ⟨oc, odd, odt, osl⟩ := ox
  dsimp only at hd
  subst hd
  have hx : hp.get? x = some _ := J.1
  wp_walk using AutoSeq1.wpAny_loadPart' hx
  exact ⟨rfl, h⟩
end
def rIOwn (C : Addr) (sp : Sp) (E : XK) : R2 := fun x y H Q => ∃ (a dx : Addr) (fs : List (Str × V)) (i : Int), x = .int i ∧ y = .ref a ∧ H a = some (.ins C dx fs) ∧ sp [y, x] H Q E
/-- i op x, i a whole number: x's reflected method -/
theorem op_Iown {X : Cx} {CX : CXT} {k j : Nat} {C : Addr} {sp : Sp} {E : XK} {op : Operator} {nm id nmB : String} {f : Int → Int → Sem Fin} (hop : op.info.2 = nm)
    (slot : Slot "int" (PySem.dunder nm) id) (entry : entryFor table id = some (Builtin.Int.intBinary nmB f)) (args : ∀ (i : Int) (t : Tok) (x : Addr), argsOk id ⟨[.int i t, .ref x], []⟩) (fills : fillsNumberSlot (.type "int") nm = pure true)
    (c : Met CX X.prog X.w X.K X.mg X.base k C (dunderR nm) sp) (hr : Room j X.A) (hk : k ≤ j) (hx : Passes CX X E) (sf : PySem.W.selfFirst X.K C = true)
    (hs : ∃ g : Addr, PySem.W.findIn X.K (.ref C) (PySem.dunder nm) = some (some (.ref g))) (hsub : PySem.W.subIn X.K (.ref C) (.type "int") = some false) : OpR X (binaryOp op) (rIOwn C sp E) := by
  intro pins s σ H x y v u Q I rx ry h
  obtain ⟨a, dx, fs, i, rfl, rfl, ha, hsp⟩ := h
  obtain ⟨g, hs⟩ := hs
  obtain ⟨f, hf, fn, kp, run⟩ := met_run c hr hk hx
  obtain ⟨ox, od, J, hd⟩ := inst_of I ha
  have r2 : Vals [V.ref a, V.int i] [u, v] := .cons ry (.cons rx .nil)
  cases (show u = Value.ref a from ry)
  obtain ⟨t, et⟩ := (show ∃ t, v = Value.int i t from rx)
  subst et
  have one := PySem.W.ksp_try (M := model X.prog X.w) (A := X.A) (name := dunderR nm) (b := .int i t) I.kIn J hf fn (wpAny_mono (run pins s σ H _ _ Q I r2 hsp) (fun _ _ z => back_of z) fun _ _ z => z)
  obtain ⟨cd, rest, hcd, hmr⟩ := PySem.W.ksp_first sf
  have K1 : X.K.In s.heap := I.kIn
  rcases hi : op.info with ⟨sym, nm'⟩
  rw [hi] at hop
  dsimp only at hop
  subst hop
  have L2 : PySem.W.Looks (model X.prog X.w) s.heap (typeOf (.ref a)) (.ref C) := J.type
  have L4 : PySem.W.Looks (model X.prog X.w) s.heap (fillsNumberSlot (.ref C) nm') true := PySem.W.fills_K K1 hcd hmr hs
  have L5 : PySem.W.Looks (model X.prog X.w) s.heap (isSubtype (.ref C) (.type "int")) false := PySem.W.looks_subIn K1 hsub
  have hne : (Value.type "int" == Value.ref C) = false := Bool.eq_false_iff.mpr fun q => by cases beq_iff_eq.mp q
  have hpy : numberSlotInPython (.type "int") nm' = pure false := rfl
  simp only [binaryOp, hi]
  refine wpAny_holding (wpAny_bind ?_)
  unfold binaryOp1
  refine wpAny_bind (wpAny_typeOf (typeIs_int s i t) (wpAny_bind (L2.here (wpAny_bind (wpAny_of_eq fills ?_)))))
  simp only [hne, Bool.false_eq_true, if_false]
  refine wpAny_bind (L4.here ?_)
  simp only [Bool.and_self, if_true]
  refine wpAny_bind (L5.here ?_)
  simp only [Bool.false_eq_true, if_false, pure_bind, Bool.not_false, Bool.and_self, if_true, hpy]
  refine wpAny_bind (int_declines J hd slot entry (args i t a) ?_)
  dsimp only
  refine wpAny_bind (wpAny_mono one (fun r s' hr' => ?_) fun _ _ e => e)
  obtain ⟨v, rfl, hq⟩ := hr'
  exact wpAny_bind (wpAny_rule (wpAny_pure (wpAny_pure hq)))
/-- abs(x), x an own instance -/
theorem call_absO {X : Cx} {CX : CXT} {k j : Nat} {C : Addr} {sp : Sp} {E : XK} (c : Met CX X.prog X.w X.K X.mg X.base k C "__abs__" sp) (hr : Room j X.A) (hk : k + 1 ≤ j) (hx : Passes CX X E) :
    CallR X (.builtin "abs") (fun xs H Q => ∃ x, xs = [x] ∧ rOwn1 C sp E x H Q) := by
  intro pins s σ H xs us Q I r h
  obtain ⟨x, rfl, a, dx, fs, rfl, ha, hs⟩ := h
  obtain ⟨f, hf, fn, kp, run⟩ := met_runA c (hr.mono hk).in1 (Nat.le_refl _) hx (fun _ _ z => z.in1)
  obtain ⟨ox, od, J, _⟩ := inst_of I ha
  have r0 := r
  obtain ⟨u, rfl, ru⟩ := vals1 r
  cases (show u = Value.ref a from ru)
  have h1 := run pins s σ H _ _ Q I r0 hs
  refine PySem.Calls.call_function_entry PyProof.Rows.kind_abs PyProof.Rows.plain_abs PyProof.Rows.entry_abs (PyProof.Rows.args_abs _) ?_
  unfold Builtin.«abs»
  refine wpAny_bind (m := oneArg "abs" _) (wpAny_pure ?_)
  refine wpAny_bind (m := callSpecial? (.ref a) (Str.ofString "__abs__")) (PySem.W.special_fn I.kIn J hf (beq_iff_eq.mp fn) (wpAny_mono h1 (fun v s' hv => ?_) fun _ _ z => z))
  exact wpAny_pure ⟨_, rfl, hv⟩
theorem UnR.or {X : Cx} {f : Value → Sem Value} {r r' : V → Hp → VK → Prop} (h : UnR X f r) (h' : UnR X f r') : UnR X f (fun x H Q => r x H Q ∨ r' x H Q) := by
  intro pins s σ H x v Q I rx q
  rcases q with q | q
  · exact h pins s σ H x v Q I rx q
  · exact h' pins s σ H x v Q I rx q
theorem CallR.or {X : Cx} {f : Value} {r r' : List V → Hp → VK → Prop} (h : CallR X f r) (h' : CallR X f r') : CallR X f (fun x H Q => r x H Q ∨ r' x H Q) := by
  intro pins s σ H x v Q I rx q
  rcases q with q | q
  · exact h pins s σ H x v Q I rx q
  · exact h' pins s σ H x v Q I rx q
/-! ### the same operators where a try stands around: what is raised is wished for at the slots -/
theorem met_runS {X : Cx} {CX : CXT} {k j : Nat} {C : Addr} {m : Str} {sp : Sp} {E : L2.St → XK} (c : Met CX X.prog X.w X.K X.mg X.base k C m sp) (hr : Room j X.A) (hk : k ≤ j) (hx : ∀ σ, PassesAt CX X σ (E σ)) :
    ∃ f : Addr, PySem.W.findIn X.K (.ref C) m = some (some (.ref f)) ∧ PySem.W.isFn X.K (.ref f) = true ∧ PySem.W.keepIn X.K (.ref f) = true ∧
      ∀ (pins : List (Addr × Obj)) (s : Shared) (σ : L2.St) (H : Hp) (us : List Value) (vs : List V) (Q : VK), Inv X pins σ H s → Vals vs us → sp vs H Q (E σ) → wpAny (model X.prog X.w) X.A (call (.ref f) us) (EP X pins σ Q) X.xe s := by
  obtain ⟨f, fd, ps, hc, hm, F, b⟩ := c.ex
  refine ⟨f, hm.at_, hm.fn, hm.kp, fun pins s σ H us vs Q I r h => ?_⟩
  have hl : us.length = ps.length := by rw [← r.length]; exact F.len _ _ _ _ h
  have hb := b s us I.kIn (by rw [List.append_nil]; exact hl)
  rw [List.append_nil] at hb
  refine wpAny_call (codeAny_mono (F.run X.A X.stack s H ⟨us, []⟩ us vs Q (E σ) (hr.mono hk) I.env0 hb r h) fun r s' hq => ?_)
  match r with
  | .error e => exact hx σ pins H s e s' I hq
  | .ok (.ret u) => exact I.after hq
  | .ok .next => exact False.elim hq
  | .ok .brk => exact False.elim hq
  | .ok .cont => exact False.elim hq
def OpRS (X : Cx) (f : Value → Value → Sem Value) (r : L2.St → R2) : Prop :=
  ∀ (pins : List (Addr × Obj)) (s : Shared) (σ : L2.St) (H : Hp) (x y : V) (v u : Value) (Q : VK), Inv X pins σ H s → RelV x v → RelV y u → r σ x y H Q →
    wpAny (model X.prog X.w) X.A (f v u) (EP X pins σ Q) X.xe s
def tOpS (r : L2.St → R2) (ta tb : TE) : TE := fun σ H Q => ta σ H fun x H1 => tb σ H1 fun y H2 => r σ x y H2 Q
theorem pe_opS {X : Cx} {a b : Expr} {ta tb : TE} {pos : Pos} {op : Operator} {r : L2.St → R2} (ho : OpRS X (binaryOp op) r) (ha : PE X a ta) (hb : PE X b tb) : PE X (.BinOp a op b pos) (tOpS r ta tb) := by
  refine ⟨fun pins s σ H Q I h => ?_⟩
  exact wpAny_BinOp (binT (R := fun x y H2 => r σ x y H2 Q) ha hb I h fun v u s2 x y H2 I2 rx ry q => ho pins s2 σ H2 x y v u Q I2 rx ry q)
theorem OpRS.or {X : Cx} {f : Value → Value → Sem Value} {r r' : L2.St → R2} (h : OpRS X f r) (h' : OpRS X f r') : OpRS X f (fun σ x y H Q => r σ x y H Q ∨ r' σ x y H Q) := by
  intro pins s σ H x y v u Q I rx ry q
  rcases q with q | q
  · exact h pins s σ H x y v u Q I rx ry q
  · exact h' pins s σ H x y v u Q I rx ry q
section
variable {X : Cx} {CX : CXT} {k j : Nat} {C : Addr} {m : Str} {sp : Sp} {E : L2.St → XK}
theorem op_ownS {op : Operator} (c : Met CX X.prog X.w X.K X.mg X.base k C m sp) (hr : Room j X.A) (hk : k ≤ j) (hx : ∀ σ, PassesAt CX X σ (E σ)) (sf : PySem.W.selfFirst X.K C = true) (hm : PySem.dunder op.info.2 = m := by decide +kernel) :
    OpRS X (binaryOp op) (fun σ => rOwn2 C sp (E σ)) := by
  intro pins s σ H x y v u Q I rx ry h
  obtain ⟨a, b, dx, dy, fs, gs, rfl, rfl, ha, hb, hs⟩ := h
  obtain ⟨f, hf, fn, kp, run⟩ := met_runS c hr hk hx
  obtain ⟨mF, F⟩ := I.fr
  obtain ⟨ox, od, J, _⟩ := inst_of I ha
  obtain ⟨oy, oe, J2, _⟩ := inst_of I hb
  have r2 : Vals [V.ref a, V.ref b] [v, u] := .cons rx (.cons ry .nil)
  cases (show v = Value.ref a from rx)
  cases (show u = Value.ref b from ry)
  exact PySem.W.binop_K F I.ok.mod.kin J J2.type sf (by rw [hm]; exact hf) fn (wpAny_mono (run pins s σ H _ _ Q I r2 hs) (fun _ _ z => back_of z) fun _ _ z => z)
theorem op_ownIS {op : Operator} (c : Met CX X.prog X.w X.K X.mg X.base k C m sp) (hr : Room j X.A) (hk : k ≤ j) (hx : ∀ σ, PassesAt CX X σ (E σ)) (sf : PySem.W.selfFirst X.K C = true)
    (hrc : ∃ rc, PySem.W.findIn X.K (.ref C) (dunderR op.info.2) = some rc ∧ (rc = none ∨ ∃ g : Addr, rc = some (.ref g)))
    (h1 : ∃ fo, PySem.W.findIn X.K (.type "int") (PySem.dunder op.info.2) = some fo) (h2 : ∃ ro, PySem.W.findIn X.K (.type "int") (dunderR op.info.2) = some ro) (hsub : PySem.W.subIn X.K (.type "int") (.ref C) = some false)
    (hm : PySem.dunder op.info.2 = m := by decide +kernel) : OpRS X (binaryOp op) (fun σ => rOwnI C sp (E σ)) := by
  intro pins s σ H x y v u Q I rx ry h
  obtain ⟨a, dx, fs, i, rfl, rfl, ha, hs⟩ := h
  obtain ⟨f, hf, fn, kp, run⟩ := met_runS c hr hk hx
  obtain ⟨rc, hrc, hp⟩ := hrc
  obtain ⟨fo, h1⟩ := h1
  obtain ⟨ro, h2⟩ := h2
  obtain ⟨mF, F⟩ := I.fr
  obtain ⟨ox, od, J, _⟩ := inst_of I ha
  have r2 : Vals [V.ref a, V.int i] [v, u] := .cons rx (.cons ry .nil)
  cases (show v = Value.ref a from rx)
  obtain ⟨t, et⟩ := (show ∃ t, u = Value.int i t from ry)
  subst et
  exact PySem.W.ksp_binT (T := "int") F I.ok.mod.kin J rfl sf (by rw [hm]; exact hf) fn hrc hp h1 h2 hsub (wpAny_mono (run pins s σ H _ _ Q I r2 hs) (fun _ _ z => back_of z) fun _ _ z => z)
end
/-- x == y, x < y .., both of one own class that has the method -/
theorem op_cmpO {X : Cx} {CX : CXT} {k j : Nat} {C : Addr} {m : Str} {sp : Sp} {E : XK} {op : CmpOp} (c : Met CX X.prog X.w X.K X.mg X.base k C m sp) (hr : Room j X.A) (hk : k ≤ j) (hx : Passes CX X E)
    (hop : ∀ v u : Value, compareOp op v u = richCompare op v u := by intro _ _; rfl) (hm : (cmpInfo op).2.1 = m := by decide +kernel) : OpR X (compareOp op) (rOwn2 C sp E) := by
  intro pins s σ H x y v u Q I rx ry h
  obtain ⟨a, b, dx, dy, fs, gs, rfl, rfl, ha, hb, hs⟩ := h
  obtain ⟨f, hf, fn, kp, run⟩ := met_run c hr hk hx
  obtain ⟨mF, F⟩ := I.fr
  obtain ⟨ox, od, J, _⟩ := inst_of I ha
  obtain ⟨oy, oe, J2, _⟩ := inst_of I hb
  have r2 : Vals [V.ref a, V.ref b] [v, u] := .cons rx (.cons ry .nil)
  cases (show v = Value.ref a from rx)
  cases (show u = Value.ref b from ry)
  rw [hop]
  have hu : X.A.units < cLine := by have := hr.un; omega
  exact PySem.W.cmp_K hu F I.ok.mod.kin J J2.type (by unfold PySem.W.notFirst; simp) (by rw [hm]; exact hf) fn (wpAny_mono (run pins s σ H _ _ Q I r2 hs) (fun _ _ z => back_of z) fun _ _ z => z)
/-! ### the fraction: lowest terms -/
/-- the common divisor with the sign of the denominator -/
def cmn (n d : Int) : Int := if d < 0 then -((Nat.gcd n.natAbs d.natAbs : Nat) : Int) else ((Nat.gcd n.natAbs d.natAbs : Nat) : Int)
def rN (n d : Int) : Int := n.fdiv (cmn n d)
def rD (n d : Int) : Int := d.fdiv (cmn n d)
theorem gcd_pos {n d : Int} (h : d ≠ 0) : 0 < Nat.gcd n.natAbs d.natAbs := Nat.gcd_pos_of_pos_right _ (by omega)
theorem cmn_ne {n d : Int} (h : d ≠ 0) : cmn n d ≠ 0 := by
  have g := gcd_pos (n := n) h
  unfold cmn
  split <;> omega
theorem cmn_natAbs (n d : Int) : (cmn n d).natAbs = Nat.gcd n.natAbs d.natAbs := by
  unfold cmn
  split <;> omega
theorem cmn_dvd_n (n d : Int) : cmn n d ∣ n := Int.natAbs_dvd_natAbs.mp (by rw [cmn_natAbs]; exact Nat.gcd_dvd_left _ _)
theorem cmn_dvd_d (n d : Int) : cmn n d ∣ d := Int.natAbs_dvd_natAbs.mp (by rw [cmn_natAbs]; exact Nat.gcd_dvd_right _ _)
theorem rN_mul (n d : Int) : cmn n d * rN n d = n := Int.mul_fdiv_cancel' (cmn_dvd_n n d)
theorem rD_mul (n d : Int) : cmn n d * rD n d = d := Int.mul_fdiv_cancel' (cmn_dvd_d n d)
theorem rD_pos {n d : Int} (h : d ≠ 0) : 1 ≤ rD n d := by
  have e := rD_mul n d
  have g := gcd_pos (n := n) h
  by_cases hd : d < 0
  · have c : cmn n d < 0 := by unfold cmn; rw [if_pos hd]; omega
    have : ¬ rD n d ≤ 0 := fun z => by
      have := Int.mul_nonneg_of_nonpos_of_nonpos (Int.le_of_lt c) z
      omega
    omega
  · have c : 0 < cmn n d := by unfold cmn; rw [if_neg hd]; omega
    have : ¬ rD n d ≤ 0 := fun z => by
      have := Int.mul_nonpos_of_nonneg_of_nonpos (Int.le_of_lt c) z
      omega
    omega
theorem r_cross (n d : Int) : rN n d * d = n * rD n d := by
  have e1 := rN_mul n d
  have e2 := rD_mul n d
  calc rN n d * d = rN n d * (cmn n d * rD n d) := by rw [e2]
    _ = (cmn n d * rN n d) * rD n d := by rw [← Int.mul_assoc, Int.mul_comm (rN n d)]
    _ = n * rD n d := by rw [e1]
theorem r_cop {n d : Int} (h : d ≠ 0) : Nat.gcd (rN n d).natAbs (rD n d).natAbs = 1 := by
  have g := gcd_pos (n := n) h
  have e1 : (Nat.gcd n.natAbs d.natAbs) * (rN n d).natAbs = n.natAbs := by rw [← cmn_natAbs, ← Int.natAbs_mul, rN_mul]
  have e2 : (Nat.gcd n.natAbs d.natAbs) * (rD n d).natAbs = d.natAbs := by rw [← cmn_natAbs, ← Int.natAbs_mul, rD_mul]
  have e3 : Nat.gcd n.natAbs d.natAbs * Nat.gcd (rN n d).natAbs (rD n d).natAbs = Nat.gcd n.natAbs d.natAbs := by
    rw [← Nat.gcd_mul_left, e1, e2]
  exact Nat.eq_of_mul_eq_mul_left g (by rw [e3, Nat.mul_one])
theorem rN_le {n d : Int} (h : d ≠ 0) : (rN n d).natAbs ≤ n.natAbs := by
  have g := gcd_pos (n := n) h
  have e1 : (Nat.gcd n.natAbs d.natAbs) * (rN n d).natAbs = n.natAbs := by rw [← cmn_natAbs, ← Int.natAbs_mul, rN_mul]
  calc (rN n d).natAbs ≤ Nat.gcd n.natAbs d.natAbs * (rN n d).natAbs := Nat.le_mul_of_pos_left _ g
    _ = n.natAbs := e1
theorem rD_le {n d : Int} (h : d ≠ 0) : (rD n d).natAbs ≤ d.natAbs := by
  have g := gcd_pos (n := n) h
  have e1 : (Nat.gcd n.natAbs d.natAbs) * (rD n d).natAbs = d.natAbs := by rw [← cmn_natAbs, ← Int.natAbs_mul, rD_mul]
  calc (rD n d).natAbs ≤ Nat.gcd n.natAbs d.natAbs * (rD n d).natAbs := Nat.le_mul_of_pos_left _ g
    _ = d.natAbs := e1
theorem cmn_lt {n d : Int} {k : Nat} (h : d ≠ 0) (hd : d.natAbs < 2 ^ k) : (cmn n d).natAbs < 2 ^ k := by
  rw [cmn_natAbs]
  exact Nat.lt_of_le_of_lt (Nat.gcd_le_right _ (by omega)) hd
/-! ### its object -/
theorem nd_ : ¬ (("num" : Str) = "den") := by decide +kernel
theorem dn_ : ¬ (("den" : Str) = "num") := by decide +kernel
def rfs (n d : Int) : List (Str × V) := putF "den" (.int d) (putF "num" (.int n) [])
theorem rfs_num (n d : Int) : (rfs n d).lookup ("num" : Str) = some (.int n) := by
  unfold rfs
  rw [lookup_putF, if_neg nd_, lookup_putF, if_pos rfl]
theorem rfs_den (n d : Int) : (rfs n d).lookup ("den" : Str) = some (.int d) := by
  unfold rfs
  rw [lookup_putF, if_pos rfl]
theorem rfs_no (n d : Int) {m : Str} (h1 : ¬ m = "den") (h2 : ¬ m = "num") : (rfs n d).lookup m = none := by
  unfold rfs
  rw [lookup_putF, if_neg h1, lookup_putF, if_neg h2]
  all_goals rfl
def sp_Ratio_init (C CB : Addr) : Sp := fun vs H Q E => ∃ (x dx : Addr) (n d : Int), vs = [.ref x, .int n, .int d] ∧ H x = some (.ins C dx []) ∧ d.natAbs < 2 ^ 8000 ∧
  (d = 0 → E (.ref CB) none H) ∧ (d ≠ 0 → ∀ H', H' x = some (.ins C dx (rfs (rN n d) (rD n d))) → Kp x H H' → Q .non H')
/-! ### fractions by what they are worth: the form in lowest terms is one -/
theorem r_eq {n d n' d' : Int} (h : d ≠ 0) (h' : d' ≠ 0) (e : n * d' = n' * d) : rN n d = rN n' d' ∧ rD n d = rD n' d' := by
  have p1 := rD_pos (n := n) h
  have p2 := rD_pos (n := n') h'
  have c1 := r_cop (n := n) h
  have c2 := r_cop (n := n') h'
  have x1 := r_cross n d
  have x2 := r_cross n' d'
  generalize rN n d = a at *
  generalize rD n d = b at *
  generalize rN n' d' = a' at *
  generalize rD n' d' = b' at *
  have k : a * b' = a' * b := by
    have z : (a * b') * (d * d') = (a' * b) * (d * d') := by
      have e1 : (a * b') * (d * d') = (a * d) * (b' * d') := by grind
      have e2 : (a' * b) * (d * d') = (a' * d') * (b * d) := by grind
      rw [e1, e2, x1, x2]
      have e3 : n * b * (b' * d') = (n * d') * (b * b') := by grind
      have e4 : n' * b' * (b * d) = (n' * d) * (b * b') := by grind
      rw [e3, e4, e]
    exact Int.eq_of_mul_eq_mul_right (Int.mul_ne_zero h h') z
  have kn : a.natAbs * b'.natAbs = a'.natAbs * b.natAbs := by rw [← Int.natAbs_mul, ← Int.natAbs_mul, k]
  have d1 : b.natAbs ∣ b'.natAbs := Nat.Coprime.dvd_of_dvd_mul_left (Nat.Coprime.symm c1) ⟨a'.natAbs, by rw [kn, Nat.mul_comm]⟩
  have d2 : b'.natAbs ∣ b.natAbs := Nat.Coprime.dvd_of_dvd_mul_left (Nat.Coprime.symm c2) ⟨a.natAbs, by rw [← kn, Nat.mul_comm]⟩
  have eb : b.natAbs = b'.natAbs := Nat.dvd_antisymm d1 d2
  have eb' : b = b' := by omega
  subst eb'
  exact ⟨Int.eq_of_mul_eq_mul_right (by omega) k, rfl⟩
/-- at a stands the fraction T / B -/
def RV (C : Addr) (H : Hp) (a : Addr) (T B : Int) : Prop := ∃ dx : Addr, H a = some (.ins C dx (rfs (rN T B) (rD T B)))
theorem RV.same {C : Addr} {H H' : Hp} {a : Addr} {T B : Int} (h : RV C H a T B) (s : Same H H') : RV C H' a T B := by
  obtain ⟨dx, e⟩ := h
  exact ⟨dx, s _ _ e⟩
theorem RV.eq {C : Addr} {H : Hp} {a : Addr} {T B T' B' : Int} (h : RV C H a T B) (hb : B ≠ 0) (hb' : B' ≠ 0) (e : T * B' = T' * B) : RV C H a T' B' := by
  obtain ⟨dx, z⟩ := h
  obtain ⟨e1, e2⟩ := r_eq hb hb' e
  exact ⟨dx, by rw [← e1, ← e2]; exact z⟩
/-- a fraction, or a whole number -/
def NumV (C : Addr) (H : Hp) (x : V) (T B : Int) : Prop := (∃ a, x = .ref a ∧ RV C H a T B) ∨ (x = .int T ∧ B = 1)
theorem NumV.same {C : Addr} {H H' : Hp} {x : V} {T B : Int} (h : NumV C H x T B) (s : Same H H') : NumV C H' x T B := by
  rcases h with ⟨a, e, r⟩ | h
  · exact .inl ⟨a, e, r.same s⟩
  · exact .inr h
theorem mk_same {H J : Hp} {x dx C : Addr} (hx : H x = none) (hdx : H dx = none) (k : Kp x (upd (upd H dx (.own x)) x (.ins C dx [])) J) : Same H J := fun b o e => k b o (ne_of_none e hx) (by
  rw [upd_ne (ne_of_none e hx), upd_ne (ne_of_none e hdx)]
  exact e)
abbrev Bd (n : Int) (k : Nat) : Prop := n.natAbs < 2 ^ k
theorem Bd.n {T B : Int} {k : Nat} (h : Bd T k) (hb : B ≠ 0) : Bd (rN T B) k := Nat.lt_of_le_of_lt (rN_le hb) h
theorem Bd.d {T B : Int} {k : Nat} (h : Bd B k) (hb : B ≠ 0) : Bd (rD T B) k := Nat.lt_of_le_of_lt (rD_le hb) h
theorem Bd.mul {a b : Int} {j k : Nat} (h : Bd a j) (g : Bd b k) : Bd (a * b) (j + k) := wide_lt h g
theorem Bd.add {a b : Int} {k : Nat} (h : Bd a k) (g : Bd b k) : Bd (a + b) (k + 1) := by
  have h' : a.natAbs < 2 ^ k := h
  have g' : b.natAbs < 2 ^ k := g
  show (a + b).natAbs < 2 ^ (k + 1)
  rw [Nat.pow_succ]
  omega
theorem Bd.neg {a : Int} {k : Nat} (h : Bd a k) : Bd (-a) k := by
  show (-a).natAbs < 2 ^ k
  rw [Int.natAbs_neg]
  exact h
theorem Bd.le {a : Int} {j k : Nat} (h : Bd a j) (le : j ≤ k) : Bd a k := Nat.lt_of_lt_of_le h (Nat.pow_le_pow_right (by decide) le)
def sp_Rof (C : Addr) : Sp := fun vs H Q _ => ∃ (x : V) (T B : Int), vs = [x] ∧ NumV C H x T B ∧ ∀ (H' : Hp) (p : Addr), Same H H' → RV C H' p T B → Q (.ref p) H'
def sp_Rneg (C : Addr) : Sp := fun vs H Q _ => ∃ (a : Addr) (T B : Int), vs = [.ref a] ∧ RV C H a T B ∧ B ≠ 0 ∧ Bd B 4000 ∧ ∀ (H' : Hp) (p : Addr), Same H H' → RV C H' p (-T) B → Q (.ref p) H'
def sp_Rabs (C : Addr) : Sp := fun vs H Q _ => ∃ (a : Addr) (T B : Int), vs = [.ref a] ∧ RV C H a T B ∧ 0 < B ∧ Bd B 4000 ∧ ∀ (H' : Hp) (p : Addr), Same H H' → RV C H' p (if T < 0 then -T else T) B → Q (.ref p) H'
/-- both operands, and what the result is worth -/
def sp_R2 (C : Addr) (f g : Int → Int → Int → Int → Int) : Sp := fun vs H Q _ => ∃ (a : Addr) (y : V) (T B U D : Int), vs = [.ref a, y] ∧ RV C H a T B ∧ NumV C H y U D ∧ B ≠ 0 ∧ D ≠ 0 ∧ Bd T 1000 ∧ Bd B 1000 ∧ Bd U 1000 ∧ Bd D 1000 ∧
  ∀ (H' : Hp) (p : Addr), Same H H' → RV C H' p (f T B U D) (g T B U D) → Q (.ref p) H'
abbrev fAdd : Int → Int → Int → Int → Int := fun T B U D => T * D + U * B
abbrev fSub : Int → Int → Int → Int → Int := fun T B U D => T * D - U * B
abbrev fRsub : Int → Int → Int → Int → Int := fun T B U D => U * B - T * D
abbrev fMul : Int → Int → Int → Int → Int := fun T _ U _ => T * U
abbrev fDen : Int → Int → Int → Int → Int := fun _ B _ D => B * D
/-- the same, the right one a whole number -/
def sp_R2i (C : Addr) (f g : Int → Int → Int → Int → Int) : Sp := fun vs H Q _ => ∃ (a : Addr) (y : V) (T B U D : Int), vs = [.ref a, y] ∧ RV C H a T B ∧ (∃ i : Int, y = .int i) ∧ NumV C H y U D ∧ B ≠ 0 ∧ D ≠ 0 ∧ Bd T 1000 ∧ Bd B 1000 ∧ Bd U 1000 ∧ Bd D 1000 ∧
  ∀ (H' : Hp) (p : Addr), Same H H' → RV C H' p (f T B U D) (g T B U D) → Q (.ref p) H'
theorem rN_sign {n d : Int} (h : 0 < d) : (rN n d < 0 ↔ n < 0) ∧ (0 < rN n d ↔ 0 < n) ∧ (rN n d = 0 ↔ n = 0) := by
  have e := r_cross n d
  have p := rD_pos (n := n) (by omega : d ≠ 0)
  generalize rN n d = a at *
  generalize rD n d = b at *
  have hb : 0 < b := by omega
  rcases Int.lt_trichotomy a 0 with ha | ha | ha
  · have h1 : a * d < 0 := Int.mul_neg_of_neg_of_pos ha h
    have h2 : n < 0 := by
      rcases Int.lt_trichotomy n 0 with hn | hn | hn
      · exact hn
      · rw [hn, Int.zero_mul] at e; omega
      · have := Int.mul_pos hn hb; omega
    omega
  · rw [ha, Int.zero_mul] at e
    have h2 : n = 0 := by
      rcases Int.mul_eq_zero.mp e.symm with z | z
      · exact z
      · omega
    omega
  · have h1 : 0 < a * d := Int.mul_pos ha h
    have h2 : 0 < n := by
      rcases Int.lt_trichotomy n 0 with hn | hn | hn
      · have := Int.mul_neg_of_neg_of_pos hn hb; omega
      · rw [hn, Int.zero_mul] at e; omega
      · exact hn
    omega
theorem rN_zero {n d : Int} (h : d ≠ 0) : rN n d = 0 ↔ n = 0 := by
  have e := r_cross n d
  have p := rD_pos (n := n) h
  constructor
  · intro z
    rw [z, Int.zero_mul] at e
    rcases Int.mul_eq_zero.mp e.symm with z | z
    · exact z
    · omega
  · intro z
    have e' : rN n d * d = 0 := by rw [e, z, Int.zero_mul]
    rcases Int.mul_eq_zero.mp e' with z | z
    · exact z
    · exact absurd z h
theorem fd_scale {k a b : Int} (h : k ≠ 0) : (k * a).fdiv (k * b) = a.fdiv b := by
  by_cases hk : 0 < k
  · exact Int.mul_fdiv_mul_of_pos a b hk
  · have e1 : k * a = -((-k) * a) := by grind
    have e2 : k * b = -((-k) * b) := by grind
    rw [e1, e2, Int.neg_fdiv_neg]
    exact Int.mul_fdiv_mul_of_pos a b (by omega)
theorem fd_eq {T B U D : Int} (hb : B ≠ 0) (hd : D ≠ 0) : (rN T B * rD U D).fdiv (rD T B * rN U D) = (T * D).fdiv (B * U) := by
  have e1 := rN_mul T B
  have e2 := rD_mul T B
  have e3 := rN_mul U D
  have e4 := rD_mul U D
  have hk : cmn T B * cmn U D ≠ 0 := Int.mul_ne_zero (cmn_ne hb) (cmn_ne hd)
  have f1 : T * D = (cmn T B * cmn U D) * (rN T B * rD U D) := by grind
  have f2 : B * U = (cmn T B * cmn U D) * (rD T B * rN U D) := by grind
  rw [f1, f2, fd_scale hk]
theorem fd_pos {a b : Int} (h : 0 < b) : a.fdiv b = a / b := Int.fdiv_eq_ediv_of_nonneg a (by omega)
theorem ediv_bd {a b : Int} (h : 0 < b) : (a / b).natAbs ≤ a.natAbs := Int.natAbs_ediv_le_natAbs a b
theorem fd_bd {a b : Int} (h : b ≠ 0) : (a.fdiv b).natAbs ≤ a.natAbs := by
  by_cases hb : 0 < b
  · rw [fd_pos hb]
    exact ediv_bd hb
  · have e := Int.neg_fdiv_neg a b
    rw [← e, fd_pos (by omega), ← Int.natAbs_neg a]
    exact ediv_bd (by omega)
def sgn (x : Int) : Int := if x < 0 then -1 else if 0 < x then 1 else 0
def sp_Rfd (C CB : Addr) : Sp := fun vs H Q E => ∃ (a : Addr) (y : V) (T B U D : Int), vs = [.ref a, y] ∧ RV C H a T B ∧ NumV C H y U D ∧ B ≠ 0 ∧ D ≠ 0 ∧ Bd T 1000 ∧ Bd B 1000 ∧ Bd U 1000 ∧ Bd D 1000 ∧
  (U = 0 → ∀ H', Same H H' → E (.ref CB) none H') ∧ (U ≠ 0 → ∀ H', Same H H' → Q (.int ((T * D).fdiv (B * U))) H')
def sp_Rmod (C CB : Addr) : Sp := fun vs H Q E => ∃ (a : Addr) (y : V) (T B U D : Int), vs = [.ref a, y] ∧ RV C H a T B ∧ NumV C H y U D ∧ B ≠ 0 ∧ D ≠ 0 ∧ Bd T 200 ∧ Bd B 200 ∧ Bd U 200 ∧ Bd D 200 ∧
  (U = 0 → ∀ H', Same H H' → E (.ref CB) none H') ∧ (U ≠ 0 → ∀ (H' : Hp) (p : Addr), Same H H' → RV C H' p (T * D - (T * D).fdiv (B * U) * U * B) (B * D) → Q (.ref p) H')
def sp_Rcmp (C : Addr) : Sp := fun vs H Q _ => ∃ (a : Addr) (y : V) (T B U D : Int), vs = [.ref a, y] ∧ RV C H a T B ∧ NumV C H y U D ∧ 0 < B ∧ 0 < D ∧ Bd T 1000 ∧ Bd B 1000 ∧ Bd U 1000 ∧ Bd D 1000 ∧
  ∀ H', Same H H' → Q (.int (sgn (T * D - U * B))) H'
def sp_Req (C : Addr) : Sp := fun vs H Q _ => ∃ (a b : Addr) (T B U D : Int), vs = [.ref a, .ref b] ∧ RV C H a T B ∧ RV C H b U D ∧ B ≠ 0 ∧ D ≠ 0 ∧ Q (.bl (decide (T * D = U * B))) H
/-! ### a law's cells and pools: what is promised of them -/
def PoolAt (H : Hp) (p : Addr) : Prop := ∃ x y z : Int, H p = some (.lst [.int x, .int y, .int z])
theorem PoolAt.kp {H H' : Hp} {p q : Addr} (h : PoolAt H p) (k : Kp q H H') (n : p ≠ q) : PoolAt H' p := by
  obtain ⟨x, y, z, e⟩ := h
  exact ⟨x, y, z, k _ _ n e⟩
theorem PoolAt.same {H H' : Hp} {p : Addr} (h : PoolAt H p) (k : Same H H') : PoolAt H' p := by
  obtain ⟨x, y, z, e⟩ := h
  exact ⟨x, y, z, k _ _ e⟩
theorem at0 {α : Type} {a b c : α} : atI [a, b, c] (0 : Int) = some a := rfl
theorem at1 {α : Type} {a b c : α} : atI [a, b, c] (1 : Int) = some b := rfl
theorem at2 {α : Type} {a b c : α} : atI [a, b, c] (2 : Int) = some c := rfl
def sp_Lcell (K : PySem.W.Frag) : Sp := fun vs H Q _ => ∃ (l : Addr) (ns : List Int) (j : Nat), vs = [.ref l, .int (j : Int)] ∧ SqL K H l (ns.map V.int) ∧ ∀ c : Int, 0 ≤ c → Q (.int c) H
def sp_Lpool : Sp := fun vs H Q _ => ∃ c : Int, vs = [.int c] ∧ ∀ (p : Addr) (H' : Hp), H p = none → Same H H' → PoolAt H' p → Q (.ref p) H'
def sp_Ltake : Sp := fun vs H Q _ => ∃ (p : Addr) (many : Int), vs = [.ref p, .int many] ∧ PoolAt H p ∧ 0 < many ∧ many.natAbs < 2 ^ 300 ∧
  ∀ (H' : Hp) (r : Int), Kp p H H' → PoolAt H' p → 0 ≤ r → r < many → Q (.int r) H'
/-! ### told and due are the same data -/
def Pairs (R : V → V → Prop) (xs ys : List V) : Prop := xs.length = ys.length ∧ ∀ (i : Nat) (x y : V), xs[i]? = some x → ys[i]? = some y → R x y
def flatD : V → Bool
  | .non => true
  | .bl _ => true
  | .int _ => true
  | .str _ => true
  | _ => false
def SameV (K : PySem.W.Frag) (H : Hp) : Nat → V → V → Prop
  | 0, x, y => flatD x = true ∧ x = y
  | n + 1, x, y => (flatD x = true ∧ x = y) ∨
      (∃ (a b : Addr) (xs ys : List V), x = .ref a ∧ y = .ref b ∧ SqL K H a xs ∧ SqL K H b ys ∧ xs.length ≤ sizeLine ∧ Pairs (SameV K H n) xs ys) ∨
      (∃ (a b : Addr) (xs ys : List V), x = .ref a ∧ y = .ref b ∧ SqT K H a xs ∧ SqT K H b ys ∧ xs.length ≤ sizeLine ∧ Pairs (SameV K H n) xs ys)
def sp_Lsame (K : PySem.W.Frag) : Nat → Sp
  | 0 => fun _ _ _ _ => False
  | n + 1 => fun vs H Q _ => ∃ x y : V, vs = [x, y] ∧ SameV K H n x y ∧ Q (.bl true) H
theorem SameV.flat {K : PySem.W.Frag} {H : Hp} {n : Nat} {x : V} (h : flatD x = true) : SameV K H n x x := by
  cases n with
  | zero => exact ⟨h, rfl⟩
  | succ n => exact .inl ⟨h, rfl⟩
theorem Pairs.refl {R : V → V → Prop} {xs : List V} (h : ∀ x ∈ xs, R x x) : Pairs R xs xs := ⟨rfl, fun i x y h1 h2 => by
  rw [h1] at h2
  cases h2
  exact h x (List.mem_of_getElem? h1)⟩
theorem tyx_list {K : PySem.W.Frag} {H : Hp} {a : Addr} {xs : List V} (h : SqL K H a xs) : TyX K H (.ref a) (.type "list") := by
  rcases h with (h | ⟨o, h⟩) | ⟨o, its, n, h, c, _⟩
  · exact .base (.lst h)
  · exact .base (.frz h)
  · exact .kList h c
theorem tyx_tup {K : PySem.W.Frag} {H : Hp} {a : Addr} {xs : List V} (h : SqT K H a xs) : TyX K H (.ref a) (.type "tuple") := by
  rcases h with (h | ⟨o, h⟩) | ⟨o, its, n, h, c, _⟩
  · exact .base (.tup h)
  · exact .fTuple h
  · exact .kTuple h c
def topS (i : Nat) : Stmt := PySem.Challenge.pw_onecable_k03_ratio_floors_and_order.main.body.getD i (.Pass ⟨0, 0, 0, 0⟩)
abbrev s_Ratio_init : Stmt := inClass (topS 7) 0
theorem sc_Ratio_init : FnScope ["self", "num", "den", "common"] ["self", "num", "den"] (defScope s_Ratio_init) := ⟨rfl, rfl, rfl, by decide +kernel, rfl, by decide +kernel, by decide +kernel⟩
abbrev s_uratio_of : Stmt := topS 6
theorem sc_uratio_of : FnScope ["number"] ["number"] (defScope s_uratio_of) := ⟨rfl, rfl, rfl, by decide +kernel, rfl, by decide +kernel, by decide +kernel⟩
abbrev s_Ratio_neg : Stmt := inClass (topS 7) 5
theorem sc_Ratio_neg : FnScope ["self"] ["self"] (defScope s_Ratio_neg) := ⟨rfl, rfl, rfl, by decide +kernel, rfl, by decide +kernel, by decide +kernel⟩
abbrev s_Ratio_add : Stmt := inClass (topS 7) 7
theorem sc_Ratio_add : FnScope ["self", "other", "right"] ["self", "other"] (defScope s_Ratio_add) := ⟨rfl, rfl, rfl, by decide +kernel, rfl, by decide +kernel, by decide +kernel⟩
abbrev s_Ratio_sub : Stmt := inClass (topS 7) 9
theorem sc_Ratio_sub : FnScope ["self", "other"] ["self", "other"] (defScope s_Ratio_sub) := ⟨rfl, rfl, rfl, by decide +kernel, rfl, by decide +kernel, by decide +kernel⟩
abbrev s_Ratio_mul : Stmt := inClass (topS 7) 11
theorem sc_Ratio_mul : FnScope ["self", "other", "right"] ["self", "other"] (defScope s_Ratio_mul) := ⟨rfl, rfl, rfl, by decide +kernel, rfl, by decide +kernel, by decide +kernel⟩
abbrev s_Ratio_eq : Stmt := inClass (topS 7) 3
theorem sc_Ratio_eq : FnScope ["self", "other"] ["self", "other"] (defScope s_Ratio_eq) := ⟨rfl, rfl, rfl, by decide +kernel, rfl, by decide +kernel, by decide +kernel⟩
abbrev s_Ratio_compare : Stmt := inClass (topS 7) 4
theorem sc_Ratio_compare : FnScope ["self", "other", "difference"] ["self", "other"] (defScope s_Ratio_compare) := ⟨rfl, rfl, rfl, by decide +kernel, rfl, by decide +kernel, by decide +kernel⟩
abbrev s_Ratio_floordiv : Stmt := inClass (topS 7) 13
theorem sc_Ratio_floordiv : FnScope ["self", "other", "right"] ["self", "other"] (defScope s_Ratio_floordiv) := ⟨rfl, rfl, rfl, by decide +kernel, rfl, by decide +kernel, by decide +kernel⟩
abbrev s_Ratio_mod : Stmt := inClass (topS 7) 14
theorem sc_Ratio_mod : FnScope ["self", "other"] ["self", "other"] (defScope s_Ratio_mod) := ⟨rfl, rfl, rfl, by decide +kernel, rfl, by decide +kernel, by decide +kernel⟩
abbrev s_Lcell : Stmt := topS 9
theorem sc_Lcell : FnScope ["_law_script", "_law_at"] ["_law_script", "_law_at"] (defScope s_Lcell) := ⟨rfl, rfl, rfl, by decide +kernel, rfl, by decide +kernel, by decide +kernel⟩
abbrev s_Lpool : Stmt := topS 10
theorem sc_Lpool : FnScope ["_law_cell_here"] ["_law_cell_here"] (defScope s_Lpool) := ⟨rfl, rfl, rfl, by decide +kernel, rfl, by decide +kernel, by decide +kernel⟩
abbrev s_Ltake : Stmt := topS 11
theorem sc_Ltake : FnScope ["_law_pool_here", "_law_many", "_law_digit", "_law_mixed"] ["_law_pool_here", "_law_many"] (defScope s_Ltake) := ⟨rfl, rfl, rfl, by decide +kernel, rfl, by decide +kernel, by decide +kernel⟩
abbrev s_Lsame : Stmt := topS 12
theorem sc_Lsame : FnScope ["_law_told", "_law_due", "_law_k"] ["_law_told", "_law_due"] (defScope s_Lsame) := ⟨rfl, rfl, rfl, by decide +kernel, rfl, by decide +kernel, by decide +kernel⟩
abbrev s_Lnumber : Stmt := topS 13
theorem sc_Lnumber : FnScope ["_law_pool_here", "_law_blocks", "_law_number_here", "_law_k"] ["_law_pool_here", "_law_blocks"] (defScope s_Lnumber) := ⟨rfl, rfl, rfl, by decide +kernel, rfl, by decide +kernel, by decide +kernel⟩
abbrev s_Ldivisor : Stmt := topS 14
theorem sc_Ldivisor : FnScope ["_law_one", "_law_two", "_law_k", "_law_rest"] ["_law_one", "_law_two"] (defScope s_Ldivisor) := ⟨rfl, rfl, rfl, by decide +kernel, rfl, by decide +kernel, by decide +kernel⟩
abbrev s_Lshort : Stmt := topS 15
theorem sc_Lshort : FnScope ["_law_pool_here", "_law_number_here"] ["_law_pool_here"] (defScope s_Lshort) := ⟨rfl, rfl, rfl, by decide +kernel, rfl, by decide +kernel, by decide +kernel⟩
abbrev s_Lbelow : Stmt := topS 16
theorem sc_Lbelow : FnScope ["_law_pool_here", "_law_number_here"] ["_law_pool_here"] (defScope s_Lbelow) := ⟨rfl, rfl, rfl, by decide +kernel, rfl, by decide +kernel, by decide +kernel⟩
abbrev s_Lwhole : Stmt := topS 17
theorem sc_Lwhole : FnScope ["_law_told"] ["_law_told"] (defScope s_Lwhole) := ⟨rfl, rfl, rfl, by decide +kernel, rfl, by decide +kernel, by decide +kernel⟩
abbrev s_Lis : Stmt := topS 18
theorem sc_Lis : FnScope ["_law_told", "_law_top", "_law_bottom"] ["_law_told", "_law_top", "_law_bottom"] (defScope s_Lis) := ⟨rfl, rfl, rfl, by decide +kernel, rfl, by decide +kernel, by decide +kernel⟩
abbrev s_Lrefused : Stmt := topS 19
theorem sc_Lrefused : FnScope ["_law_one", "_law_two", "_law_first", "_law_second", "_law_kept", "e"] ["_law_one", "_law_two"] (defScope s_Lrefused) := ⟨rfl, rfl, rfl, by decide +kernel, rfl, by decide +kernel, by decide +kernel⟩
abbrev s_law : Stmt := topS 20
theorem sc_law : FnScope ["_law_script", "_law_top", "_law_bottom", "_law_high", "_law_low", "_law_times", "_law_way", "_law_one", "_law_two", "_law_cross", "_law_due", "_law_size", "_law_part", "_law_told"] ["_law_script"] (defScope s_law) := ⟨rfl, rfl, rfl, by decide +kernel, rfl, by decide +kernel, by decide +kernel⟩
/-- a number of at most so many blocks of eight digits -/
def sp_Lnumber : Sp := fun vs H Q _ => ∃ (p : Addr) (b : Nat), vs = [.ref p, .int (b : Int)] ∧ b ≤ 6 ∧ PoolAt H p ∧ ∀ (H' : Hp) (n : Int), Kp p H H' → PoolAt H' p → -(30 * 100000000 ^ b) < n → n < 30 * 100000000 ^ b → Q (.int n) H'
def sp_Ldivisor : Sp := fun vs H Q _ => ∃ a b : Int, vs = [.int a, .int b] ∧ 0 ≤ a ∧ 0 ≤ b ∧ a < 2 ^ 210 ∧ b < 2 ^ 210 ∧ Q (.int ((Nat.gcd a.natAbs b.natAbs : Nat) : Int)) H
def sp_Lwhole : Sp := fun vs H Q _ => ∃ a : Int, vs = [.int a] ∧ Q (.bl true) H
def sp_Lis (C : Addr) : Sp := fun vs H Q _ => ∃ (x : Addr) (n d : Int), vs = [.ref x, .int n, .int d] ∧ RV C H x n d ∧ d ≠ 0 ∧ Bd n 210 ∧ Bd d 210 ∧ Q (.bl true) H
def sp_Lshort : Sp := fun vs H Q _ => ∃ (p : Addr), vs = [.ref p] ∧ PoolAt H p ∧ ∀ (H' : Hp) (n : Int), Kp p H H' → PoolAt H' p → Bd n 100 → Q (.int n) H'
def sp_Lbelow : Sp := fun vs H Q _ => ∃ (p : Addr), vs = [.ref p] ∧ PoolAt H p ∧ ∀ (H' : Hp) (n : Int), Kp p H H' → PoolAt H' p → Bd n 100 → 1 ≤ n → Q (.int n) H'
def sp_Lrefused (C : Addr) : Sp := fun vs H Q _ => ∃ (a : Addr) (y : V) (T B D : Int), vs = [.ref a, y] ∧ RV C H a T B ∧ NumV C H y 0 D ∧ B ≠ 0 ∧ D ≠ 0 ∧ Bd T 200 ∧ Bd B 200 ∧ Bd D 200 ∧ ∀ H', Same H H' → Q (.bl true) H'
def sp_law (K : PySem.W.Frag) : Sp := fun vs H Q _ => ∃ (a : Addr) (ns : List Int), vs = [.ref a] ∧ SqL K H a (ns.map V.int) ∧ ns.length ≤ 63 ∧ ∀ H', Q (.bl true) H'
structure Txt (K : PySem.W.Frag) (mg : Str → Option Value) (C_Ratio C_BadRatio C_CableError : Addr) : Prop where
  g_Ratio : mg "Ratio" = some (.ref C_Ratio)
  cl_Ratio : Cls K C_Ratio
  nf_Ratio_num : NoAttr K C_Ratio "num"
  nf_Ratio_den : NoAttr K C_Ratio "den"
  i_Ratio : C8.InsC K C_Ratio
  g_BadRatio : mg "BadRatio" = some (.ref C_BadRatio)
  x_BadRatio : PySem.W.excIn K C_BadRatio [.type "ValueError", .type "Exception", .type "BaseException", .type "object"] "ValueError.__new__" = true
  k_BadRatio : PySem.W.keepIn K (.ref C_BadRatio) = true
  b_BadRatio : PySem.W.subIn K (.ref C_BadRatio) (.type "BaseException") = some true
  t_BadRatio : PySem.W.typeIn K (.ref C_BadRatio) = some (.type "type")
  ic_BadRatio : PySem.W.isClsIn K C_BadRatio = true
  s_BadRatio : PySem.W.subIn K (.ref C_BadRatio) (.ref C_BadRatio) = some true
  e_BadRatio : ExcC K C_BadRatio
  g_CableError : mg "CableError" = some (.ref C_CableError)
  sf_Ratio : PySem.W.selfFirst K C_Ratio = true
  su_Ratio : PySem.W.subIn K (.type "int") (.ref C_Ratio) = some false
  us_Ratio : PySem.W.subIn K (.ref C_Ratio) (.type "int") = some false
  at_Ratio_add : ∃ g : Addr, PySem.W.findIn K (.ref C_Ratio) "__add__" = some (some (.ref g))
  rg_Ratio_add : ∃ g : Addr, PySem.W.findIn K (.ref C_Ratio) "__radd__" = some (some (.ref g))
  rc_Ratio_add : ∃ rc, PySem.W.findIn K (.ref C_Ratio) "__radd__" = some rc ∧ (rc = none ∨ ∃ g : Addr, rc = some (.ref g))
  at_Ratio_sub : ∃ g : Addr, PySem.W.findIn K (.ref C_Ratio) "__sub__" = some (some (.ref g))
  rg_Ratio_sub : ∃ g : Addr, PySem.W.findIn K (.ref C_Ratio) "__rsub__" = some (some (.ref g))
  rc_Ratio_sub : ∃ rc, PySem.W.findIn K (.ref C_Ratio) "__rsub__" = some rc ∧ (rc = none ∨ ∃ g : Addr, rc = some (.ref g))
  at_Ratio_mul : ∃ g : Addr, PySem.W.findIn K (.ref C_Ratio) "__mul__" = some (some (.ref g))
  rg_Ratio_mul : ∃ g : Addr, PySem.W.findIn K (.ref C_Ratio) "__rmul__" = some (some (.ref g))
  rc_Ratio_mul : ∃ rc, PySem.W.findIn K (.ref C_Ratio) "__rmul__" = some rc ∧ (rc = none ∨ ∃ g : Addr, rc = some (.ref g))
  at_Ratio_floordiv : ∃ g : Addr, PySem.W.findIn K (.ref C_Ratio) "__floordiv__" = some (some (.ref g))
  rn_Ratio_floordiv : PySem.W.findIn K (.ref C_Ratio) "__rfloordiv__" = some none
  rc_Ratio_floordiv : ∃ rc, PySem.W.findIn K (.ref C_Ratio) "__rfloordiv__" = some rc ∧ (rc = none ∨ ∃ g : Addr, rc = some (.ref g))
  at_Ratio_mod : ∃ g : Addr, PySem.W.findIn K (.ref C_Ratio) "__mod__" = some (some (.ref g))
  rn_Ratio_mod : PySem.W.findIn K (.ref C_Ratio) "__rmod__" = some none
  rc_Ratio_mod : ∃ rc, PySem.W.findIn K (.ref C_Ratio) "__rmod__" = some rc ∧ (rc = none ∨ ∃ g : Addr, rc = some (.ref g))
  fi0_add : PySem.W.findIn K (.type "int") "__add__" = some (some (.builtin "int.__add__"))
  fi_add : ∃ fo, PySem.W.findIn K (.type "int") "__add__" = some fo
  fr0_add : PySem.W.findIn K (.type "int") "__radd__" = some (some (.builtin "int.__radd__"))
  fr_add : ∃ fo, PySem.W.findIn K (.type "int") "__radd__" = some fo
  fi0_floordiv : PySem.W.findIn K (.type "int") "__floordiv__" = some (some (.builtin "int.__floordiv__"))
  fi_floordiv : ∃ fo, PySem.W.findIn K (.type "int") "__floordiv__" = some fo
  fr0_floordiv : PySem.W.findIn K (.type "int") "__rfloordiv__" = some (some (.builtin "int.__rfloordiv__"))
  fr_floordiv : ∃ fo, PySem.W.findIn K (.type "int") "__rfloordiv__" = some fo
  fi0_mod : PySem.W.findIn K (.type "int") "__mod__" = some (some (.builtin "int.__mod__"))
  fi_mod : ∃ fo, PySem.W.findIn K (.type "int") "__mod__" = some fo
  fr0_mod : PySem.W.findIn K (.type "int") "__rmod__" = some (some (.builtin "int.__rmod__"))
  fr_mod : ∃ fo, PySem.W.findIn K (.type "int") "__rmod__" = some fo
  fi0_mul : PySem.W.findIn K (.type "int") "__mul__" = some (some (.builtin "int.__mul__"))
  fi_mul : ∃ fo, PySem.W.findIn K (.type "int") "__mul__" = some fo
  fr0_mul : PySem.W.findIn K (.type "int") "__rmul__" = some (some (.builtin "int.__rmul__"))
  fr_mul : ∃ fo, PySem.W.findIn K (.type "int") "__rmul__" = some fo
  fi0_sub : PySem.W.findIn K (.type "int") "__sub__" = some (some (.builtin "int.__sub__"))
  fi_sub : ∃ fo, PySem.W.findIn K (.type "int") "__sub__" = some fo
  fr0_sub : PySem.W.findIn K (.type "int") "__rsub__" = some (some (.builtin "int.__rsub__"))
  fr_sub : ∃ fo, PySem.W.findIn K (.type "int") "__rsub__" = some fo
  n_isinstance : mg "isinstance" = none
  n_len : mg "len" = none
  n_int : mg "int" = none
  n_abs : mg "abs" = none
  n_bool : mg "bool" = none
  n_str : mg "str" = none
  n_tuple : mg "tuple" = none
  n_list : mg "list" = none
  n_range : mg "range" = none
  n_ValueError : mg "ValueError" = none
  gi_gcd : mg "gcd" = some (.builtin "math.gcd")
  ki_int : PySem.W.kitOne K (.type "int") (.ref C_Ratio) = some false
  kt_cable : PySem.W.kitOne K (.ref C_BadRatio) (.ref C_CableError) = some true
  kt_value : PySem.W.kitOne K (.ref C_BadRatio) (.type "ValueError") = some true

/-! ### Euclid's steps -/
structure Euc (g : Nat) (i : Nat) (a b : Int) : Prop where
  a0 : 0 ≤ a
  b0 : 0 ≤ b
  gc : Nat.gcd a.natAbs b.natAbs = g
  sz : b = 0 ∨ (i = 0 ∧ a < 2 ^ 210 ∧ b < 2 ^ 210) ∨ (b < a ∧ a.natAbs * b.natAbs * 2 ^ i < 2 ^ 422)
theorem Euc.step {g i : Nat} {a b : Int} (e : Euc g i a b) (hb : b ≠ 0) : Euc g (i + 1) b (a % b) := by
  have hp : 0 < b := by have := e.b0; omega
  have r0 : 0 ≤ a % b := Int.emod_nonneg a hb
  have r1 : a % b < b := Int.emod_lt_of_pos a hp
  have en : (a % b).natAbs = a.natAbs % b.natAbs := by
    have a0 := e.a0
    have h : ((a.natAbs % b.natAbs : Nat) : Int) = a % b := by
      rw [Int.natCast_emod, Int.natAbs_of_nonneg a0, Int.natAbs_of_nonneg e.b0]
    omega
  refine ⟨e.b0, r0, ?_, .inr (.inr ⟨r1, ?_⟩)⟩
  · rw [en, Nat.gcd_comm, ← Nat.gcd_rec, Nat.gcd_comm]
    exact e.gc
  · rcases e.sz with z | ⟨hi, h1, h2⟩ | ⟨h1, h2⟩
    · exact absurd z hb
    · subst hi
      have q1 : b.natAbs < 2 ^ 210 := by omega
      have q2 : (a % b).natAbs < 2 ^ 210 := by omega
      have q3 := Nat.mul_lt_mul'' q1 q2
      rw [← Nat.pow_add] at q3
      have : (2 : Nat) ^ (210 + 210) * 2 ^ (0 + 1) < 2 ^ 422 := by decide
      exact Nat.lt_trans (Nat.mul_lt_mul_of_pos_right q3 (by decide)) this
    · have k : 2 * (a % b).natAbs ≤ a.natAbs := by
        have s := Int.emod_add_mul_ediv a b
        have t : 1 ≤ a / b := by
          have := Int.ediv_le_ediv hp (Int.le_of_lt h1)
          rw [Int.ediv_self hb] at this
          exact this
        have u : b * 1 ≤ b * (a / b) := Int.mul_le_mul_of_nonneg_left t (Int.le_of_lt hp)
        have a0 := e.a0
        omega
      have m : b.natAbs * (a % b).natAbs * 2 ^ (i + 1) ≤ a.natAbs * b.natAbs * 2 ^ i := by
        calc b.natAbs * (a % b).natAbs * 2 ^ (i + 1) = (2 * (a % b).natAbs) * b.natAbs * 2 ^ i := by
              rw [Nat.pow_succ, Nat.mul_comm b.natAbs, Nat.mul_comm (2 ^ i) 2, ← Nat.mul_assoc, Nat.mul_comm ((a % b).natAbs * b.natAbs) 2, ← Nat.mul_assoc]
          _ ≤ a.natAbs * b.natAbs * 2 ^ i := Nat.mul_le_mul_right _ (Nat.mul_le_mul_right _ k)
      exact Nat.lt_of_le_of_lt m h2
theorem Euc.done {g i : Nat} {a b : Int} (e : Euc g i a b) (hi : 422 ≤ i) : b = 0 := by
  rcases e.sz with z | ⟨h, _, _⟩ | ⟨h1, h2⟩
  · exact z
  · omega
  · have b0 := e.b0
    have : ¬ 0 < b := fun hb => by
      have q : 1 ≤ a.natAbs * b.natAbs := Nat.mul_pos (by omega) (by omega)
      have q2 : (2 : Nat) ^ 422 ≤ 2 ^ i := Nat.pow_le_pow_right (by decide) hi
      have q3 : 1 * 2 ^ i ≤ a.natAbs * b.natAbs * 2 ^ i := Nat.mul_le_mul_right _ q
      omega
    omega
theorem Euc.end_ {g i : Nat} {a : Int} (e : Euc g i a 0) : a = (g : Int) := by
  have := e.gc
  have := e.a0
  simp only [Int.natAbs_zero, Nat.gcd_zero_right] at *
  omega
section
variable {P : Program} {w : World} {K : PySem.W.Frag} {mg : Str → Option Value} {base : Heap} {C_Ratio C_BadRatio C_CableError : Addr}
theorem ok_Ratio_init {f : Addr} {fd : FuncData} (F : Fun K "__init__" "Ratio.__init__" s_Ratio_init f fd) (T : Txt K mg C_Ratio C_BadRatio C_CableError)  :
    FnOk P w K mg base (L2.CX P w) 1 f fd ["self", "num", "den"] (sp_Ratio_init C_Ratio C_BadRatio) := by
  refine F.okX sc_Ratio_init (fun vs H Q E h => ?_) (fun cdv A outer s H vs Q E hr h => ?_)
  · obtain ⟨x, dx, n, d, rfl, _⟩ := h
    rfl
  · obtain ⟨x, dx, n, d, rfl, hx, hb, hE, hQ⟩ := h
    refine ⟨_, (pss_cons (ps_if (pt_cmpR op_eq (pv 2) pe_int (nomark _)) (pss_one (ps_raise rfl (takes_of rfl rfl rfl rfl) (pmk_own PySem.F.excBase_ValueError T.x_BadRatio T.g_BadRatio T.k_BadRatio (raises_own T.b_BadRatio T.t_BadRatio) rfl))) pss_nil)
      (pss_cons (ps_set (i := 3) sc_Ratio_init.nd rfl (Or.inl rfl) (pe_callBfun cr_gcd rfl T.gi_gcd (pa_cons (pv 1) (pa_cons (pv 2) pa_nil))))
      (pss_cons (ps_if (pt_cmpR op_lt (pv 2) pe_int (nomark _)) (pss_one (ps_set (i := 3) sc_Ratio_init.nd rfl (Or.inl rfl) (pe_un un_neg (pv 3)))) pss_nil)
      (pss_cons (ps_fld (pv 0) (pe_op op_fdivA (pv 1) (pv 3)) rfl)
      (pss_one (ps_fld (pv 0) (pe_op op_fdivA (pv 2) (pv 3)) rfl)))))), ?_⟩
    refine ⟨_, rfl, rfl, _, rfl, ?_⟩
    refine ite2 (fun hd => ?_) (fun hd => ?_)
    · exact hE (V.int.inj (of_decide_eq_true hd))
    · have d0 : d ≠ 0 := fun z => hd (by rw [z]; rfl)
      have c0 := cmn_ne (n := n) d0
      have cl := cmn_lt (n := n) d0 hb
      refine ⟨_, rfl, _, rfl, n, d, rfl, ?_⟩
      refine ⟨_, rfl, _, _, rfl, rfl, _, rfl, ?_⟩
      have last : ∀ c : Int, c = cmn n d → Q .non (upd (upd H x (.ins C_Ratio dx (putF "num" (.int (n.fdiv c)) []))) x (.ins C_Ratio dx (putF "den" (.int (d.fdiv c)) (putF "num" (.int (n.fdiv c)) [])))) := fun c hc => by
        subst hc
        exact hQ d0 _ upd_same (Kp.trans Kp.upd Kp.upd)
      refine ite2 (fun hneg => ?_) (fun hneg => ?_)
      · have hc : -((Nat.gcd n.natAbs d.natAbs : Nat) : Int) = cmn n d := by unfold cmn; rw [if_pos (of_decide_eq_true hneg)]
        have dv : CDivA n (-((Nat.gcd n.natAbs d.natAbs : Nat) : Int)) := by rw [hc]; exact divA c0 cl (by decide) (by decide)
        have dv2 : CDivA d (-((Nat.gcd n.natAbs d.natAbs : Nat) : Int)) := by rw [hc]; exact divA c0 cl (by decide) (by decide)
        refine ⟨_, rfl, _, rfl, ?_⟩
        refine ⟨_, rfl, _, rfl, _, _, rfl, rfl, dv, _, rfl, x, C_Ratio, dx, [], rfl, hx, T.cl_Ratio, T.nf_Ratio_num, (by show 0 < 1000; decide), ?_⟩
        refine ⟨_, rfl, _, rfl, _, _, rfl, rfl, dv2, _, rfl, x, C_Ratio, dx, _, rfl, upd_same, T.cl_Ratio, T.nf_Ratio_den, (by show 1 < 1000; decide), ?_⟩
        exact last _ hc
      · have hc : ((Nat.gcd n.natAbs d.natAbs : Nat) : Int) = cmn n d := by unfold cmn; rw [if_neg (fun z => hneg (decide_eq_true z))]
        have dv : CDivA n ((Nat.gcd n.natAbs d.natAbs : Nat) : Int) := by rw [hc]; exact divA c0 cl (by decide) (by decide)
        have dv2 : CDivA d ((Nat.gcd n.natAbs d.natAbs : Nat) : Int) := by rw [hc]; exact divA c0 cl (by decide) (by decide)
        refine ⟨_, rfl, _, rfl, _, _, rfl, rfl, dv, _, rfl, x, C_Ratio, dx, [], rfl, hx, T.cl_Ratio, T.nf_Ratio_num, (by show 0 < 1000; decide), ?_⟩
        refine ⟨_, rfl, _, rfl, _, _, rfl, rfl, dv2, _, rfl, x, C_Ratio, dx, _, rfl, upd_same, T.cl_Ratio, T.nf_Ratio_den, (by show 1 < 1000; decide), ?_⟩
        exact last _ hc
theorem ok_uratio_of {f : Addr} {fd : FuncData} (F : Fun K "_ratio_of" "_ratio_of" s_uratio_of f fd) (T : Txt K mg C_Ratio C_BadRatio C_CableError) (c_Ratio : Mak (L2.CX P w) P w K mg base 1 "Ratio" C_Ratio (sp_Ratio_init C_Ratio C_BadRatio)) :
    FnOk P w K mg base CX0 3 f fd ["number"] (sp_Rof C_Ratio) := by
  refine F.ok sc_uratio_of (fun vs H Q E h => ?_) (fun cdv A outer s H vs Q E hr h => ?_)
  · obtain ⟨x, T', B, rfl, _⟩ := h
    rfl
  · obtain ⟨x, T', B, rfl, hx, q⟩ := h
    refine ⟨_, (pss_cons (ps_if (pt_val (pe_callB call_isi (by rfl) T.n_isinstance (by decide +kernel) (pa_cons (pv 0) (pa_cons (pe_glob (v := .ref C_Ratio) rfl T.g_Ratio rfl) pa_nil)))) (pss_one (ps_ret (pv 0))) pss_nil)
      (pss_one (ps_ret (pc_mk c_Ratio hr (by decide) rfl passL (pa_cons (pv 0) (pa_cons pe_int pa_nil)))))), ?_⟩
    rcases hx with ⟨a, rfl, r⟩ | ⟨rfl, rfl⟩
    · obtain ⟨dx, e⟩ := id r
      refine ⟨_, rfl, _, _, _, .ref C_Ratio, true, rfl, .own _, .base (.ins e T.cl_Ratio T.i_Ratio.ha T.i_Ratio.hn T.i_Ratio.htk T.i_Ratio.hm), T.i_Ratio.me, true, rfl, iteT ?_⟩
      exact ⟨_, rfl, q _ _ (Same.of _) r⟩
    · refine ⟨_, rfl, _, _, _, .ref C_Ratio, false, rfl, .own _, .base (.int T'), T.ki_int, false, rfl, iteF ?_⟩
      exact ⟨_, rfl, fun x dx hx hdx ne => ⟨x, dx, T', 1, rfl, upd_same, by decide, fun z => absurd z (by decide), fun _ J h1 k1 => ⟨rfl, q _ _ (mk_same hx hdx k1) ⟨dx, h1⟩⟩⟩⟩
theorem ok_Ratio_neg {f : Addr} {fd : FuncData} (F : Fun K "__neg__" "Ratio.__neg__" s_Ratio_neg f fd) (T : Txt K mg C_Ratio C_BadRatio C_CableError) (c_Ratio : Mak (L2.CX P w) P w K mg base 1 "Ratio" C_Ratio (sp_Ratio_init C_Ratio C_BadRatio)) :
    FnOk P w K mg base CX0 3 f fd ["self"] (sp_Rneg C_Ratio) := by
  refine F.ok sc_Ratio_neg (fun vs H Q E h => ?_) (fun cdv A outer s H vs Q E hr h => ?_)
  · obtain ⟨a, T', B, rfl, _⟩ := h
    rfl
  · obtain ⟨a, T', B, rfl, r, b0, bB, q⟩ := h
    refine ⟨_, (pss_one (ps_ret (pc_mk c_Ratio hr (by decide) rfl passL (pa_cons (pe_un un_neg (pe_fld (pv 0) rfl)) (pa_cons (pe_fld (pv 0) rfl) pa_nil))))), ?_⟩
    obtain ⟨dx, e⟩ := id r
    have dp := rD_pos (n := T') b0
    have cr := r_cross T' B
    refine ⟨_, rfl, a, C_Ratio, dx, _, _, rfl, e, T.cl_Ratio, T.nf_Ratio_num, rfs_num _ _, _, rfl, _, rfl, a, C_Ratio, dx, _, _, rfl, e, T.cl_Ratio, T.nf_Ratio_den, rfs_den _ _, fun x dx' hx hdx ne => ⟨x, dx', _, _, rfl, upd_same, Bd.le (Bd.d bB b0) (by decide), fun z => absurd z (by omega), fun _ J h1 k1 => ⟨rfl, ?_⟩⟩⟩
    exact q _ _ (mk_same hx hdx k1) (RV.eq ⟨dx', h1⟩ (by omega) b0 (by grind))
theorem ok_Ratio_add {f : Addr} {fd : FuncData} (F : Fun K "__add__" "Ratio.__add__" s_Ratio_add f fd) (T : Txt K mg C_Ratio C_BadRatio C_CableError) (c_uratio_of : Cal CX0 P w K mg base 3 "_ratio_of" (sp_Rof C_Ratio)) (c_Ratio : Mak (L2.CX P w) P w K mg base 1 "Ratio" C_Ratio (sp_Ratio_init C_Ratio C_BadRatio)) :
    FnOk P w K mg base CX0 4 f fd ["self", "other"] (sp_R2 C_Ratio fAdd fDen) := by
  refine F.ok sc_Ratio_add (fun vs H Q E h => ?_) (fun cdv A outer s H vs Q E hr h => ?_)
  · obtain ⟨a, y, T', B, U, D, rfl, _⟩ := h
    rfl
  · obtain ⟨a, y, T', B, U, D, rfl, r, ry, b0, d0, bT, bB, bU, bD, q⟩ := h
    refine ⟨_, (pss_cons (ps_set (i := 2) sc_Ratio_add.nd rfl (Or.inl rfl) (pc_c c_uratio_of hr (by decide) rfl pass0 (pa_cons (pv 1) pa_nil)))
      (pss_one (ps_ret (pc_mk c_Ratio hr (by decide) rfl passL (pa_cons (pe_op op_add (pe_op op_mulA (pe_fld (pv 0) rfl) (pe_fld (pv 2) rfl)) (pe_op op_mulA (pe_fld (pv 2) rfl) (pe_fld (pv 0) rfl))) (pa_cons (pe_op op_mulA (pe_fld (pv 0) rfl) (pe_fld (pv 2) rfl)) pa_nil)))))), ?_⟩
    refine ⟨_, rfl, y, U, D, rfl, ry, fun H1 p s1 rp => ?_⟩
    obtain ⟨dx, e⟩ := r.same s1
    obtain ⟨dp, ep⟩ := id rp
    have c1 := r_cross T' B
    have c2 := r_cross U D
    have p1 := rD_pos (n := T') b0
    have p2 := rD_pos (n := U) d0
    have hne : rD T' B * rD U D ≠ 0 := Int.mul_ne_zero (by omega) (by omega)
    refine ⟨_, rfl, a, C_Ratio, dx, _, _, rfl, e, T.cl_Ratio, T.nf_Ratio_num, rfs_num _ _, _, rfl, p, C_Ratio, dp, _, _, rfl, ep, T.cl_Ratio, T.nf_Ratio_den, rfs_den _ _, _, _, rfl, rfl, .inr (wide_mul (bT.n b0) (bD.d d0) (by decide) (by decide) (by decide)), ?_⟩
    refine ⟨_, rfl, p, C_Ratio, dp, _, _, rfl, ep, T.cl_Ratio, T.nf_Ratio_num, rfs_num _ _, _, rfl, a, C_Ratio, dx, _, _, rfl, e, T.cl_Ratio, T.nf_Ratio_den, rfs_den _ _, _, _, rfl, rfl, .inr (wide_mul (bU.n d0) (bB.d b0) (by decide) (by decide) (by decide)), _, _, rfl, rfl, ?_⟩
    refine ⟨_, rfl, a, C_Ratio, dx, _, _, rfl, e, T.cl_Ratio, T.nf_Ratio_den, rfs_den _ _, _, rfl, p, C_Ratio, dp, _, _, rfl, ep, T.cl_Ratio, T.nf_Ratio_den, rfs_den _ _, _, _, rfl, rfl, .inr (wide_mul (bB.d b0) (bD.d d0) (by decide) (by decide) (by decide)), ?_⟩
    intro x dx' hx hdx ne
    refine ⟨x, dx', _, _, rfl, upd_same, Bd.le ((bB.d b0).mul (bD.d d0)) (by decide), fun z => absurd z hne, fun _ J h1 k1 => ⟨rfl, ?_⟩⟩
    exact q _ _ (s1.trans (mk_same hx hdx k1)) (RV.eq ⟨dx', h1⟩ hne (Int.mul_ne_zero b0 d0) (by grind))
theorem ok_Ratio_sub {f : Addr} {fd : FuncData} (F : Fun K "__sub__" "Ratio.__sub__" s_Ratio_sub f fd) (T : Txt K mg C_Ratio C_BadRatio C_CableError) (c_Ratio_add : Met CX0 P w K mg base 4 C_Ratio "__add__" (sp_R2 C_Ratio fAdd fDen)) (c_Ratio_neg : Met CX0 P w K mg base 3 C_Ratio "__neg__" (sp_Rneg C_Ratio)) :
    FnOk P w K mg base CX0 5 f fd ["self", "other"] (sp_R2 C_Ratio fSub fDen) := by
  refine F.ok sc_Ratio_sub (fun vs H Q E h => ?_) (fun cdv A outer s H vs Q E hr h => ?_)
  · obtain ⟨a, y, T', B, U, D, rfl, _⟩ := h
    rfl
  · obtain ⟨a, y, T', B, U, D, rfl, r, ry, b0, d0, bT, bB, bU, bD, q⟩ := h
    refine ⟨_, (pss_one (ps_ret (pe_op (OpR.or (op_own c_Ratio_add hr (by decide) pass0 T.sf_Ratio) (op_ownI c_Ratio_add hr (by decide) pass0 T.sf_Ratio T.rc_Ratio_add T.fi_add T.fr_add T.su_Ratio)) (pv 0) (pe_un (UnR.or un_neg (un_own c_Ratio_neg hr (by decide) pass0)) (pv 1))))), ?_⟩
    obtain ⟨dx, e⟩ := id r
    have ef : T' * D + -U * B = T' * D - U * B := by grind
    rcases ry with ⟨b, rfl, rb⟩ | ⟨rfl, rfl⟩
    · obtain ⟨db, eb⟩ := id rb
      refine ⟨_, rfl, _, rfl, .inr ⟨b, db, _, rfl, eb, b, U, D, rfl, rb, d0, bD.le (by decide), fun H1 p s1 rp => ?_⟩⟩
      obtain ⟨dp, ep⟩ := id rp
      refine .inl ⟨a, p, dx, dp, _, _, rfl, rfl, s1 _ _ e, ep, a, _, T', B, -U, D, rfl, r.same s1, .inl ⟨p, rfl, rp⟩, b0, d0, bT, bB, bU.neg, bD, fun H2 z s2 rz => ?_⟩
      exact q _ _ (s1.trans s2) (by have z := rz; rw [show fAdd T' B (-U) D = fSub T' B U D from ef] at z; exact z)
    · refine ⟨_, rfl, _, rfl, .inl ⟨_, rfl, ?_⟩⟩
      refine .inr ⟨a, dx, _, _, rfl, rfl, e, a, _, T', B, -U, 1, rfl, r, .inr ⟨rfl, rfl⟩, b0, d0, bT, bB, bU.neg, bD, fun H2 z s2 rz => ?_⟩
      exact q _ _ s2 (by have z := rz; rw [show fAdd T' B (-U) 1 = fSub T' B U 1 from ef] at z; exact z)
theorem ok_Ratio_mul {f : Addr} {fd : FuncData} (F : Fun K "__mul__" "Ratio.__mul__" s_Ratio_mul f fd) (T : Txt K mg C_Ratio C_BadRatio C_CableError) (c_uratio_of : Cal CX0 P w K mg base 3 "_ratio_of" (sp_Rof C_Ratio)) (c_Ratio : Mak (L2.CX P w) P w K mg base 1 "Ratio" C_Ratio (sp_Ratio_init C_Ratio C_BadRatio)) :
    FnOk P w K mg base CX0 4 f fd ["self", "other"] (sp_R2 C_Ratio fMul fDen) := by
  refine F.ok sc_Ratio_mul (fun vs H Q E h => ?_) (fun cdv A outer s H vs Q E hr h => ?_)
  · obtain ⟨a, y, T', B, U, D, rfl, _⟩ := h
    rfl
  · obtain ⟨a, y, T', B, U, D, rfl, r, ry, b0, d0, bT, bB, bU, bD, q⟩ := h
    refine ⟨_, (pss_cons (ps_set (i := 2) sc_Ratio_mul.nd rfl (Or.inl rfl) (pc_c c_uratio_of hr (by decide) rfl pass0 (pa_cons (pv 1) pa_nil)))
      (pss_one (ps_ret (pc_mk c_Ratio hr (by decide) rfl passL (pa_cons (pe_op op_mulA (pe_fld (pv 0) rfl) (pe_fld (pv 2) rfl)) (pa_cons (pe_op op_mulA (pe_fld (pv 0) rfl) (pe_fld (pv 2) rfl)) pa_nil)))))), ?_⟩
    refine ⟨_, rfl, y, U, D, rfl, ry, fun H1 p s1 rp => ?_⟩
    obtain ⟨dx, e⟩ := r.same s1
    obtain ⟨dp, ep⟩ := id rp
    have c1 := r_cross T' B
    have c2 := r_cross U D
    have p1 := rD_pos (n := T') b0
    have p2 := rD_pos (n := U) d0
    have hne : rD T' B * rD U D ≠ 0 := Int.mul_ne_zero (by omega) (by omega)
    refine ⟨_, rfl, a, C_Ratio, dx, _, _, rfl, e, T.cl_Ratio, T.nf_Ratio_num, rfs_num _ _, _, rfl, p, C_Ratio, dp, _, _, rfl, ep, T.cl_Ratio, T.nf_Ratio_num, rfs_num _ _, _, _, rfl, rfl, .inr (wide_mul (bT.n b0) (bU.n d0) (by decide) (by decide) (by decide)), ?_⟩
    refine ⟨_, rfl, a, C_Ratio, dx, _, _, rfl, e, T.cl_Ratio, T.nf_Ratio_den, rfs_den _ _, _, rfl, p, C_Ratio, dp, _, _, rfl, ep, T.cl_Ratio, T.nf_Ratio_den, rfs_den _ _, _, _, rfl, rfl, .inr (wide_mul (bB.d b0) (bD.d d0) (by decide) (by decide) (by decide)), ?_⟩
    intro x dx' hx hdx ne
    refine ⟨x, dx', _, _, rfl, upd_same, Bd.le ((bB.d b0).mul (bD.d d0)) (by decide), fun z => absurd z hne, fun _ J h1 k1 => ⟨rfl, ?_⟩⟩
    exact q _ _ (s1.trans (mk_same hx hdx k1)) (RV.eq ⟨dx', h1⟩ hne (Int.mul_ne_zero b0 d0) (by grind))
theorem ok_Ratio_eq {f : Addr} {fd : FuncData} (F : Fun K "__eq__" "Ratio.__eq__" s_Ratio_eq f fd) (T : Txt K mg C_Ratio C_BadRatio C_CableError)  :
    FnOk P w K mg base CX0 1 f fd ["self", "other"] (sp_Req C_Ratio) := by
  refine F.ok sc_Ratio_eq (fun vs H Q E h => ?_) (fun cdv A outer s H vs Q E hr h => ?_)
  · obtain ⟨a, b, T', B, U, D, rfl, _⟩ := h
    rfl
  · obtain ⟨a, b, T', B, U, D, rfl, ⟨dx, e⟩, ⟨dy, e2⟩, b0, d0, q⟩ := h
    refine ⟨_, (pss_one (ps_ret (pe_and (pe_callB (C8.call_isC T.i_Ratio) (by rfl) T.n_isinstance (by decide +kernel) (pa_cons (pv 1) (pa_cons (pe_glob (v := .ref C_Ratio) rfl T.g_Ratio rfl) pa_nil))) (pe_and (pe_cmpR op_eq (pe_fld (pv 0) rfl) (pe_fld (pv 1) rfl) (nomark _)) (pe_one (pe_cmpR op_eq (pe_fld (pv 0) rfl) (pe_fld (pv 1) rfl) (nomark _))))))), ?_⟩
    have k : (T' * D = U * B) ↔ (rN T' B = rN U D ∧ rD T' B = rD U D) := by
      refine ⟨fun z => r_eq b0 d0 z, fun ⟨z1, z2⟩ => ?_⟩
      have c1 := r_cross T' B
      have c2 := r_cross U D
      have p1 := rD_pos (n := U) d0
      rw [z1, z2] at c1
      generalize rN U D = n at *
      generalize rD U D = d at *
      have : (T' * D) * d = (U * B) * d := by grind
      exact Int.eq_of_mul_eq_mul_right (by omega) this
    refine ⟨_, rfl, b, dy, _, rfl, e2, true, rfl, iteT ?_⟩
    refine ⟨_, rfl, a, C_Ratio, dx, _, _, rfl, e, T.cl_Ratio, T.nf_Ratio_num, rfs_num _ _, _, rfl, b, C_Ratio, dy, _, _, rfl, e2, T.cl_Ratio, T.nf_Ratio_num, rfs_num _ _, rfl, _, rfl, ?_⟩
    by_cases h1 : rN T' B = rN U D
    · rw [decide_eq_true (show V.int (rN T' B) = V.int (rN U D) by rw [h1])]
      refine iteT ⟨_, rfl, a, C_Ratio, dx, _, _, rfl, e, T.cl_Ratio, T.nf_Ratio_den, rfs_den _ _, _, rfl, b, C_Ratio, dy, _, _, rfl, e2, T.cl_Ratio, T.nf_Ratio_den, rfs_den _ _, rfl, ?_⟩
      by_cases h2 : rD T' B = rD U D
      · rw [decide_eq_true (k.mpr ⟨h1, h2⟩)] at q
        rw [decide_eq_true (show V.int (rD T' B) = V.int (rD U D) by rw [h2])]
        exact q
      · rw [decide_eq_false (fun z => h2 (k.mp z).2)] at q
        rw [decide_eq_false (show ¬ V.int (rD T' B) = V.int (rD U D) from fun z => h2 (V.int.inj z))]
        exact q
    · rw [decide_eq_false (show ¬ V.int (rN T' B) = V.int (rN U D) from fun z => h1 (V.int.inj z))]
      rw [decide_eq_false (fun z => h1 (k.mp z).1)] at q
      exact iteF q
theorem ok_Ratio_compare {f : Addr} {fd : FuncData} (F : Fun K "compare" "Ratio.compare" s_Ratio_compare f fd) (T : Txt K mg C_Ratio C_BadRatio C_CableError) (c_Ratio_sub : Met CX0 P w K mg base 5 C_Ratio "__sub__" (sp_R2 C_Ratio fSub fDen)) :
    FnOk P w K mg base CX0 6 f fd ["self", "other"] (sp_Rcmp C_Ratio) := by
  refine F.ok sc_Ratio_compare (fun vs H Q E h => ?_) (fun cdv A outer s H vs Q E hr h => ?_)
  · obtain ⟨a, y, T', B, U, D, rfl, _⟩ := h
    rfl
  · obtain ⟨a, y, T', B, U, D, rfl, r, ry, b0, d0, bT, bB, bU, bD, q⟩ := h
    refine ⟨_, (pss_cons (ps_set (i := 2) sc_Ratio_compare.nd rfl (Or.inl rfl) (pe_op (OpR.or (op_own c_Ratio_sub hr (by decide) pass0 T.sf_Ratio) (op_ownI c_Ratio_sub hr (by decide) pass0 T.sf_Ratio T.rc_Ratio_sub T.fi_sub T.fr_sub T.su_Ratio)) (pv 0) (pv 1)))
      (pss_cons (ps_if (pt_cmpR op_lt (pe_fld (pv 2) rfl) pe_int (nomark _)) (pss_one (ps_ret (pe_un un_neg pe_int))) pss_nil)
      (pss_cons (ps_if (pt_cmpR op_gt (pe_fld (pv 2) rfl) pe_int (nomark _)) (pss_one (ps_ret pe_int)) pss_nil)
      (pss_one (ps_ret pe_int))))), ?_⟩
    have n1 : B ≠ 0 := by omega
    have n2 : D ≠ 0 := by omega
    have sg := rN_sign (n := T' * D - U * B) (Int.mul_pos b0 d0)
    obtain ⟨dx, e⟩ := id r
    have rest : ∀ (H1 : Hp) (p dp : Addr), Same H H1 → H1 p = some (.ins C_Ratio dp (rfs (rN (T' * D - U * B) (B * D)) (rD (T' * D - U * B) (B * D)))) →
        tSeq (tIfS (tTest (tOp (rI0 fun i j => .bl (decide (i < j))) (tFld K (tVar 2) "num") (tC (.int 0)))) (tRet (tUn (rU fun i => .int (-i)) (tC (.int 1)))) tNext)
          (tSeq (tIfS (tTest (tOp (rI0 fun i j => .bl (decide (j < i))) (tFld K (tVar 2) "num") (tC (.int 0)))) (tRet (tC (.int 1))) tNext) (tRet (tC (.int 0)))) { nx := fun _ H' => Q .non H', rt := Q } [some (.ref a), some y, some (.ref p)] H1 := by
      intro H1 p dp s1 ep
      refine ⟨_, rfl, p, C_Ratio, dp, _, _, rfl, ep, T.cl_Ratio, T.nf_Ratio_num, rfs_num _ _, _, _, rfl, rfl, _, rfl, ?_⟩
      refine ite2 (fun hn => ?_) (fun hn => ?_)
      · have := sg.1.mp (of_decide_eq_true hn)
        refine ⟨_, rfl, ?_⟩
        have z := q _ s1
        unfold sgn at z
        rw [if_pos this] at z
        exact z
      · have k1 : ¬ T' * D - U * B < 0 := fun z => hn (decide_eq_true (sg.1.mpr z))
        refine ⟨_, rfl, p, C_Ratio, dp, _, _, rfl, ep, T.cl_Ratio, T.nf_Ratio_num, rfs_num _ _, _, _, rfl, rfl, _, rfl, ?_⟩
        refine ite2 (fun hm => ?_) (fun hm => ?_)
        · have := sg.2.1.mp (of_decide_eq_true hm)
          have z := q _ s1
          unfold sgn at z
          rw [if_neg k1, if_pos this] at z
          exact z
        · have k2 : ¬ 0 < T' * D - U * B := fun z => hm (decide_eq_true (sg.2.1.mpr z))
          have z := q _ s1
          unfold sgn at z
          rw [if_neg k1, if_neg k2] at z
          exact z
    rcases ry with ⟨b, rfl, rb⟩ | ⟨rfl, rfl⟩
    · obtain ⟨db, eb⟩ := id rb
      refine ⟨_, rfl, _, rfl, .inl ⟨a, b, dx, db, _, _, rfl, rfl, e, eb, a, _, T', B, U, D, rfl, r, .inl ⟨b, rfl, rb⟩, n1, n2, bT, bB, bU, bD, fun H1 p s1 ⟨dp, ep⟩ => ?_⟩⟩
      exact rest H1 p dp s1 ep
    · refine ⟨_, rfl, _, rfl, .inr ⟨a, dx, _, _, rfl, rfl, e, a, _, T', B, U, 1, rfl, r, .inr ⟨rfl, rfl⟩, n1, n2, bT, bB, bU, bD, fun H1 p s1 ⟨dp, ep⟩ => ?_⟩⟩
      exact rest H1 p dp s1 ep
theorem ok_Ratio_floordiv {f : Addr} {fd : FuncData} (F : Fun K "__floordiv__" "Ratio.__floordiv__" s_Ratio_floordiv f fd) (T : Txt K mg C_Ratio C_BadRatio C_CableError) (c_uratio_of : Cal CX0 P w K mg base 3 "_ratio_of" (sp_Rof C_Ratio)) :
    FnOk P w K mg base (L2.CX P w) 4 f fd ["self", "other"] (sp_Rfd C_Ratio C_BadRatio) := by
  refine F.okX sc_Ratio_floordiv (fun vs H Q E h => ?_) (fun cdv A outer s H vs Q E hr h => ?_)
  · obtain ⟨a, y, T', B, U, D, rfl, _⟩ := h
    rfl
  · obtain ⟨a, y, T', B, U, D, rfl, r, ry, b0, d0, bT, bB, bU, bD, hE, q⟩ := h
    refine ⟨_, (pss_cons (ps_set (i := 2) sc_Ratio_floordiv.nd rfl (Or.inl rfl) (pc_c c_uratio_of hr (by decide) rfl pass0 (pa_cons (pv 1) pa_nil)))
      (pss_cons (ps_if (pt_cmpR op_eq (pe_fld (pv 2) rfl) pe_int (nomark _)) (pss_one (ps_raise rfl (takes_of rfl rfl rfl rfl) (pmk_own PySem.F.excBase_ValueError T.x_BadRatio T.g_BadRatio T.k_BadRatio (raises_own T.b_BadRatio T.t_BadRatio) rfl))) pss_nil)
      (pss_one (ps_ret (pe_op op_fdivA (pe_op op_mulA (pe_fld (pv 0) rfl) (pe_fld (pv 2) rfl)) (pe_op op_mulA (pe_fld (pv 0) rfl) (pe_fld (pv 2) rfl))))))), ?_⟩
    refine ⟨_, rfl, y, U, D, rfl, ry, fun H1 p s1 rp => ?_⟩
    obtain ⟨dx, e⟩ := r.same s1
    obtain ⟨dp, ep⟩ := id rp
    refine ⟨_, rfl, p, C_Ratio, dp, _, _, rfl, ep, T.cl_Ratio, T.nf_Ratio_num, rfs_num _ _, rfl, _, rfl, ?_⟩
    refine ite2 (fun hu => ?_) (fun hu => ?_)
    · exact hE ((rN_zero d0).mp (V.int.inj (of_decide_eq_true hu))) _ s1
    · have u0 : U ≠ 0 := fun z => hu (decide_eq_true (by rw [(rN_zero d0).mpr z]))
      have nz : rN U D ≠ 0 := fun z => u0 ((rN_zero d0).mp z)
      have p1 := rD_pos (n := T') b0
      have nn : rD T' B * rN U D ≠ 0 := Int.mul_ne_zero (by omega) nz
      refine ⟨_, rfl, a, C_Ratio, dx, _, _, rfl, e, T.cl_Ratio, T.nf_Ratio_num, rfs_num _ _, _, rfl, p, C_Ratio, dp, _, _, rfl, ep, T.cl_Ratio, T.nf_Ratio_den, rfs_den _ _, _, _, rfl, rfl, .inr (wide_mul (bT.n b0) (bD.d d0) (by decide) (by decide) (by decide)), ?_⟩
      refine ⟨_, rfl, a, C_Ratio, dx, _, _, rfl, e, T.cl_Ratio, T.nf_Ratio_den, rfs_den _ _, _, rfl, p, C_Ratio, dp, _, _, rfl, ep, T.cl_Ratio, T.nf_Ratio_num, rfs_num _ _, _, _, rfl, rfl, .inr (wide_mul (bB.d b0) (bU.n d0) (by decide) (by decide) (by decide)), ?_⟩
      refine ⟨_, _, rfl, rfl, divA nn (Bd.mul (bB.d b0) (bU.n d0)) (by decide) (by decide), ?_⟩
      show Q (.int ((rN T' B * rD U D).fdiv (rD T' B * rN U D))) H1
      rw [fd_eq b0 d0]
      exact q u0 _ s1
theorem ok_Ratio_mod {f : Addr} {fd : FuncData} (F : Fun K "__mod__" "Ratio.__mod__" s_Ratio_mod f fd) (T : Txt K mg C_Ratio C_BadRatio C_CableError) (c_Ratio_sub : Met CX0 P w K mg base 5 C_Ratio "__sub__" (sp_R2 C_Ratio fSub fDen)) (c_Ratio_mul : Met CX0 P w K mg base 4 C_Ratio "__mul__" (sp_R2 C_Ratio fMul fDen)) (c_Ratio_floordiv : Met (L2.CX P w) P w K mg base 4 C_Ratio "__floordiv__" (sp_Rfd C_Ratio C_BadRatio)) :
    FnOk P w K mg base (L2.CX P w) 6 f fd ["self", "other"] (sp_Rmod C_Ratio C_BadRatio) := by
  refine F.okX sc_Ratio_mod (fun vs H Q E h => ?_) (fun cdv A outer s H vs Q E hr h => ?_)
  · obtain ⟨a, y, T', B, U, D, rfl, _⟩ := h
    rfl
  · obtain ⟨a, y, T', B, U, D, rfl, r, ry, b0, d0, bT, bB, bU, bD, hE, q⟩ := h
    refine ⟨_, (pss_one (ps_ret (pe_op (OpR.or (op_own c_Ratio_sub hr (by decide) pass0 T.sf_Ratio) (op_ownI c_Ratio_sub hr (by decide) pass0 T.sf_Ratio T.rc_Ratio_sub T.fi_sub T.fr_sub T.su_Ratio)) (pv 0) (pe_op (OpR.or op_mulA (op_ownI c_Ratio_mul hr (by decide) pass0 T.sf_Ratio T.rc_Ratio_mul T.fi_mul T.fr_mul T.su_Ratio)) (pv 1) (pe_op (OpR.or (op_own c_Ratio_floordiv hr (by decide) (passes_call (takes_of rfl rfl rfl rfl) fun _ _ _ _ h => h) T.sf_Ratio) (op_ownI c_Ratio_floordiv hr (by decide) (passes_call (takes_of rfl rfl rfl rfl) fun _ _ _ _ h => h) T.sf_Ratio T.rc_Ratio_floordiv T.fi_floordiv T.fr_floordiv T.su_Ratio)) (pv 0) (pv 1)))))), ?_⟩
    obtain ⟨dx, e⟩ := id r
    have bq : U ≠ 0 → Bd ((T' * D).fdiv (B * U)) 400 := fun u0 => Nat.lt_of_le_of_lt (fd_bd (Int.mul_ne_zero b0 u0)) (Bd.mul bT bD)
    rcases ry with ⟨b, rfl, rb⟩ | ⟨rfl, rfl⟩
    · obtain ⟨db, eb⟩ := id rb
      refine ⟨_, rfl, _, rfl, _, rfl, _, rfl, .inl ⟨a, b, dx, db, _, _, rfl, rfl, e, eb, a, _, T', B, U, D, rfl, r, .inl ⟨b, rfl, rb⟩, b0, d0, bT.le (by decide), bB.le (by decide), bU.le (by decide), bD.le (by decide), hE, fun u0 H1 s1 => ?_⟩⟩
      obtain ⟨db1, eb1⟩ := rb.same s1
      refine .inr ⟨b, db1, _, _, rfl, rfl, eb1, b, _, U, D, (T' * D).fdiv (B * U), 1, rfl, rb.same s1, .inr ⟨rfl, rfl⟩, d0, by decide, bU.le (by decide), bD.le (by decide), (bq u0).le (by decide), by decide, fun H2 p s2 rp => ?_⟩
      obtain ⟨dp, ep⟩ := id rp
      have s12 := s1.trans s2
      refine .inl ⟨a, p, dx, dp, _, _, rfl, rfl, s12 _ _ e, ep, a, _, T', B, U * (T' * D).fdiv (B * U), D * 1, rfl, r.same s12, .inl ⟨p, rfl, rp⟩, b0, by omega, bT.le (by decide), bB.le (by decide), Bd.le (Bd.mul bU (bq u0)) (by decide), Bd.le (show Bd (D * 1) 201 from Bd.le (by rw [Int.mul_one]; exact bD) (by decide)) (by decide), fun H3 z s3 rz => ?_⟩
      exact q u0 _ _ (s12.trans s3) (RV.eq rz (Int.mul_ne_zero b0 (by omega)) (Int.mul_ne_zero b0 d0) (by show (T' * (D * 1) - U * (T' * D).fdiv (B * U) * B) * (B * D) = _; grind))
    · refine ⟨_, rfl, _, rfl, _, rfl, _, rfl, .inr ⟨a, dx, _, _, rfl, rfl, e, a, _, T', B, U, 1, rfl, r, .inr ⟨rfl, rfl⟩, b0, d0, bT.le (by decide), bB.le (by decide), bU.le (by decide), bD.le (by decide), hE, fun u0 H1 s1 => ?_⟩⟩
      refine .inl ⟨_, _, rfl, rfl, .inr (wide_mul bU (bq u0) (by decide) (by decide) (by decide)), ?_⟩
      refine .inr ⟨a, dx, _, _, rfl, rfl, s1 _ _ e, a, _, T', B, U * (T' * 1).fdiv (B * U), 1, rfl, r.same s1, .inr ⟨rfl, rfl⟩, b0, d0, bT.le (by decide), bB.le (by decide), Bd.le (Bd.mul bU (bq u0)) (by decide), by decide, fun H3 z s3 rz => ?_⟩
      exact q u0 _ _ (s1.trans s3) (RV.eq rz (Int.mul_ne_zero b0 (by decide)) (Int.mul_ne_zero b0 d0) (by show (T' * 1 - U * (T' * 1).fdiv (B * U) * B) * (B * 1) = _; grind))
theorem ok_Lcell {f : Addr} {fd : FuncData} (F : Fun K "_law_cell" "_law_cell" s_Lcell f fd) (T : Txt K mg C_Ratio C_BadRatio C_CableError)  :
    FnOk P w K mg base CX0 1 f fd ["_law_script", "_law_at"] (sp_Lcell K) := by
  refine F.ok sc_Lcell (fun vs H Q E h => ?_) (fun cdv A outer s H vs Q E hr h => ?_)
  · obtain ⟨l, ns, j, rfl, _⟩ := h
    rfl
  · obtain ⟨l, ns, j, rfl, hs, q⟩ := h
    refine ⟨_, (pss_cons (ps_if (pt_cmpR op_lt (pv 1) (pe_callB call_len_seq (by rfl) T.n_len PySem.boot_len (pa_cons (pv 0) pa_nil)) (nomark _)) (pss_one (ps_ret (pe_callB call_abs (by rfl) T.n_abs (by decide +kernel) (pa_cons (pe_callTy call_int1 (by rfl) T.n_int (by decide +kernel) (pa_cons (pe_ix ix_list (pv 0) (pv 1) (fun _ _ => rfl)) pa_nil)) pa_nil)))) pss_nil)
      (pss_one (ps_ret pe_int))), ?_⟩
    refine ⟨_, rfl, _, rfl, l, _, rfl, .inl hs, _, _, rfl, rfl, _, rfl, ?_⟩
    refine ite2 (fun hlt => ?_) (fun _ => q 0 (by decide))
    have hj : j < ns.length := by
      have z := of_decide_eq_true hlt
      rw [List.length_map] at z
      omega
    have hat : (ns.map V.int)[j]? = some (V.int ns[j]) := by rw [List.getElem?_map, List.getElem?_eq_getElem hj] <;> rfl
    refine ⟨_, rfl, _, rfl, l, _, _, _, rfl, rfl, hs, atI_nat hat, .inl ⟨_, rfl, _, rfl, q _ ?_⟩⟩
    split <;> omega
theorem ok_Lpool {f : Addr} {fd : FuncData} (F : Fun K "_law_pool" "_law_pool" s_Lpool f fd) (T : Txt K mg C_Ratio C_BadRatio C_CableError)  :
    FnOk P w K mg base CX0 1 f fd ["_law_cell_here"] sp_Lpool := by
  refine F.ok sc_Lpool (fun vs H Q E h => ?_) (fun cdv A outer s H vs Q E hr h => ?_)
  · obtain ⟨c, rfl, _⟩ := h
    rfl
  · obtain ⟨c, rfl, q⟩ := h
    refine ⟨_, (pss_cons (ps_if (pt_cmpR op_ge (pv 0) (pe_op op_pow pe_int pe_int) (nomark _)) (pss_one (ps_ret (pe_lst (pa_cons (pv 0) (pa_cons (pv 0) (pa_cons pe_int pa_nil)))))) pss_nil)
      (pss_one (ps_ret (pe_lst (pa_cons pe_int (pa_cons (pv 0) (pa_cons pe_int pa_nil))))))), ?_⟩
    refine ⟨_, rfl, _, _, rfl, rfl, ⟨by decide, by decide, by decide⟩, _, _, rfl, rfl, _, rfl, ?_⟩
    refine ite2 (fun _ => ?_) (fun _ => ?_)
    · exact ⟨_, rfl, _, rfl, (by show 3 ≤ sizeLine; decide), fun p hp => q p _ hp (same_upd hp) ⟨_, _, _, upd_same⟩⟩
    · exact ⟨_, rfl, (by show 3 ≤ sizeLine; decide), fun p hp => q p _ hp (same_upd hp) ⟨_, _, _, upd_same⟩⟩
theorem ok_Ltake {f : Addr} {fd : FuncData} (F : Fun K "_law_take" "_law_take" s_Ltake f fd) (T : Txt K mg C_Ratio C_BadRatio C_CableError)  :
    FnOk P w K mg base CX0 1 f fd ["_law_pool_here", "_law_many"] sp_Ltake := by
  refine F.ok sc_Ltake (fun vs H Q E h => ?_) (fun cdv A outer s H vs Q E hr h => ?_)
  · obtain ⟨p, many, rfl, _⟩ := h
    rfl
  · obtain ⟨p, many, rfl, ⟨x, y, z, hp⟩, hm, hb, q⟩ := h
    refine ⟨_, (pss_cons (ps_asg (pe_op op_add (pe_ix ix_list (pv 0) pe_int (fun _ _ => rfl)) pe_int) (pg_sub (pv 0) pe_int set_list))
      (pss_cons (ps_if (pt_cmpR op_gt (pe_ix ix_list (pv 0) pe_int (fun _ _ => rfl)) pe_int (nomark _)) (pss_cons (ps_set (i := 2) sc_Ltake.nd rfl (Or.inl rfl) (pe_op op_mod (pe_callTy call_int1 (by rfl) T.n_int (by decide +kernel) (pa_cons (pe_ix ix_list (pv 0) pe_int (fun _ _ => rfl)) pa_nil)) (pv 1)))
      (pss_cons (ps_asg (pe_op op_fdivW (pe_ix ix_list (pv 0) pe_int (fun _ _ => rfl)) (pv 1)) (pg_sub (pv 0) pe_int set_list))
      (pss_one (ps_ret (pv 2))))) pss_nil)
      (pss_cons (ps_set (i := 3) sc_Ltake.nd rfl (Or.inl rfl) (pe_op op_mod (pe_callTy call_int1 (by rfl) T.n_int (by decide +kernel) (pa_cons (pe_op op_mulA (pe_op op_add (pe_ix ix_list (pv 0) pe_int (fun _ _ => rfl)) (pe_op op_mulA pe_int (pe_ix ix_list (pv 0) pe_int (fun _ _ => rfl)))) pe_int) pa_nil)) pe_int))
      (pss_cons (ps_set (i := 3) sc_Ltake.nd rfl (Or.inl rfl) (pe_op op_mod (pe_callTy call_int1 (by rfl) T.n_int (by decide +kernel) (pa_cons (pe_op op_add (pe_op op_mulA (pv 3) pe_int) (pe_op op_mulA pe_int (pe_ix ix_list (pv 0) pe_int (fun _ _ => rfl)))) pa_nil)) pe_int))
      (pss_one (ps_ret (pe_op op_mod (pe_callTy call_int1 (by rfl) T.n_int (by decide +kernel) (pa_cons (pe_op op_fdivW (pv 3) pe_int) pa_nil)) (pv 1)))))))), ?_⟩
    refine ⟨_, rfl, p, _, _, _, rfl, rfl, SqL.of hp, at2, _, _, rfl, rfl, _, rfl, p, _, _, _, rfl, rfl, hp, rfl, ?_⟩
    refine ⟨_, rfl, p, _, _, _, rfl, rfl, SqL.of upd_same, at0, _, _, rfl, rfl, _, rfl, ?_⟩
    refine ite2 (fun _ => ?_) (fun _ => ?_)
    · refine ⟨_, rfl, p, _, _, _, rfl, rfl, SqL.of upd_same, at0, .inl ⟨_, rfl, _, rfl, _, _, rfl, rfl, hm, ?_⟩⟩
      refine ⟨_, rfl, p, _, _, _, rfl, rfl, SqL.of upd_same, at0, _, rfl, _, _, rfl, rfl, wide_div hm hb (by decide) (by decide), _, rfl, p, _, _, _, rfl, rfl, upd_same, rfl, ?_⟩
      exact ⟨_, rfl, q _ _ (Kp.trans Kp.upd Kp.upd) ⟨_, _, _, upd_same⟩ (Int.emod_nonneg _ (by omega)) (Int.emod_lt_of_pos _ hm)⟩
    · refine ⟨_, rfl, p, _, _, _, rfl, rfl, SqL.of upd_same, at1, _, rfl, p, _, _, _, rfl, rfl, SqL.of upd_same, at2, _, _, rfl, rfl, .inl (.inl ⟨by decide, by decide⟩), _, _, rfl, rfl, _, _, rfl, rfl, .inl (.inr ⟨by decide, by decide⟩), .inl ⟨_, rfl, _, _, rfl, rfl, (by show (0 : Int) < 2147483647; decide), ?_⟩⟩
      refine ⟨_, rfl, _, _, rfl, rfl, .inl (.inr ⟨by decide, by decide⟩), _, rfl, p, _, _, _, rfl, rfl, SqL.of upd_same, at2, _, _, rfl, rfl, .inl (.inl ⟨by decide, by decide⟩), _, _, rfl, rfl, .inl ⟨_, rfl, _, _, rfl, rfl, (by show (0 : Int) < 2147483399; decide), ?_⟩⟩
      refine ⟨_, rfl, _, _, rfl, rfl, wide_div (b := 300) (by decide) (by decide) (by decide) (by decide), .inl ⟨_, rfl, _, rfl, _, _, rfl, rfl, hm, ?_⟩⟩
      exact q _ _ Kp.upd ⟨_, _, _, upd_same⟩ (Int.emod_nonneg _ (by omega)) (Int.emod_lt_of_pos _ hm)
theorem okr_Lsame {f : Addr} {fd : FuncData} {j n : Nat} (F : Fun K "_law_same" "_law_same" s_Lsame f fd) (T : Txt K mg C_Ratio C_BadRatio C_CableError) (c_Lsame : Cal CX0 P w K mg base j "_law_same" (sp_Lsame K n)) :
    FnOk P w K mg base CX0 (j + 1) f fd ["_law_told", "_law_due"] (sp_Lsame K (n + 1)) := by
  refine F.ok sc_Lsame (fun vs H Q E h => ?_) (fun cdv A outer s H vs Q E hr h => ?_)
  · obtain ⟨x, y, rfl, _⟩ := h
    rfl
  · obtain ⟨x, y, rfl, hv, q⟩ := h
    refine ⟨_, (pss_cons (ps_if (pt_cmpR op_isN (pv 1) pe_non (nomark _)) (pss_one (ps_ret (pe_cmpR op_isN (pv 0) pe_non (nomark _)))) pss_nil)
      (pss_cons (ps_if (pt_cmpR op_isB (pv 1) pe_bl (nomark _)) (pss_one (ps_ret (pe_cmpR op_isB (pv 0) pe_bl (nomark _)))) pss_nil)
      (pss_cons (ps_if (pt_cmpR op_isB (pv 1) pe_bl (nomark _)) (pss_one (ps_ret (pe_cmpR op_isB (pv 0) pe_bl (nomark _)))) pss_nil)
      (pss_cons (ps_if (pt_val (pe_callB call_isi (by rfl) T.n_isinstance (by decide +kernel) (pa_cons (pv 1) (pa_cons (pe_bltn (v := .ty "int") (by rfl) T.n_int (by decide +kernel) rfl) pa_nil)))) (pss_one (ps_ret (pe_and (pe_callB call_isi (by rfl) T.n_isinstance (by decide +kernel) (pa_cons (pv 0) (pa_cons (pe_bltn (v := .ty "int") (by rfl) T.n_int (by decide +kernel) rfl) pa_nil))) (pe_and (pe_not (pe_callB call_isi (by rfl) T.n_isinstance (by decide +kernel) (pa_cons (pv 0) (pa_cons (pe_bltn (v := .ty "bool") (by rfl) T.n_bool (by decide +kernel) rfl) pa_nil)))) (pe_one (pe_cmpR op_eq (pv 0) (pv 1) (nomark _))))))) pss_nil)
      (pss_cons (ps_if (pt_val (pe_callB call_isi (by rfl) T.n_isinstance (by decide +kernel) (pa_cons (pv 1) (pa_cons (pe_bltn (v := .ty "str") (by rfl) T.n_str (by decide +kernel) rfl) pa_nil)))) (pss_one (ps_ret (pe_and (pe_callB call_isi (by rfl) T.n_isinstance (by decide +kernel) (pa_cons (pv 0) (pa_cons (pe_bltn (v := .ty "str") (by rfl) T.n_str (by decide +kernel) rfl) pa_nil))) (pe_one (pe_cmpR op_eq (pv 0) (pv 1) (nomark _)))))) pss_nil)
      (pss_cons (ps_if (PW.pt (pw_and (pt_val (pe_callB call_isi (by rfl) T.n_isinstance (by decide +kernel) (pa_cons (pv 1) (pa_cons (pe_bltn (v := .ty "tuple") (by rfl) T.n_tuple (by decide +kernel) rfl) pa_nil)))) (pw_and1 (pt_not (pt_val (pe_callB call_isi (by rfl) T.n_isinstance (by decide +kernel) (pa_cons (pv 0) (pa_cons (pe_bltn (v := .ty "tuple") (by rfl) T.n_tuple (by decide +kernel) rfl) pa_nil)))))))) (pss_one (ps_ret pe_bl)) pss_nil)
      (pss_cons (ps_if (PW.pt (pw_and (pt_val (pe_callB call_isi (by rfl) T.n_isinstance (by decide +kernel) (pa_cons (pv 1) (pa_cons (pe_bltn (v := .ty "list") (by rfl) T.n_list (by decide +kernel) rfl) pa_nil)))) (pw_and1 (pt_not (pt_val (pe_callB call_isi (by rfl) T.n_isinstance (by decide +kernel) (pa_cons (pv 0) (pa_cons (pe_bltn (v := .ty "list") (by rfl) T.n_list (by decide +kernel) rfl) pa_nil)))))))) (pss_one (ps_ret pe_bl)) pss_nil)
      (pss_cons (ps_if (pt_cmpR op_ne (pe_callB call_len_seq (by rfl) T.n_len PySem.boot_len (pa_cons (pv 0) pa_nil)) (pe_callB call_len_seq (by rfl) T.n_len PySem.boot_len (pa_cons (pv 1) pa_nil)) (nomark _)) (pss_one (ps_ret pe_bl)) pss_nil)
      (pss_cons (ps_for PassesOwn.never rfl (pi_range1 (by rfl) T.n_range (pa_cons (pe_callB call_len_seq (by rfl) T.n_len PySem.boot_len (pa_cons (pv 1) pa_nil)) pa_nil)) (pg_name (i := 2) sc_Lsame.nd rfl (Or.inl rfl))
        (pss_one (ps_if (pt_not (pt_val (pc_c c_Lsame hr (Nat.le_refl _) rfl pass0 (pa_cons (pe_ix ix_seq (pv 0) (pv 2) (fun _ _ => rfl)) (pa_cons (pe_ix ix_seq (pv 1) (pv 2) (fun _ _ => rfl)) pa_nil))))) (pss_one (ps_ret pe_bl)) pss_nil)))
      (pss_one (ps_ret pe_bl))))))))))), ?_⟩
    have kL1 : PySem.W.kitOne K (.type "list") (.type "int") = some false := kit_ty (by decide +kernel)
    have kL2 : PySem.W.kitOne K (.type "list") (.type "str") = some false := kit_ty (by decide +kernel)
    have kL3 : PySem.W.kitOne K (.type "list") (.type "tuple") = some false := kit_ty (by decide +kernel)
    have kL4 : PySem.W.kitOne K (.type "list") (.type "list") = some true := kit_ty (by decide +kernel)
    have kT1 : PySem.W.kitOne K (.type "tuple") (.type "int") = some false := kit_ty (by decide +kernel)
    have kT2 : PySem.W.kitOne K (.type "tuple") (.type "str") = some false := kit_ty (by decide +kernel)
    have kT3 : PySem.W.kitOne K (.type "tuple") (.type "tuple") = some true := kit_ty (by decide +kernel)
    have kT4 : PySem.W.kitOne K (.type "tuple") (.type "list") = some false := kit_ty (by decide +kernel)
    have hv' : (flatD x = true ∧ x = y) ∨ (∃ m, n = m + 1 ∧ ∃ (a b : Addr) (xs ys : List V), x = .ref a ∧ y = .ref b ∧ SqL K H a xs ∧ SqL K H b ys ∧ xs.length ≤ sizeLine ∧ Pairs (SameV K H m) xs ys) ∨
        (∃ m, n = m + 1 ∧ ∃ (a b : Addr) (xs ys : List V), x = .ref a ∧ y = .ref b ∧ SqT K H a xs ∧ SqT K H b ys ∧ xs.length ≤ sizeLine ∧ Pairs (SameV K H m) xs ys) := by
      cases n with
      | zero => exact .inl hv
      | succ m =>
        rcases hv with h | h | h
        · exact .inl h
        · exact .inr (.inl ⟨m, rfl, h⟩)
        · exact .inr (.inr ⟨m, rfl, h⟩)
    rcases hv' with ⟨hf, e⟩ | ⟨m, rfl, a, b, xs, ys, rfl, rfl, ha, hb, hl, hp⟩ | ⟨m, rfl, a, b, xs, ys, rfl, rfl, ha, hb, hl, hp⟩
    · subst e
      cases x with
      | non => exact ⟨_, rfl, rfl, _, rfl, iteDT rfl ⟨_, rfl, rfl, q⟩⟩
      | bl b =>
        refine ⟨_, rfl, rfl, _, rfl, iteDF (by intro z; cases z) ?_⟩
        cases b with
        | true => exact ⟨_, rfl, _, rfl, _, rfl, iteDT rfl ⟨_, rfl, _, rfl, q⟩⟩
        | false => exact ⟨_, rfl, _, rfl, _, rfl, iteDF (by intro z; cases z) ⟨_, rfl, _, rfl, _, rfl, iteDT rfl ⟨_, rfl, _, rfl, q⟩⟩⟩
      | int i =>
        refine ⟨_, rfl, rfl, _, rfl, iteDF (by intro z; cases z) ?_⟩
        refine ⟨_, rfl, _, rfl, _, rfl, iteDF (by intro z; cases z) ?_⟩
        refine ⟨_, rfl, _, rfl, _, rfl, iteDF (by intro z; cases z) ?_⟩
        refine ⟨_, rfl, _, _, _, .type "int", true, rfl, .ty "int", .base (.int i), kit_ty (by decide +kernel), true, rfl, iteT ?_⟩
        refine ⟨_, rfl, _, _, _, .type "int", true, rfl, .ty "int", .base (.int i), kit_ty (by decide +kernel), true, rfl, iteT ?_⟩
        refine ⟨_, rfl, _, _, _, .type "bool", false, rfl, .ty "bool", .base (.int i), kit_ty (by decide +kernel), false, rfl, true, rfl, iteT ?_⟩
        refine ⟨_, rfl, _, rfl, rfl, ?_⟩
        rw [decide_eq_true (show V.int i = V.int i from rfl)]
        exact q
      | str i =>
        refine ⟨_, rfl, rfl, _, rfl, iteDF (by intro z; cases z) ?_⟩
        refine ⟨_, rfl, _, rfl, _, rfl, iteDF (by intro z; cases z) ?_⟩
        refine ⟨_, rfl, _, rfl, _, rfl, iteDF (by intro z; cases z) ?_⟩
        refine ⟨_, rfl, _, _, _, .type "int", false, rfl, .ty "int", .base (.str i), kit_ty (by decide +kernel), false, rfl, iteF ?_⟩
        refine ⟨_, rfl, _, _, _, .type "str", true, rfl, .ty "str", .base (.str i), kit_ty (by decide +kernel), true, rfl, iteT ?_⟩
        refine ⟨_, rfl, _, _, _, .type "str", true, rfl, .ty "str", .base (.str i), kit_ty (by decide +kernel), true, rfl, iteT ?_⟩
        refine ⟨_, rfl, _, rfl, rfl, ?_⟩
        rw [decide_eq_true (show V.str i = V.str i from rfl)]
        exact q
      | _ => exact absurd (show false = true from hf) Bool.false_ne_true
    · refine ⟨_, rfl, rfl, _, rfl, iteDF (by intro z; cases z) ?_⟩
      refine ⟨_, rfl, _, rfl, _, rfl, iteDF (by intro z; cases z) ?_⟩
      refine ⟨_, rfl, _, rfl, _, rfl, iteDF (by intro z; cases z) ?_⟩
      refine ⟨_, rfl, _, _, _, .type "int", false, rfl, .ty "int", tyx_list hb, kL1, false, rfl, iteF ?_⟩
      refine ⟨_, rfl, _, _, _, .type "str", false, rfl, .ty "str", tyx_list hb, kL2, false, rfl, iteF ?_⟩
      refine ⟨_, rfl, _, _, _, .type "tuple", false, rfl, .ty "tuple", tyx_list hb, kL3, false, rfl, iteF (iteF ?_)⟩
      refine ⟨_, rfl, _, _, _, .type "list", true, rfl, .ty "list", tyx_list hb, kL4, true, rfl, iteT ?_⟩
      refine ⟨_, rfl, _, _, _, .type "list", true, rfl, .ty "list", tyx_list ha, kL4, true, rfl, iteF ?_⟩
      refine ⟨_, rfl, a, _, rfl, .inl ha, _, rfl, b, _, rfl, .inl hb, rfl, _, rfl, ?_⟩
      rw [decide_eq_true (show V.int (xs.length : Nat) = V.int (ys.length : Nat) by rw [hp.1])]
      refine iteF ?_
      have hy : ys.length ≤ 16777216 := by rw [← hp.1, ← sizeLine_eq]; exact hl
      refine ⟨_, rfl, b, _, rfl, .inl hb, _, rfl, by omega, by omega, for_range (lo := 0) (n := ((ys.length : Nat) : Int).toNat) (fun i σ H' => H' = H ∧ ∃ v : Option V, σ = [some (.ref a), some (.ref b), v]) ⟨rfl, none, rfl⟩ ?_ ?_⟩
      · rintro i σ H' hi ⟨rfl, v, rfl⟩
        have i1 : i < ys.length := by omega
        have i2 : i < xs.length := by rw [hp.1]; exact i1
        have ex : xs[i]? = some xs[i] := List.getElem?_eq_getElem i2
        have ey : ys[i]? = some ys[i] := List.getElem?_eq_getElem i1
        have ex' := atI_nat ex
        have ey' := atI_nat ey
        rw [show ((i : Nat) : Int) = 0 + ((i : Nat) : Int) by omega] at ex' ey'
        refine ⟨_, rfl, _, rfl, .inl ⟨a, _, _, _, rfl, rfl, ha, ex', _, rfl, _, rfl, .inl ⟨b, _, _, _, rfl, rfl, hb, ey', _, _, rfl, hp.2 i _ _ ex ey, true, rfl, iteF ?_⟩⟩⟩
        exact ⟨rfl, _, rfl⟩
      · rintro σ H' ⟨rfl, v, rfl⟩
        exact q
    · refine ⟨_, rfl, rfl, _, rfl, iteDF (by intro z; cases z) ?_⟩
      refine ⟨_, rfl, _, rfl, _, rfl, iteDF (by intro z; cases z) ?_⟩
      refine ⟨_, rfl, _, rfl, _, rfl, iteDF (by intro z; cases z) ?_⟩
      refine ⟨_, rfl, _, _, _, .type "int", false, rfl, .ty "int", tyx_tup hb, kT1, false, rfl, iteF ?_⟩
      refine ⟨_, rfl, _, _, _, .type "str", false, rfl, .ty "str", tyx_tup hb, kT2, false, rfl, iteF ?_⟩
      refine ⟨_, rfl, _, _, _, .type "tuple", true, rfl, .ty "tuple", tyx_tup hb, kT3, true, rfl, iteT ?_⟩
      refine ⟨_, rfl, _, _, _, .type "tuple", true, rfl, .ty "tuple", tyx_tup ha, kT3, true, rfl, iteF ?_⟩
      refine ⟨_, rfl, _, _, _, .type "list", false, rfl, .ty "list", tyx_tup hb, kT4, false, rfl, iteF (iteF ?_)⟩
      refine ⟨_, rfl, a, _, rfl, .inr ha, _, rfl, b, _, rfl, .inr hb, rfl, _, rfl, ?_⟩
      rw [decide_eq_true (show V.int (xs.length : Nat) = V.int (ys.length : Nat) by rw [hp.1])]
      refine iteF ?_
      have hy : ys.length ≤ 16777216 := by rw [← hp.1, ← sizeLine_eq]; exact hl
      refine ⟨_, rfl, b, _, rfl, .inr hb, _, rfl, by omega, by omega, for_range (lo := 0) (n := ((ys.length : Nat) : Int).toNat) (fun i σ H' => H' = H ∧ ∃ v : Option V, σ = [some (.ref a), some (.ref b), v]) ⟨rfl, none, rfl⟩ ?_ ?_⟩
      · rintro i σ H' hi ⟨rfl, v, rfl⟩
        have i1 : i < ys.length := by omega
        have i2 : i < xs.length := by rw [hp.1]; exact i1
        have ex : xs[i]? = some xs[i] := List.getElem?_eq_getElem i2
        have ey : ys[i]? = some ys[i] := List.getElem?_eq_getElem i1
        have ex' := atI_nat ex
        have ey' := atI_nat ey
        rw [show ((i : Nat) : Int) = 0 + ((i : Nat) : Int) by omega] at ex' ey'
        refine ⟨_, rfl, _, rfl, .inr (.inl ⟨a, _, _, _, rfl, rfl, ha, ex', _, rfl, _, rfl, .inr (.inl ⟨b, _, _, _, rfl, rfl, hb, ey', _, _, rfl, hp.2 i _ _ ex ey, true, rfl, iteF ?_⟩)⟩)⟩
        exact ⟨rfl, _, rfl⟩
      · rintro σ H' ⟨rfl, v, rfl⟩
        exact q
theorem ok_Lsame {f : Addr} {fd : FuncData} (F : Fun K "_law_same" "_law_same" s_Lsame f fd) (T : Txt K mg C_Ratio C_BadRatio C_CableError) (m : mg "_law_same" = some (.ref f)) (kp : PySem.W.keepIn K (.ref f) = true) (b : Binds K fd ["_law_told", "_law_due"] []) :
    ∀ n : Nat, FnOk P w K mg base CX0 (n + 1) f fd ["_law_told", "_law_due"] (sp_Lsame K n)
  | 0 => F.ok sc_Lsame (fun _ _ _ _ h => False.elim h) (fun _ _ _ _ _ _ _ _ _ h => False.elim h)
  | n + 1 => okr_Lsame F T (cal_mk (ok_Lsame F T m kp b n) m kp b)
theorem num_step {a : Int} {r : Int} {k : Nat} (ha : 0 ≤ a) (hb : a < 30 * 100000000 ^ k) (h0 : 0 ≤ r) (h1 : r < 100000000) : 0 ≤ a * 100000000 + r ∧ a * 100000000 + r < 30 * 100000000 ^ (k + 1) := by
  rw [Int.pow_succ, ← Int.mul_assoc]
  omega
theorem pow_leb {k b : Nat} (h : k ≤ b) (_ : b ≤ 6) : (100000000 : Int) ^ k ≤ 100000000 ^ b := by
  have e : ∀ n : Nat, (100000000 : Int) ^ n = ((100000000 ^ n : Nat) : Int) := fun n => (Int.natCast_pow 100000000 n).symm
  rw [e, e]
  exact Int.ofNat_le.mpr (Nat.pow_le_pow_right (by decide) h)
theorem ok_Lnumber {f : Addr} {fd : FuncData} (F : Fun K "_law_number" "_law_number" s_Lnumber f fd) (T : Txt K mg C_Ratio C_BadRatio C_CableError) (c_Ltake : Cal CX0 P w K mg base 1 "_law_take" sp_Ltake) :
    FnOk P w K mg base CX0 2 f fd ["_law_pool_here", "_law_blocks"] sp_Lnumber := by
  refine F.ok sc_Lnumber (fun vs H Q E h => ?_) (fun cdv A outer s H vs Q E hr h => ?_)
  · obtain ⟨p, b, rfl, _⟩ := h
    rfl
  · obtain ⟨p, b, rfl, hb6, hp, q⟩ := h
    refine ⟨_, (pss_cons (ps_set (i := 2) sc_Lnumber.nd rfl (Or.inl rfl) (pc_c c_Ltake hr (by decide) rfl pass0 (pa_cons (pv 0) (pa_cons pe_int pa_nil))))
      (pss_cons (ps_for PassesOwn.never rfl (pi_range1 (by rfl) T.n_range (pa_cons (pc_c c_Ltake hr (by decide) rfl pass0 (pa_cons (pv 0) (pa_cons (pe_op op_add (pv 1) pe_int) pa_nil))) pa_nil)) (pg_name (i := 3) sc_Lnumber.nd rfl (Or.inl rfl))
        (pss_one (ps_set (i := 2) sc_Lnumber.nd rfl (Or.inl rfl) (pe_op op_add (pe_op op_mulA (pv 2) pe_int) (pc_c c_Ltake hr (by decide) rfl pass0 (pa_cons (pv 0) (pa_cons pe_int pa_nil)))))))
      (pss_cons (ps_if (pt_cmpR op_eq (pc_c c_Ltake hr (by decide) rfl pass0 (pa_cons (pv 0) (pa_cons pe_int pa_nil))) pe_int (nomark _)) (pss_one (ps_ret (pe_op op_sub pe_int (pv 2)))) pss_nil)
      (pss_one (ps_ret (pv 2)))))), ?_⟩
    refine ⟨_, rfl, p, 30, rfl, hp, by decide, by decide, fun H1 n k1 p1 n0 n1 => ?_⟩
    refine ⟨_, rfl, _, rfl, _, _, rfl, rfl, p, _, rfl, p1, by omega, by omega, fun H2 r k2 p2 r0 r1 => ?_⟩
    have fin : ∀ (i : Nat) (H' : Hp) (m : Int) (v : Option V), i ≤ b → Kp p H H' → PoolAt H' p → 0 ≤ m → m < 30 * 100000000 ^ i →
        tSeq (tIfS (tTest (tOp rEq (tCall sp_Ltake [] E0 (tCons (tVar 0) (tCons (tC (.int 2)) tNil))) (tC (.int 1)))) (tRet (tOp (rI0 fun i j => .int (i - j)) (tC (.int 0)) (tVar 2))) tNext) (tRet (tVar 2)) { nx := fun _ H' => Q .non H', rt := Q } [some (.ref p), some (.int (b : Int)), some (.int m), v] H' := by
      intro i H' m v hi hk hp' m0 m1
      have m2 : m < 30 * 100000000 ^ b := Int.lt_of_lt_of_le m1 (Int.mul_le_mul_of_nonneg_left (pow_leb hi hb6) (by decide))
      refine ⟨_, rfl, p, 2, rfl, hp', by decide, by decide, fun H3 r k3 p3 _ _ => ⟨rfl, _, rfl, ?_⟩⟩
      refine ite2 (fun _ => ?_) (fun _ => ?_)
      · exact ⟨_, rfl, _, _, rfl, rfl, q _ _ (hk.trans k3) p3 (by omega) (by omega)⟩
      · exact ⟨_, rfl, q _ _ (hk.trans k3) p3 (by omega) (by omega)⟩
    refine ⟨r, rfl, by omega, by omega, for_range (lo := 0) (n := r.toNat) (fun i σ H' => ∃ (m : Int) (v : Option V), σ = [some (.ref p), some (.int (b : Int)), some (.int m), v] ∧ Kp p H H' ∧ PoolAt H' p ∧ 0 ≤ m ∧ m < 30 * 100000000 ^ i)
      ⟨n, none, rfl, k1.trans k2, p2, n0, by simpa using n1⟩ ?_ ?_⟩
    · rintro i σ H' hi ⟨m, v, rfl, hk, hp', m0, m1⟩
      refine ⟨_, rfl, _, _, rfl, rfl, .inl (.inr ⟨by decide, by decide⟩), _, rfl, p, _, rfl, hp', by decide, by decide, fun H3 r k3 p3 r0 r1 => ?_⟩
      have st := num_step m0 m1 r0 r1
      exact ⟨_, _, rfl, rfl, _, _, rfl, hk.trans k3, p3, st.1, st.2⟩
    · rintro σ H' ⟨m, v, rfl, hk, hp', m0, m1⟩
      exact fin _ H' m v (by omega) hk hp' m0 m1
theorem ok_Ldivisor {f : Addr} {fd : FuncData} (F : Fun K "_law_divisor" "_law_divisor" s_Ldivisor f fd) (T : Txt K mg C_Ratio C_BadRatio C_CableError)  :
    FnOk P w K mg base CX0 1 f fd ["_law_one", "_law_two"] sp_Ldivisor := by
  refine F.ok sc_Ldivisor (fun vs H Q E h => ?_) (fun cdv A outer s H vs Q E hr h => ?_)
  · obtain ⟨a, b, rfl, _⟩ := h
    rfl
  · obtain ⟨a, b, rfl, a0, b0, a1, b1, q⟩ := h
    refine ⟨_, (pss_cons (ps_for PassesOwn.never rfl (pi_range1 (by rfl) T.n_range (pa_cons pe_int pa_nil)) (pg_name (i := 2) sc_Ldivisor.nd rfl (Or.inl rfl))
        (pss_cons (ps_if (pt_cmpR op_eq (pv 1) pe_int (nomark _)) (pss_one ps_break) pss_nil)
      (pss_cons (ps_set (i := 3) sc_Ldivisor.nd rfl (Or.inl rfl) (pe_op op_mod (pe_callTy call_int1 (by rfl) T.n_int (by decide +kernel) (pa_cons (pv 0) pa_nil)) (pv 1)))
      (pss_cons (ps_set (i := 0) sc_Ldivisor.nd rfl (Or.inl rfl) (pv 1))
      (pss_one (ps_set (i := 1) sc_Ldivisor.nd rfl (Or.inl rfl) (pv 3)))))))
      (pss_one (ps_ret (pv 0)))), ?_⟩
    refine ⟨700, rfl, by decide, by decide, for_range (lo := 0) (n := 700) (fun i σ H' => ∃ (a' b' : Int) (v u : Option V), σ = [some (.int a'), some (.int b'), v, u] ∧ H' = H ∧ Euc (Nat.gcd a.natAbs b.natAbs) i a' b')
      ⟨a, b, none, none, rfl, rfl, a0, b0, rfl, .inr (.inl ⟨rfl, a1, b1⟩)⟩ ?_ ?_⟩
    · rintro i σ H' hi ⟨a', b', v, u, rfl, rfl, eu⟩
      refine ⟨_, rfl, rfl, _, rfl, ?_⟩
      refine ite2 (fun hb => ?_) (fun hb => ?_)
      · have hb0 : b' = 0 := V.int.inj (of_decide_eq_true hb)
        subst hb0
        have e := eu.end_
        subst e
        exact ⟨_, rfl, q⟩
      · have hb0 : b' ≠ 0 := fun z => hb (by rw [z]; rfl)
        refine ⟨_, rfl, .inl ⟨_, rfl, _, rfl, _, _, rfl, rfl, (by show (0 : Int) < b'; have := eu.b0; omega), ?_⟩⟩
        exact ⟨_, rfl, _, rfl, _, _, _, _, rfl, rfl, eu.step hb0⟩
    · rintro σ H' ⟨a', b', v, u, rfl, rfl, eu⟩
      have hb0 := eu.done (by decide)
      subst hb0
      have e := eu.end_
      subst e
      exact ⟨_, rfl, q⟩
theorem ok_Lshort {f : Addr} {fd : FuncData} (F : Fun K "_law_short" "_law_short" s_Lshort f fd) (T : Txt K mg C_Ratio C_BadRatio C_CableError) (c_Lnumber : Cal CX0 P w K mg base 2 "_law_number" sp_Lnumber) (c_Ltake : Cal CX0 P w K mg base 1 "_law_take" sp_Ltake) :
    FnOk P w K mg base CX0 3 f fd ["_law_pool_here"] sp_Lshort := by
  refine F.ok sc_Lshort (fun vs H Q E h => ?_) (fun cdv A outer s H vs Q E hr h => ?_)
  · obtain ⟨p, rfl, _⟩ := h
    rfl
  · obtain ⟨p, rfl, hp, q⟩ := h
    refine ⟨_, (pss_cons (ps_set (i := 1) sc_Lshort.nd rfl (Or.inl rfl) (pc_c c_Lnumber hr (by decide) rfl pass0 (pa_cons (pv 0) (pa_cons pe_int pa_nil))))
      (pss_cons (ps_if (pt_cmpR op_eq (pc_c c_Ltake hr (by decide) rfl pass0 (pa_cons (pv 0) (pa_cons pe_int pa_nil))) pe_int (nomark _)) (pss_cons (ps_set (i := 1) sc_Lshort.nd rfl (Or.inl rfl) (pc_c c_Ltake hr (by decide) rfl pass0 (pa_cons (pv 0) (pa_cons (pe_op op_pow pe_int pe_int) pa_nil))))
      (pss_one (ps_if (pt_cmpR op_eq (pc_c c_Ltake hr (by decide) rfl pass0 (pa_cons (pv 0) (pa_cons pe_int pa_nil))) pe_int (nomark _)) (pss_one (ps_set (i := 1) sc_Lshort.nd rfl (Or.inl rfl) (pe_op op_sub pe_int (pv 1)))) pss_nil))) pss_nil)
      (pss_one (ps_ret (pv 1))))), ?_⟩
    refine ⟨_, rfl, p, 3, rfl, by decide, hp, fun H1 n k1 p1 n0 n1 => ?_⟩
    refine ⟨_, rfl, p, 3, rfl, p1, by decide, by decide, fun H2 r k2 p2 _ _ => ⟨rfl, _, rfl, ?_⟩⟩
    refine ite2 (fun _ => ?_) (fun _ => ?_)
    · refine ⟨_, rfl, _, _, rfl, rfl, ⟨by decide, by decide, by decide⟩, p, _, rfl, p2, by decide, by decide, fun H3 m k3 p3 m0 m1 => ?_⟩
      have m2 : m < 2 ^ 100 := Int.lt_of_lt_of_le m1 (by decide)
      refine ⟨_, rfl, p, 2, rfl, p3, by decide, by decide, fun H4 r k4 p4 _ _ => ⟨rfl, _, rfl, ?_⟩⟩
      have kk := ((k1.trans k2).trans k3).trans k4
      refine ite2 (fun _ => ?_) (fun _ => ?_)
      · exact ⟨_, rfl, _, _, rfl, rfl, _, rfl, q _ _ kk p4 (by show (0 - m).natAbs < 2 ^ 100; omega)⟩
      · exact ⟨_, rfl, q _ _ kk p4 (by show m.natAbs < 2 ^ 100; omega)⟩
    · exact ⟨_, rfl, q _ _ (k1.trans k2) p2 (by show n.natAbs < 2 ^ 100; omega)⟩
theorem ok_Lbelow {f : Addr} {fd : FuncData} (F : Fun K "_law_below" "_law_below" s_Lbelow f fd) (T : Txt K mg C_Ratio C_BadRatio C_CableError) (c_Lshort : Cal CX0 P w K mg base 3 "_law_short" sp_Lshort) :
    FnOk P w K mg base CX0 4 f fd ["_law_pool_here"] sp_Lbelow := by
  refine F.ok sc_Lbelow (fun vs H Q E h => ?_) (fun cdv A outer s H vs Q E hr h => ?_)
  · obtain ⟨p, rfl, _⟩ := h
    rfl
  · obtain ⟨p, rfl, hp, q⟩ := h
    refine ⟨_, (pss_cons (ps_set (i := 1) sc_Lbelow.nd rfl (Or.inl rfl) (pe_callB call_abs (by rfl) T.n_abs (by decide +kernel) (pa_cons (pc_c c_Lshort hr (by decide) rfl pass0 (pa_cons (pv 0) pa_nil)) pa_nil)))
      (pss_cons (ps_if (pt_cmpR op_eq (pv 1) pe_int (nomark _)) (pss_one (ps_ret pe_int)) pss_nil)
      (pss_one (ps_ret (pv 1))))), ?_⟩
    refine ⟨_, rfl, p, rfl, hp, fun H1 n k1 p1 bn => ⟨_, rfl, ?_⟩⟩
    have ea : (if n < 0 then -n else n) = (n.natAbs : Int) := by split <;> omega
    have bn' : n.natAbs < 2 ^ 100 := bn
    rw [ea]
    refine ⟨_, rfl, rfl, _, rfl, ?_⟩
    refine ite2 (fun _ => ?_) (fun hz => ?_)
    · exact q _ _ k1 p1 (by decide) (by decide)
    · have nz : (n.natAbs : Int) ≠ 0 := fun z => hz (by rw [z]; rfl)
      exact ⟨_, rfl, q _ _ k1 p1 (by show ((n.natAbs : Int)).natAbs < 2 ^ 100; omega) (by omega)⟩
theorem ok_Lwhole {f : Addr} {fd : FuncData} (F : Fun K "_law_whole" "_law_whole" s_Lwhole f fd) (T : Txt K mg C_Ratio C_BadRatio C_CableError)  :
    FnOk P w K mg base CX0 1 f fd ["_law_told"] sp_Lwhole := by
  refine F.ok sc_Lwhole (fun vs H Q E h => ?_) (fun cdv A outer s H vs Q E hr h => ?_)
  · obtain ⟨a, rfl, _⟩ := h
    rfl
  · obtain ⟨a, rfl, q⟩ := h
    refine ⟨_, (pss_one (ps_ret (pe_and (pe_callB call_isi (by rfl) T.n_isinstance (by decide +kernel) (pa_cons (pv 0) (pa_cons (pe_bltn (v := .ty "int") (by rfl) T.n_int (by decide +kernel) rfl) pa_nil))) (pe_one (pe_not (pe_callB call_isi (by rfl) T.n_isinstance (by decide +kernel) (pa_cons (pv 0) (pa_cons (pe_bltn (v := .ty "bool") (by rfl) T.n_bool (by decide +kernel) rfl) pa_nil)))))))), ?_⟩
    refine ⟨_, rfl, _, _, _, .type "int", true, rfl, .ty "int", .base (.int a), kit_ty (by decide +kernel), true, rfl, iteT ?_⟩
    exact ⟨_, rfl, _, _, _, .type "bool", false, rfl, .ty "bool", .base (.int a), kit_ty (by decide +kernel), false, rfl, q⟩
theorem ok_Lis {f : Addr} {fd : FuncData} (F : Fun K "_law_is" "_law_is" s_Lis f fd) (T : Txt K mg C_Ratio C_BadRatio C_CableError) (c_Lwhole : Cal CX0 P w K mg base 1 "_law_whole" sp_Lwhole) (c_Ldivisor : Cal CX0 P w K mg base 1 "_law_divisor" sp_Ldivisor) :
    FnOk P w K mg base CX0 2 f fd ["_law_told", "_law_top", "_law_bottom"] (sp_Lis C_Ratio) := by
  refine F.ok sc_Lis (fun vs H Q E h => ?_) (fun cdv A outer s H vs Q E hr h => ?_)
  · obtain ⟨x, n, d, rfl, _⟩ := h
    rfl
  · obtain ⟨x, n, d, rfl, ⟨dx, hx⟩, d0, hn, hd, q⟩ := h
    refine ⟨_, (pss_cons (ps_if (PW.pt (pw_or (pt_not (pt_val (pe_callB (C8.call_isC T.i_Ratio) (by rfl) T.n_isinstance (by decide +kernel) (pa_cons (pv 0) (pa_cons (pe_glob (v := .ref C_Ratio) rfl T.g_Ratio rfl) pa_nil))))) (pw_or (pt_not (pt_val (pc_c c_Lwhole hr (by decide) rfl pass0 (pa_cons (pe_fld (pv 0) rfl) pa_nil)))) (pw_or1 (pt_not (pt_val (pc_c c_Lwhole hr (by decide) rfl pass0 (pa_cons (pe_fld (pv 0) rfl) pa_nil)))))))) (pss_one (ps_ret pe_bl)) pss_nil)
      (pss_cons (ps_if (PW.pt (pw_or (pt_cmpR op_lt (pe_fld (pv 0) rfl) pe_int (nomark _)) (pw_or1 (pt_cmpR op_ne (pe_op op_mulA (pe_fld (pv 0) rfl) (pv 2)) (pe_op op_mulA (pv 1) (pe_fld (pv 0) rfl)) (nomark _))))) (pss_one (ps_ret pe_bl)) pss_nil)
      (pss_one (ps_ret (pe_cmpR op_eq (pc_c c_Ldivisor hr (by decide) rfl pass0 (pa_cons (pe_callB call_abs (by rfl) T.n_abs (by decide +kernel) (pa_cons (pe_fld (pv 0) rfl) pa_nil)) (pa_cons (pe_fld (pv 0) rfl) pa_nil))) pe_int (nomark _)))))), ?_⟩
    have r1 : (rN n d).natAbs < 2 ^ 210 := hn.n d0
    have r2 : (rD n d).natAbs < 2 ^ 210 := hd.d d0
    have r3 := rD_pos (n := n) d0
    have r4 := r_cross n d
    have r5 := r_cop (n := n) d0
    refine ⟨_, rfl, x, dx, _, rfl, hx, true, rfl, iteF ?_⟩
    refine ⟨_, rfl, x, C_Ratio, dx, _, _, rfl, hx, T.cl_Ratio, T.nf_Ratio_num, rfs_num _ _, _, rfl, true, rfl, iteF ?_⟩
    refine ⟨_, rfl, x, C_Ratio, dx, _, _, rfl, hx, T.cl_Ratio, T.nf_Ratio_den, rfs_den _ _, _, rfl, true, rfl, iteF ?_⟩
    refine ⟨_, rfl, x, C_Ratio, dx, _, _, rfl, hx, T.cl_Ratio, T.nf_Ratio_den, rfs_den _ _, _, _, rfl, rfl, _, rfl, ?_⟩
    rw [decide_eq_false (show ¬ rD n d < 1 by omega)]
    refine iteF ?_
    refine ⟨_, rfl, x, C_Ratio, dx, _, _, rfl, hx, T.cl_Ratio, T.nf_Ratio_num, rfs_num _ _, _, rfl, _, _, rfl, rfl, .inr (wide_mul r1 hd (by decide) (by decide) (by decide)), ?_⟩
    refine ⟨_, rfl, _, rfl, x, C_Ratio, dx, _, _, rfl, hx, T.cl_Ratio, T.nf_Ratio_den, rfs_den _ _, _, _, rfl, rfl, .inr (wide_mul hn r2 (by decide) (by decide) (by decide)), rfl, _, rfl, ?_⟩
    rw [decide_eq_true (show V.int (rN n d * d) = V.int (n * rD n d) by rw [r4])]
    refine iteF ?_
    refine ⟨_, rfl, x, C_Ratio, dx, _, _, rfl, hx, T.cl_Ratio, T.nf_Ratio_num, rfs_num _ _, _, rfl, _, rfl, x, C_Ratio, dx, _, _, rfl, hx, T.cl_Ratio, T.nf_Ratio_den, rfs_den _ _, ?_⟩
    have ea : (if rN n d < 0 then -rN n d else rN n d) = ((rN n d).natAbs : Int) := by split <;> omega
    rw [ea]
    refine ⟨_, _, rfl, by omega, by omega, by omega, by omega, rfl, ?_⟩
    rw [Int.natAbs_natCast, r5]
    exact q
theorem bd_add {a b : Int} {k : Nat} (h : Bd a k) (g : Bd b k) : Bd (a + b) (k + 1) := Bd.add h g
theorem bd_sub {a b : Int} {k : Nat} (h : Bd a k) (g : Bd b k) : Bd (a - b) (k + 1) := by rw [Int.sub_eq_add_neg]; exact Bd.add h g.neg
theorem bd_abs {a : Int} {k : Nat} (h : Bd a k) : Bd (if a < 0 then -a else a) k := by split; exact h.neg; exact h
theorem own2_R {C a b : Addr} {sp : Sp} {E : XK} {H : Hp} {Q : VK} {T B U D : Int} (r : RV C H a T B) (r2 : RV C H b U D) (h : sp [.ref a, .ref b] H Q E) : rOwn2 C sp E (.ref a) (.ref b) H Q := by
  obtain ⟨dx, e⟩ := r
  obtain ⟨dy, e2⟩ := r2
  exact ⟨a, b, dx, dy, _, _, rfl, rfl, e, e2, h⟩
theorem ownI_R {C a : Addr} {sp : Sp} {E : XK} {H : Hp} {Q : VK} {T B i : Int} (r : RV C H a T B) (h : sp [.ref a, .int i] H Q E) : rOwnI C sp E (.ref a) (.int i) H Q := by
  obtain ⟨dx, e⟩ := r
  exact ⟨a, dx, _, i, rfl, rfl, e, h⟩
theorem Iown_R {C a : Addr} {sp : Sp} {E : XK} {H : Hp} {Q : VK} {T B i : Int} (r : RV C H a T B) (h : sp [.ref a, .int i] H Q E) : rIOwn C sp E (.int i) (.ref a) H Q := by
  obtain ⟨dx, e⟩ := r
  exact ⟨a, dx, _, i, rfl, rfl, e, h⟩
theorem own1_R {C a : Addr} {sp : Sp} {E : XK} {H : Hp} {Q : VK} {T B : Int} (r : RV C H a T B) (h : sp [.ref a] H Q E) : rOwn1 C sp E (.ref a) H Q := by
  obtain ⟨dx, e⟩ := r
  exact ⟨a, dx, _, rfl, e, h⟩
theorem ownN_R {C a : Addr} {sp : Sp} {E : XK} {H : Hp} {Q : VK} {T B U D : Int} {y : V} (r : RV C H a T B) (ry : NumV C H y U D) (h : sp [.ref a, y] H Q E) : rOwn2 C sp E (.ref a) y H Q ∨ rOwnI C sp E (.ref a) y H Q := by
  rcases ry with ⟨b, rfl, rb⟩ | ⟨rfl, rfl⟩
  · exact .inl (own2_R r rb h)
  · exact .inr (ownI_R r h)
theorem ok_Lrefused {f : Addr} {fd : FuncData} (F : Fun K "_law_refused" "_law_refused" s_Lrefused f fd) (T : Txt K mg C_Ratio C_BadRatio C_CableError) (c_Ratio_floordiv : Met (L2.CX P w) P w K mg base 4 C_Ratio "__floordiv__" (sp_Rfd C_Ratio C_BadRatio)) (c_Ratio_mod : Met (L2.CX P w) P w K mg base 6 C_Ratio "__mod__" (sp_Rmod C_Ratio C_BadRatio)) :
    FnOk P w K mg base CX0 7 f fd ["_law_one", "_law_two"] (sp_Lrefused C_Ratio) := by
  refine F.ok sc_Lrefused (fun vs H Q E h => ?_) (fun cdv A outer s H vs Q E hr h => ?_)
  · obtain ⟨a, y, T', B, D, rfl, _⟩ := h
    rfl
  · obtain ⟨a, y, T', B, D, rfl, r, ry, b0, d0, bT, bB, bD, q⟩ := h
    refine ⟨_, (pss_cons (ps_set (i := 2) sc_Lrefused.nd rfl (Or.inl rfl) pe_bl)
      (pss_cons (ps_set (i := 3) sc_Lrefused.nd rfl (Or.inl rfl) pe_bl)
      (C8.pss_cut (ps_try_as (i := 5) (Wout := fun _ _ _ _ => False) rfl rfl sc_Lrefused.nd rfl rfl ⟨rfl, by decide, .inl T.g_BadRatio⟩ takes0 (fun W pn xe tk _ => (pss_one (ps_set (i := 4) sc_Lrefused.nd rfl (Or.inl rfl) (pe_opS (OpRS.or (op_ownS c_Ratio_floordiv hr (by decide) (fun σ => passAt tk σ) T.sf_Ratio) (op_ownIS c_Ratio_floordiv hr (by decide) (fun σ => passAt tk σ) T.sf_Ratio T.rc_Ratio_floordiv T.fi_floordiv T.fr_floordiv T.su_Ratio)) (pv 0) (pv 1)))))
        (fun a oe cls d pn hz hf => (pss_one (ps_set (i := 2) sc_Lrefused.nd rfl (Or.inl rfl) (pe_and (pe_callB (call_isE2 T.e_BadRatio hz hf) (by rfl) T.n_isinstance (by decide +kernel) (pa_cons (pv 5) (pa_cons (pe_glob (v := .ref C_CableError) rfl T.g_CableError rfl) pa_nil))) (pe_one (pe_callB (call_isE2 T.e_BadRatio hz hf) (by rfl) T.n_isinstance (by decide +kernel) (pa_cons (pv 5) (pa_cons (pe_bltn (v := .ty "ValueError") (by rfl) T.n_ValueError (by decide +kernel) rfl) pa_nil)))))))))
      (pss_cons (ps_try_as (i := 5) (Wout := fun _ _ _ _ => False) rfl rfl sc_Lrefused.nd rfl rfl ⟨rfl, by decide, .inl T.g_BadRatio⟩ takes0 (fun W pn xe tk _ => (pss_one (ps_set (i := 4) sc_Lrefused.nd rfl (Or.inl rfl) (pe_opS (OpRS.or (op_ownS c_Ratio_mod hr (by decide) (fun σ => passAt tk σ) T.sf_Ratio) (op_ownIS c_Ratio_mod hr (by decide) (fun σ => passAt tk σ) T.sf_Ratio T.rc_Ratio_mod T.fi_mod T.fr_mod T.su_Ratio)) (pv 0) (pv 1)))))
        (fun a oe cls d pn hz hf => (pss_one (ps_set (i := 3) sc_Lrefused.nd rfl (Or.inl rfl) (pe_and (pe_callB (call_isE2 T.e_BadRatio hz hf) (by rfl) T.n_isinstance (by decide +kernel) (pa_cons (pv 5) (pa_cons (pe_glob (v := .ref C_CableError) rfl T.g_CableError rfl) pa_nil))) (pe_one (pe_callB (call_isE2 T.e_BadRatio hz hf) (by rfl) T.n_isinstance (by decide +kernel) (pa_cons (pv 5) (pa_cons (pe_bltn (v := .ty "ValueError") (by rfl) T.n_ValueError (by decide +kernel) rfl) pa_nil)))))))))
      (pss_one (ps_ret (pe_and (pv 2) (pe_one (pv 3))))))))), ?_⟩
    have b00 : ∀ k, Bd 0 k := fun k => Nat.two_pow_pos k
    refine ⟨fun σ' H1 => σ' = [some (.ref a), some y, some (.bl true), some (.bl false), none, none] ∧ Same H H1, ?_, ?_⟩
    · obtain ⟨dx, e⟩ := id r
      rcases ry with ⟨b, rfl, rb⟩ | ⟨rfl, rfl⟩
      · obtain ⟨db, eb⟩ := id rb
        exact ⟨_, rfl, _, rfl, .inl ⟨a, b, dx, db, _, _, rfl, rfl, e, eb, a, _, T', B, 0, D, rfl, r, .inl ⟨b, rfl, rb⟩, b0, d0, bT.le (by decide), bB.le (by decide), b00 _, bD.le (by decide), (fun _ H1 s1 => ⟨true, exm_self T.b_BadRatio T.ic_BadRatio T.t_BadRatio T.s_BadRatio, fun _ z hz => ⟨_, rfl, rfl, rfl, _, _, true, rfl, fun _ r => r, T.kt_cable, true, rfl, iteT ⟨_, rfl, rfl, rfl, _, _, true, rfl, fun _ r => r, T.kt_value, ⟨rfl, s1⟩⟩⟩, fun z => Bool.noConfusion z⟩), fun z => absurd rfl z⟩⟩
      · exact ⟨_, rfl, _, rfl, .inr ⟨a, dx, _, _, rfl, rfl, e, a, _, T', B, 0, 1, rfl, r, .inr ⟨rfl, rfl⟩, b0, d0, bT.le (by decide), bB.le (by decide), b00 _, bD.le (by decide), (fun _ H1 s1 => ⟨true, exm_self T.b_BadRatio T.ic_BadRatio T.t_BadRatio T.s_BadRatio, fun _ z hz => ⟨_, rfl, rfl, rfl, _, _, true, rfl, fun _ r => r, T.kt_cable, true, rfl, iteT ⟨_, rfl, rfl, rfl, _, _, true, rfl, fun _ r => r, T.kt_value, ⟨rfl, s1⟩⟩⟩, fun z => Bool.noConfusion z⟩), fun z => absurd rfl z⟩⟩
    rintro σ' H0 ⟨rfl, s0⟩
    replace r := r.same s0
    replace ry := ry.same s0
    obtain ⟨dx, e⟩ := id r
    rcases ry with ⟨b, rfl, rb⟩ | ⟨rfl, rfl⟩
    · obtain ⟨db, eb⟩ := id rb
      exact ⟨_, rfl, _, rfl, .inl ⟨a, b, dx, db, _, _, rfl, rfl, e, eb, a, _, T', B, 0, D, rfl, r, .inl ⟨b, rfl, rb⟩, b0, d0, bT, bB, b00 _, bD, (fun _ H1 s1 => ⟨true, exm_self T.b_BadRatio T.ic_BadRatio T.t_BadRatio T.s_BadRatio, fun _ z hz => ⟨_, rfl, rfl, rfl, _, _, true, rfl, fun _ r => r, T.kt_cable, true, rfl, iteT ⟨_, rfl, rfl, rfl, _, _, true, rfl, fun _ r => r, T.kt_value, ⟨_, rfl, true, rfl, iteT ⟨_, rfl, q _ (s0.trans s1)⟩⟩⟩⟩, fun z => Bool.noConfusion z⟩), fun z => absurd rfl z⟩⟩
    · exact ⟨_, rfl, _, rfl, .inr ⟨a, dx, _, _, rfl, rfl, e, a, _, T', B, 0, 1, rfl, r, .inr ⟨rfl, rfl⟩, b0, d0, bT, bB, b00 _, bD, (fun _ H1 s1 => ⟨true, exm_self T.b_BadRatio T.ic_BadRatio T.t_BadRatio T.s_BadRatio, fun _ z hz => ⟨_, rfl, rfl, rfl, _, _, true, rfl, fun _ r => r, T.kt_cable, true, rfl, iteT ⟨_, rfl, rfl, rfl, _, _, true, rfl, fun _ r => r, T.kt_value, ⟨_, rfl, true, rfl, iteT ⟨_, rfl, q _ (s0.trans s1)⟩⟩⟩⟩, fun z => Bool.noConfusion z⟩), fun z => absurd rfl z⟩⟩
theorem sgn_neg (a b : Int) : sgn (a - b) = 0 - sgn (b - a) := by
  unfold sgn
  split <;> split <;> (try split) <;> (try split) <;> omega
theorem sgn_due (c : Int) : (if decide (0 < c) = true then (1 : Int) else 0) - (if decide (c < 0) = true then 1 else 0) = sgn c := by
  unfold sgn
  rcases Int.lt_trichotomy c 0 with h | h | h
  · rw [decide_eq_false (show ¬ 0 < c by omega), decide_eq_true h, if_pos h]; rfl
  · subst h; rfl
  · rw [decide_eq_true h, decide_eq_false (show ¬ c < 0 by omega), if_neg (show ¬ c < 0 by omega), if_pos h]; rfl
theorem ok_law {f : Addr} {fd : FuncData} (F : Fun K "law" "law" s_law f fd) (T : Txt K mg C_Ratio C_BadRatio C_CableError) (c_Lshort : Cal CX0 P w K mg base 3 "_law_short" sp_Lshort) (c_Lpool : Cal CX0 P w K mg base 1 "_law_pool" sp_Lpool) (c_Lcell : Cal CX0 P w K mg base 1 "_law_cell" (sp_Lcell K)) (c_Lbelow : Cal CX0 P w K mg base 4 "_law_below" sp_Lbelow) (c_Ltake : Cal CX0 P w K mg base 1 "_law_take" sp_Ltake) (c_Ratio : Mak (L2.CX P w) P w K mg base 1 "Ratio" C_Ratio (sp_Ratio_init C_Ratio C_BadRatio)) (c_Lsame : Cal CX0 P w K mg base 2 "_law_same" (sp_Lsame K 1)) (c_Ratio_eq : Met CX0 P w K mg base 1 C_Ratio "__eq__" (sp_Req C_Ratio)) (c_Ratio_compare : Met CX0 P w K mg base 6 C_Ratio "compare" (sp_Rcmp C_Ratio)) (c_Lrefused : Cal CX0 P w K mg base 7 "_law_refused" (sp_Lrefused C_Ratio)) (c_Ratio_floordiv : Met (L2.CX P w) P w K mg base 4 C_Ratio "__floordiv__" (sp_Rfd C_Ratio C_BadRatio)) (c_Lwhole : Cal CX0 P w K mg base 1 "_law_whole" sp_Lwhole) (c_Lis : Cal CX0 P w K mg base 2 "_law_is" (sp_Lis C_Ratio)) (c_Ratio_mod : Met (L2.CX P w) P w K mg base 6 C_Ratio "__mod__" (sp_Rmod C_Ratio C_BadRatio)) :
    FnOk P w K mg base CX0 8 f fd ["_law_script"] (sp_law K) := by
  refine F.ok sc_law (fun vs H Q E h => ?_) (fun cdv A outer s H vs Q E hr h => ?_)
  · obtain ⟨a, ns, rfl, _⟩ := h
    rfl
  · obtain ⟨a, ns, rfl, hS, hlen, q⟩ := h
    refine ⟨_, (pss_cons (ps_set (i := 1) sc_law.nd rfl (Or.inl rfl) (pc_c c_Lshort hr (by decide) rfl pass0 (pa_cons (pc_c c_Lpool hr (by decide) rfl pass0 (pa_cons (pc_c c_Lcell hr (by decide) rfl pass0 (pa_cons (pv 0) (pa_cons pe_int pa_nil))) pa_nil)) pa_nil)))
      (pss_cons (ps_set (i := 2) sc_law.nd rfl (Or.inl rfl) (pc_c c_Lbelow hr (by decide) rfl pass0 (pa_cons (pc_c c_Lpool hr (by decide) rfl pass0 (pa_cons (pc_c c_Lcell hr (by decide) rfl pass0 (pa_cons (pv 0) (pa_cons pe_int pa_nil))) pa_nil)) pa_nil)))
      (pss_cons (ps_set (i := 3) sc_law.nd rfl (Or.inl rfl) (pc_c c_Lshort hr (by decide) rfl pass0 (pa_cons (pc_c c_Lpool hr (by decide) rfl pass0 (pa_cons (pc_c c_Lcell hr (by decide) rfl pass0 (pa_cons (pv 0) (pa_cons pe_int pa_nil))) pa_nil)) pa_nil)))
      (pss_cons (ps_set (i := 4) sc_law.nd rfl (Or.inl rfl) (pc_c c_Lbelow hr (by decide) rfl pass0 (pa_cons (pc_c c_Lpool hr (by decide) rfl pass0 (pa_cons (pc_c c_Lcell hr (by decide) rfl pass0 (pa_cons (pv 0) (pa_cons pe_int pa_nil))) pa_nil)) pa_nil)))
      (pss_cons (ps_set (i := 5) sc_law.nd rfl (Or.inl rfl) (pe_op op_add pe_int (pc_c c_Ltake hr (by decide) rfl pass0 (pa_cons (pc_c c_Lpool hr (by decide) rfl pass0 (pa_cons (pc_c c_Lcell hr (by decide) rfl pass0 (pa_cons (pv 0) (pa_cons pe_int pa_nil))) pa_nil)) (pa_cons pe_int pa_nil)))))
      (pss_cons (ps_set (i := 6) sc_law.nd rfl (Or.inl rfl) (pe_op op_mod (pe_callTy call_int1 (by rfl) T.n_int (by decide +kernel) (pa_cons (pc_c c_Lcell hr (by decide) rfl pass0 (pa_cons (pv 0) (pa_cons pe_int pa_nil))) pa_nil)) pe_int))
      (C8.pss_cut (ps_if (pt_cmpR op_eq (pv 6) pe_int (nomark _)) (pss_one (ps_set (i := 4) sc_law.nd rfl (Or.inl rfl) pe_int)) (pss_one (ps_if (pt_cmpR op_eq (pv 6) pe_int (nomark _)) (pss_cons (ps_set (i := 3) sc_law.nd rfl (Or.inl rfl) (pv 1))
      (pss_one (ps_set (i := 4) sc_law.nd rfl (Or.inl rfl) (pe_op op_mulA (pv 2) (pv 5))))) (pss_one (ps_if (pt_cmpR op_eq (pv 6) pe_int (nomark _)) (pss_cons (ps_set (i := 3) sc_law.nd rfl (Or.inl rfl) (pe_op op_mulA (pv 1) (pv 5)))
      (pss_one (ps_set (i := 4) sc_law.nd rfl (Or.inl rfl) (pe_op op_mulA (pv 2) (pv 5))))) (pss_one (ps_if (pt_cmpR op_eq (pv 6) pe_int (nomark _)) (pss_cons (ps_set (i := 3) sc_law.nd rfl (Or.inl rfl) (pe_op op_fdivW (pv 1) (pv 2)))
      (pss_one (ps_set (i := 4) sc_law.nd rfl (Or.inl rfl) pe_int))) pss_nil)))))))
      (pss_cons (ps_set (i := 7) sc_law.nd rfl (Or.inl rfl) (pc_mk c_Ratio hr (by decide) rfl passL (pa_cons (pv 1) (pa_cons (pv 2) pa_nil))))
      (pss_cons (ps_set (i := 8) sc_law.nd rfl (Or.inl rfl) (pc_mk c_Ratio hr (by decide) rfl passL (pa_cons (pv 3) (pa_cons (pv 4) pa_nil))))
      (pss_cons (ps_set (i := 9) sc_law.nd rfl (Or.inl rfl) (pe_op op_sub (pe_op op_mulA (pv 1) (pv 4)) (pe_op op_mulA (pv 3) (pv 2))))
      (C8.pss_cut (ps_set (i := 10) sc_law.nd rfl (Or.inl rfl) (pe_op op_sub (pe_callTy call_int1 (by rfl) T.n_int (by decide +kernel) (pa_cons (pe_cmpR op_gt (pv 9) pe_int (nomark _)) pa_nil)) (pe_callTy call_int1 (by rfl) T.n_int (by decide +kernel) (pa_cons (pe_cmpR op_lt (pv 9) pe_int (nomark _)) pa_nil))))
      (pss_cons (ps_if (PW.pt (pw_or (pt_not (pt_val (pc_c c_Lsame hr (by decide) rfl pass0 (pa_cons (pe_cmpR (op_cmpO c_Ratio_eq hr (by decide) pass0) (pv 7) (pv 8) (nomark _)) (pa_cons (pe_cmpR op_eq (pv 9) pe_int (nomark _)) pa_nil))))) (pw_or1 (pt_not (pt_val (pc_c c_Lsame hr (by decide) rfl pass0 (pa_cons (pe_cmpR (op_cmpO c_Ratio_eq hr (by decide) pass0) (pv 8) (pv 7) (nomark _)) (pa_cons (pe_cmpR op_eq (pv 9) pe_int (nomark _)) pa_nil)))))))) (pss_one (ps_ret pe_bl)) pss_nil)
      (pss_cons (ps_if (PW.pt (pw_or (pt_not (pt_val (pc_c c_Lsame hr (by decide) rfl pass0 (pa_cons (pc_mt c_Ratio_compare hr (by decide) pass0 (pv 7) (pa_cons (pv 8) pa_nil)) (pa_cons (pv 10) pa_nil))))) (pw_or1 (pt_not (pt_val (pc_c c_Lsame hr (by decide) rfl pass0 (pa_cons (pc_mt c_Ratio_compare hr (by decide) pass0 (pv 8) (pa_cons (pv 7) pa_nil)) (pa_cons (pe_op op_sub pe_int (pv 10)) pa_nil)))))))) (pss_one (ps_ret pe_bl)) pss_nil)
      (pss_cons (ps_if (PW.pt (pw_or (pt_not (pt_val (pc_c c_Lsame hr (by decide) rfl pass0 (pa_cons (pe_cmpR (op_cmpO c_Ratio_eq hr (by decide) pass0) (pv 7) (pc_mk c_Ratio hr (by decide) rfl passL (pa_cons (pe_op op_mulA (pv 1) pe_int) (pa_cons (pe_op op_mulA (pv 2) pe_int) pa_nil))) (nomark _)) (pa_cons pe_bl pa_nil))))) (pw_or1 (pt_not (pt_val (pc_c c_Lsame hr (by decide) rfl pass0 (pa_cons (pe_cmpR (op_cmpO c_Ratio_eq hr (by decide) pass0) (pc_mk c_Ratio hr (by decide) rfl passL (pa_cons (pe_op op_mulA (pv 3) pe_int) (pa_cons (pe_op op_mulA (pv 4) pe_int) pa_nil))) (pv 8) (nomark _)) (pa_cons pe_bl pa_nil)))))))) (pss_one (ps_ret pe_bl)) pss_nil)
      (C8.pss_cut (ps_if (PW.pt (pw_or (pt_cmpR op_eq (pv 6) pe_int (nomark _)) (pw_or1 (pt_cmpR op_eq (pv 6) pe_int (nomark _))))) (pss_cons (ps_set (i := 8) sc_law.nd rfl (Or.inl rfl) (pv 3))
      (pss_one (ps_if (pt_not (pt_val (pc_c c_Lsame hr (by decide) rfl pass0 (pa_cons (pc_mt c_Ratio_compare hr (by decide) pass0 (pv 7) (pa_cons (pv 8) pa_nil)) (pa_cons (pv 10) pa_nil))))) (pss_one (ps_ret pe_bl)) pss_nil))) pss_nil)
      (pss_cons (ps_if (PW.pt (pw_or (pt_not (pt_val (pc_c c_Lrefused hr (by decide) rfl pass0 (pa_cons (pv 7) (pa_cons pe_int pa_nil))))) (pw_or1 (pt_not (pt_val (pc_c c_Lrefused hr (by decide) rfl pass0 (pa_cons (pv 7) (pa_cons (pc_mk c_Ratio hr (by decide) rfl passL (pa_cons pe_int (pa_cons (pv 4) pa_nil))) pa_nil)))))))) (pss_one (ps_ret pe_bl)) pss_nil)
      (pss_cons (ps_if (pt_cmpR op_eq (pv 3) pe_int (nomark _)) (pss_one (ps_ret (pc_c c_Lrefused hr (by decide) rfl pass0 (pa_cons (pv 7) (pa_cons (pv 8) pa_nil))))) pss_nil)
      (pss_cons (ps_set (i := 11) sc_law.nd rfl (Or.inl rfl) (pe_op op_mulA (pv 1) (pv 4)))
      (pss_cons (ps_set (i := 12) sc_law.nd rfl (Or.inl rfl) (pe_op op_mulA (pv 2) (pv 3)))
      (C8.pss_cut (ps_if (pt_cmpR op_lt (pv 12) pe_int (nomark _)) (pss_cons (ps_set (i := 11) sc_law.nd rfl (Or.inl rfl) (pe_op op_sub pe_int (pv 11)))
      (pss_one (ps_set (i := 12) sc_law.nd rfl (Or.inl rfl) (pe_op op_sub pe_int (pv 12))))) pss_nil)
      (pss_cons (ps_set (i := 13) sc_law.nd rfl (Or.inl rfl) (pe_op (OpR.or (op_own c_Ratio_floordiv hr (by decide) passL T.sf_Ratio) (op_ownI c_Ratio_floordiv hr (by decide) passL T.sf_Ratio T.rc_Ratio_floordiv T.fi_floordiv T.fr_floordiv T.su_Ratio)) (pv 7) (pv 8)))
      (pss_cons (ps_if (PW.pt (pw_or (pt_not (pt_val (pc_c c_Lwhole hr (by decide) rfl pass0 (pa_cons (pv 13) pa_nil)))) (pw_or (pt_cmpR op_gt (pe_op op_mulA (pv 13) (pv 12)) (pv 11) (nomark _)) (pw_or1 (pt_cmpR op_ge (pv 11) (pe_op op_mulA (pe_op op_add (pv 13) pe_int) (pv 12)) (nomark _)))))) (pss_one (ps_ret pe_bl)) pss_nil)
      (pss_cons (ps_if (pt_not (pt_val (pc_c c_Lis hr (by decide) rfl pass0 (pa_cons (pe_op (OpR.or (op_own c_Ratio_mod hr (by decide) passL T.sf_Ratio) (op_ownI c_Ratio_mod hr (by decide) passL T.sf_Ratio T.rc_Ratio_mod T.fi_mod T.fr_mod T.su_Ratio)) (pv 7) (pv 8)) (pa_cons (pe_op op_sub (pe_op op_mulA (pv 1) (pv 4)) (pe_op op_mulA (pe_op op_mulA (pv 13) (pv 3)) (pv 2))) (pa_cons (pe_op op_mulA (pv 2) (pv 4)) pa_nil)))))) (pss_one (ps_ret pe_bl)) pss_nil)
      (pss_one (ps_ret (pe_and (pc_c c_Lis hr (by decide) rfl pass0 (pa_cons (pv 7) (pa_cons (pv 1) (pa_cons (pv 2) pa_nil)))) (pe_one (pc_c c_Lsame hr (by decide) rfl pass0 (pa_cons (pe_op (OpR.or (op_own c_Ratio_floordiv hr (by decide) passL T.sf_Ratio) (op_ownI c_Ratio_floordiv hr (by decide) passL T.sf_Ratio T.rc_Ratio_floordiv T.fi_floordiv T.fr_floordiv T.su_Ratio)) (pv 7) (pv 8)) (pa_cons (pv 13) pa_nil)))))))))))))))))))))))))))))), ?_⟩
    refine ⟨_, rfl, a, ns, 0, rfl, hS, fun c0 _ => ⟨c0, rfl, fun z0 Ha0 m0 u0 P0 => ⟨z0, rfl, P0, fun Hb0 top k0 _ b_top => ?_⟩⟩⟩
    have S0 : Same H Hb0 := Kp.same u0 k0 m0
    refine ⟨_, rfl, a, ns, 1, rfl, S0.seq hS, fun c1 _ => ⟨c1, rfl, fun z1 Ha1 m1 u1 P1 => ⟨z1, rfl, P1, fun Hb1 bot k1 _ b_bot g_bot => ?_⟩⟩⟩
    have S1 : Same H Hb1 := S0.trans (Kp.same u1 k1 m1)
    refine ⟨_, rfl, a, ns, 2, rfl, S1.seq hS, fun c2 _ => ⟨c2, rfl, fun z2 Ha2 m2 u2 P2 => ⟨z2, rfl, P2, fun Hb2 hi0 k2 _ b_hi0 => ?_⟩⟩⟩
    have S2 : Same H Hb2 := S1.trans (Kp.same u2 k2 m2)
    refine ⟨_, rfl, a, ns, 3, rfl, S2.seq hS, fun c3 _ => ⟨c3, rfl, fun z3 Ha3 m3 u3 P3 => ⟨z3, rfl, P3, fun Hb3 lo0 k3 _ b_lo0 g_lo0 => ?_⟩⟩⟩
    have S3 : Same H Hb3 := S2.trans (Kp.same u3 k3 m3)
    refine ⟨_, rfl, a, ns, 4, rfl, S3.seq hS, fun c4 _ => ⟨c4, rfl, fun z4 Ha4 m4 u4 P4 => ⟨z4, 5, rfl, P4, by decide, by decide, fun Hb4 f k4 _ f0 f1 => ⟨_, _, rfl, rfl, ?_⟩⟩⟩⟩
    have S4 : Same H Hb4 := S3.trans (Kp.same u4 k4 m4)
    have b_t : Bd (1 + f) 4 := by show (1 + f).natAbs < 2 ^ 4; omega
    refine ⟨_, rfl, a, ns, 5, rfl, S4.seq hS, fun c5 _ => .inl ⟨_, rfl, _, _, rfl, rfl, (by show (0 : Int) < 6; decide), ?_⟩⟩
    refine ⟨fun σ' H' => ∃ hi lo : Int, σ' = [some (.ref a), some (.int top), some (.int bot), some (.int hi), some (.int lo), some (.int (1 + f)), some (.int (c5 % 6)), none, none, none, none, none, none, none] ∧ H' = Hb4 ∧ Bd hi 104 ∧ Bd lo 104 ∧ 1 ≤ lo ∧ ((c5 % 6 = 1 ∨ c5 % 6 = 4) → lo = 1), ?_, ?_⟩
    · have glt : 1 ≤ bot * (1 + f) := by
        have := Int.mul_le_mul g_bot (show 1 ≤ 1 + f by omega) (by decide) (by omega)
        omega
      refine ⟨_, rfl, rfl, _, rfl, ?_⟩
      refine ite2 (fun _ => ?_) (fun w1 => ?_)
      · exact ⟨_, _, rfl, rfl, b_hi0.le (by decide), by decide, by decide, fun _ => rfl⟩
      have w1' : ¬ c5 % 6 = 1 := fun z => w1 (decide_eq_true (congrArg V.int z))
      refine ⟨_, rfl, rfl, _, rfl, ?_⟩
      refine ite2 (fun w2 => ?_) (fun _ => ?_)
      · have w2' : c5 % 6 = 2 := V.int.inj (of_decide_eq_true w2)
        refine ⟨_, rfl, _, rfl, _, rfl, _, _, rfl, rfl, .inr (wide_mul b_bot b_t (by decide) (by decide) (by decide)), ?_⟩
        exact ⟨_, _, rfl, rfl, b_top.le (by decide), Bd.mul b_bot b_t, glt, fun z => by omega⟩
      refine ⟨_, rfl, rfl, _, rfl, ?_⟩
      refine ite2 (fun w3 => ?_) (fun _ => ?_)
      · have w3' : c5 % 6 = 3 := V.int.inj (of_decide_eq_true w3)
        refine ⟨_, rfl, _, rfl, _, _, rfl, rfl, .inr (wide_mul b_top b_t (by decide) (by decide) (by decide)), _, rfl, _, rfl, _, _, rfl, rfl, .inr (wide_mul b_bot b_t (by decide) (by decide) (by decide)), ?_⟩
        exact ⟨_, _, rfl, rfl, Bd.mul b_top b_t, Bd.mul b_bot b_t, glt, fun z => by omega⟩
      refine ⟨_, rfl, rfl, _, rfl, ?_⟩
      refine ite2 (fun _ => ?_) (fun w4 => ?_)
      · refine ⟨_, rfl, _, rfl, _, _, rfl, rfl, wide_div (by omega) b_bot (by decide) (by decide), ?_⟩
        exact ⟨_, _, rfl, rfl, Bd.le (Nat.lt_of_le_of_lt (ediv_bd (by omega)) b_top) (by decide), by decide, by decide, fun _ => rfl⟩
      · have w4' : ¬ c5 % 6 = 4 := fun z => w4 (decide_eq_true (congrArg V.int z))
        exact ⟨_, _, rfl, rfl, b_hi0.le (by decide), b_lo0.le (by decide), g_lo0, fun z => by omega⟩
    rintro σ' H' ⟨hi, lo, rfl, rfl, b_hi, b_lo, g_lo, hw⟩
    have n_bot : bot ≠ 0 := by omega
    have n_lo : lo ≠ 0 := by omega
    have p_bot : 0 < bot := by omega
    have p_lo : 0 < lo := by omega
    refine ⟨_, rfl, _, rfl, fun x dx nx ndx nex => ⟨x, dx, top, bot, rfl, upd_same, Bd.le b_bot (by decide), fun z => absurd z n_bot, fun _ J1 h1 kk1 => ⟨rfl, ?_⟩⟩⟩
    have r1 : RV C_Ratio J1 x top bot := ⟨dx, h1⟩
    refine ⟨_, rfl, _, rfl, fun y dy ny ndy ney => ⟨y, dy, hi, lo, rfl, upd_same, Bd.le b_lo (by decide), fun z => absurd z n_lo, fun _ J2 h2 kk2 => ⟨rfl, ?_⟩⟩⟩
    have r2 : RV C_Ratio J2 y hi lo := ⟨dy, h2⟩
    replace r1 := r1.same (mk_same ny ndy kk2)
    -- cross, due
    refine ⟨_, rfl, _, rfl, _, _, rfl, rfl, .inr (wide_mul b_top b_lo (by decide) (by decide) (by decide)), _, rfl, _, rfl, _, _, rfl, rfl, .inr (wide_mul b_hi b_bot (by decide) (by decide) (by decide)), _, _, rfl, rfl, ?_⟩
    refine ⟨fun σ' J => σ' = [some (.ref a), some (.int top), some (.int bot), some (.int hi), some (.int lo), some (.int (1 + f)), some (.int (c5 % 6)), some (.ref x), some (.ref y), some (.int (top * lo - hi * bot)), some (.int (sgn (top * lo - hi * bot))), none, none, none] ∧ J = J2, ?_, ?_⟩
    · refine ⟨_, rfl, _, _, rfl, rfl, .inr ⟨_, rfl, _, rfl, _, _, rfl, rfl, .inr ⟨_, rfl, _, _, rfl, rfl, ?_⟩⟩⟩
      refine ⟨?_, rfl⟩
      rw [← sgn_due (top * lo - hi * bot)]
      rfl
    rintro σ' J2' ⟨rfl, rfl⟩
    generalize hd : sgn (top * lo - hi * bot) = due at *
    -- == both ways
    have e1 : decide (top * lo = hi * bot) = decide (V.int (top * lo - hi * bot) = V.int 0) := decide_eq_decide.mpr ⟨fun z => by rw [show top * lo - hi * bot = 0 by omega], fun z => by have := V.int.inj z; omega⟩
    have e2 : decide (hi * bot = top * lo) = decide (V.int (top * lo - hi * bot) = V.int 0) := by rw [← e1]; exact decide_eq_decide.mpr ⟨fun z => z.symm, fun z => z.symm⟩
    refine ⟨_, rfl, _, rfl, own2_R r1 r2 ⟨x, y, top, bot, hi, lo, rfl, r1, r2, n_bot, n_lo, ?_⟩⟩
    refine ⟨_, rfl, rfl, _, _, rfl, ⟨rfl, congrArg V.bl e1⟩, true, rfl, iteF ?_⟩
    refine ⟨_, rfl, _, rfl, own2_R r2 r1 ⟨y, x, hi, lo, top, bot, rfl, r2, r1, n_lo, n_bot, ?_⟩⟩
    refine ⟨_, rfl, rfl, _, _, rfl, ⟨rfl, congrArg V.bl e2⟩, true, rfl, iteF ?_⟩
    -- compare both ways
    obtain ⟨dx1, ex1⟩ := id r1
    refine ⟨_, rfl, x, dx1, _, rfl, ex1, rfs_no _ _ (by decide +kernel) (by decide +kernel), _, rfl, x, _, top, bot, hi, lo, rfl, r1, .inl ⟨y, rfl, r2⟩, p_bot, p_lo, b_top.le (by decide), b_bot.le (by decide), b_hi.le (by decide), b_lo.le (by decide), fun J3 t3 => ?_⟩
    replace r1 := r1.same t3
    replace r2 := r2.same t3
    refine ⟨_, rfl, _, _, rfl, ⟨rfl, by rw [hd]⟩, true, rfl, iteF ?_⟩
    obtain ⟨dy1, ey1⟩ := id r2
    refine ⟨_, rfl, y, dy1, _, rfl, ey1, rfs_no _ _ (by decide +kernel) (by decide +kernel), _, rfl, y, _, hi, lo, top, bot, rfl, r2, .inl ⟨x, rfl, r1⟩, p_lo, p_bot, b_hi.le (by decide), b_lo.le (by decide), b_top.le (by decide), b_bot.le (by decide), fun J4 t4 => ?_⟩
    replace r1 := r1.same t4
    replace r2 := r2.same t4
    refine ⟨_, rfl, _, _, rfl, rfl, _, _, rfl, ⟨rfl, by show V.int (sgn (hi * bot - top * lo)) = V.int (0 - due); rw [sgn_neg, hd]⟩, true, rfl, iteF ?_⟩
    -- six times
    have n6 : bot * 6 ≠ 0 := by omega
    have n6' : lo * 6 ≠ 0 := by omega
    refine ⟨_, rfl, _, rfl, _, _, rfl, rfl, .inl (.inr ⟨by decide, by decide⟩), _, rfl, _, _, rfl, rfl, .inl (.inr ⟨by decide, by decide⟩), fun z dz nz ndz nez => ⟨z, dz, top * 6, bot * 6, rfl, upd_same, Bd.le (Bd.mul b_bot (show Bd 6 3 by decide)) (by decide), fun w => absurd w n6, fun _ J5 h5 k5 => ⟨rfl, ?_⟩⟩⟩
    have t5 := mk_same nz ndz k5
    replace r1 := r1.same t5
    replace r2 := r2.same t5
    refine own2_R r1 ⟨dz, h5⟩ ⟨x, z, top, bot, top * 6, bot * 6, rfl, r1, ⟨dz, h5⟩, n_bot, n6, ?_⟩
    refine ⟨_, _, rfl, ⟨rfl, congrArg V.bl (decide_eq_true (by grind))⟩, true, rfl, iteF ?_⟩
    refine ⟨_, rfl, _, _, rfl, rfl, .inl (.inr ⟨by decide, by decide⟩), _, rfl, _, _, rfl, rfl, .inl (.inr ⟨by decide, by decide⟩), fun z' dz' nz' ndz' nez' => ⟨z', dz', hi * 6, lo * 6, rfl, upd_same, Bd.le (Bd.mul b_lo (show Bd 6 3 by decide)) (by decide), fun w => absurd w n6', fun _ J6 h6 k6 => ⟨rfl, ?_⟩⟩⟩
    have t6 := mk_same nz' ndz' k6
    replace r1 := r1.same t6
    replace r2 := r2.same t6
    refine ⟨_, rfl, own2_R ⟨dz', h6⟩ r2 ⟨z', y, hi * 6, lo * 6, hi, lo, rfl, ⟨dz', h6⟩, r2, n6', n_lo, ?_⟩⟩
    refine ⟨_, _, rfl, ⟨rfl, congrArg V.bl (decide_eq_true (by grind))⟩, true, rfl, iteF ?_⟩
    -- a whole number in the place of the second
    refine ⟨fun σ' J => ∃ yv : V, σ' = [some (.ref a), some (.int top), some (.int bot), some (.int hi), some (.int lo), some (.int (1 + f)), some (.int (c5 % 6)), some (.ref x), some yv, some (.int (top * lo - hi * bot)), some (.int due), none, none, none] ∧ RV C_Ratio J x top bot ∧ NumV C_Ratio J yv hi lo, ?_, ?_⟩
    · have act : lo = 1 → tSeq (tAsg (tVar 3) (gName 8)) (tIfS (tNot (tB (tCall (sp_Lsame K 1) [] E0 (tCons (tMeth C_Ratio "compare" (sp_Rcmp C_Ratio) [] E0 (tVar 7) (tCons (tVar 8) tNil)) (tCons (tVar 10) tNil))))) (tRet (tC (.bl false))) tNext)
          { nx := fun σ' J => ∃ yv : V, σ' = [some (.ref a), some (.int top), some (.int bot), some (.int hi), some (.int lo), some (.int (1 + f)), some (.int (c5 % 6)), some (.ref x), some yv, some (.int (top * lo - hi * bot)), some (.int due), none, none, none] ∧ RV C_Ratio J x top bot ∧ NumV C_Ratio J yv hi lo, rt := Q }
          [some (.ref a), some (.int top), some (.int bot), some (.int hi), some (.int lo), some (.int (1 + f)), some (.int (c5 % 6)), some (.ref x), some (.ref y), some (.int (top * lo - hi * bot)), some (.int due), none, none, none] J6 := fun l1 => by
        obtain ⟨dx2, ex2⟩ := id r1
        refine ⟨_, rfl, ?_⟩
        refine ⟨_, rfl, x, dx2, _, rfl, ex2, rfs_no _ _ (by decide +kernel) (by decide +kernel), _, rfl, x, _, top, bot, hi, 1, rfl, r1, .inr ⟨rfl, rfl⟩, p_bot, by decide, b_top.le (by decide), b_bot.le (by decide), b_hi.le (by decide), by decide, fun J7 t7 => ?_⟩
        refine ⟨_, rfl, _, _, rfl, ⟨rfl, by rw [← hd, l1]⟩, true, rfl, iteF ?_⟩
        exact ⟨.int hi, rfl, r1.same t7, .inr ⟨rfl, l1⟩⟩
      refine ⟨_, rfl, rfl, _, rfl, ?_⟩
      by_cases w1 : c5 % 6 = 1
      · rw [decide_eq_true (show V.int (c5 % 6) = V.int 1 by rw [w1])]
        exact iteT (iteT (act (hw (.inl w1))))
      · rw [decide_eq_false (show ¬ V.int (c5 % 6) = V.int 1 from fun z => w1 (V.int.inj z))]
        refine iteF ⟨_, rfl, rfl, _, rfl, ?_⟩
        by_cases w4 : c5 % 6 = 4
        · rw [decide_eq_true (show V.int (c5 % 6) = V.int 4 by rw [w4])]
          exact iteT (act (hw (.inr w4)))
        · rw [decide_eq_false (show ¬ V.int (c5 % 6) = V.int 4 from fun z => w4 (V.int.inj z))]
          exact iteF ⟨.ref y, rfl, r1, .inl ⟨y, rfl, r2⟩⟩
    clear r1 r2
    rintro σ' J ⟨yv, rfl, r1, ry⟩
    -- refused
    refine ⟨_, rfl, x, .int 0, top, bot, 1, rfl, r1, .inr ⟨rfl, rfl⟩, n_bot, by decide, b_top.le (by decide), b_bot.le (by decide), by decide, fun J7 t7 => ⟨true, rfl, iteF ?_⟩⟩
    replace r1 := r1.same t7
    replace ry := ry.same t7
    refine ⟨_, rfl, _, rfl, fun z dz nz ndz nez => ⟨z, dz, 0, lo, rfl, upd_same, Bd.le b_lo (by decide), fun w => absurd w n_lo, fun _ J8 h8 k8 => ⟨rfl, ?_⟩⟩⟩
    have t8 := mk_same nz ndz k8
    replace r1 := r1.same t8
    replace ry := ry.same t8
    refine ⟨x, .ref z, top, bot, lo, rfl, r1, .inl ⟨z, rfl, ⟨dz, h8⟩⟩, n_bot, n_lo, b_top.le (by decide), b_bot.le (by decide), b_lo.le (by decide), fun J9 t9 => ⟨true, rfl, iteF ?_⟩⟩
    replace r1 := r1.same t9
    replace ry := ry.same t9
    refine ⟨_, rfl, rfl, _, rfl, ?_⟩
    refine ite2 (fun h0 => ?_) (fun h0 => ?_)
    · have h0' : hi = 0 := V.int.inj (of_decide_eq_true h0)
      subst h0'
      exact ⟨_, rfl, _, rfl, x, yv, top, bot, lo, rfl, r1, ry, n_bot, n_lo, b_top.le (by decide), b_bot.le (by decide), b_lo.le (by decide), fun _ _ => q _⟩
    have n_hi : hi ≠ 0 := fun z => h0 (decide_eq_true (by rw [z]))
    -- size, part
    refine ⟨_, rfl, _, rfl, _, _, rfl, rfl, .inr (wide_mul b_top b_lo (by decide) (by decide) (by decide)), ?_⟩
    refine ⟨_, rfl, _, rfl, _, _, rfl, rfl, .inr (wide_mul b_bot b_hi (by decide) (by decide) (by decide)), ?_⟩
    have nP : bot * hi ≠ 0 := Int.mul_ne_zero n_bot n_hi
    have bS : Bd (top * lo) 204 := Bd.mul b_top b_lo
    have bP : Bd (bot * hi) 204 := Bd.mul b_bot b_hi
    refine ⟨fun σ' J' => ∃ sz pt : Int, σ' = [some (.ref a), some (.int top), some (.int bot), some (.int hi), some (.int lo), some (.int (1 + f)), some (.int (c5 % 6)), some (.ref x), some yv, some (.int (top * lo - hi * bot)), some (.int due), some (.int sz), some (.int pt), none] ∧ J' = J9 ∧ 0 < pt ∧ Bd sz 204 ∧ Bd pt 204 ∧ ((sz = top * lo ∧ pt = bot * hi) ∨ (sz = -(top * lo) ∧ pt = -(bot * hi))), ?_, ?_⟩
    · refine ⟨_, rfl, _, _, rfl, rfl, _, rfl, ?_⟩
      refine ite2 (fun hn => ?_) (fun hn => ?_)
      · have hn' := of_decide_eq_true hn
        refine ⟨_, rfl, _, _, rfl, rfl, _, rfl, _, _, rfl, rfl, _, _, rfl, rfl, by omega, ?_, ?_, .inr ⟨by omega, by omega⟩⟩
        · rw [Int.zero_sub]; exact bS.neg
        · rw [Int.zero_sub]; exact bP.neg
      · have hn' : ¬ bot * hi < 0 := fun z => hn (decide_eq_true z)
        exact ⟨_, _, rfl, rfl, by omega, bS, bP, .inl ⟨rfl, rfl⟩⟩
    rintro σ' J' ⟨sz, pt, rfl, rfl, p_pt, b_sz, b_pt, hsp⟩
    have hq : (top * lo).fdiv (bot * hi) = sz / pt := by
      rcases hsp with ⟨e1, e2⟩ | ⟨e1, e2⟩
      · rw [← e1, ← e2, fd_pos p_pt]
      · rw [← Int.neg_fdiv_neg, ← e1, ← e2, fd_pos p_pt]
    have bq : Bd (sz / pt) 204 := Nat.lt_of_le_of_lt (ediv_bd p_pt) b_sz
    have q1 : sz / pt * pt ≤ sz := Int.ediv_mul_le sz (by omega)
    have q2 : sz < (sz / pt + 1) * pt := Int.lt_ediv_add_one_mul_self sz p_pt
    have bq1 : Bd (sz / pt + 1) 205 := Bd.add bq (by decide)
    -- told
    refine ⟨_, rfl, _, rfl, ownN_R r1 ry ⟨x, yv, top, bot, hi, lo, rfl, r1, ry, n_bot, n_lo, b_top.le (by decide), b_bot.le (by decide), b_hi.le (by decide), b_lo.le (by decide), fun z => absurd z n_hi, fun _ J10 t10 => ?_⟩⟩
    rw [hq]
    replace r1 := r1.same t10
    replace ry := ry.same t10
    refine ⟨_, rfl, _, rfl, true, rfl, iteF ?_⟩
    refine ⟨_, rfl, _, rfl, _, _, rfl, rfl, .inr (wide_mul bq b_pt (by decide) (by decide) (by decide)), _, rfl, _, _, rfl, rfl, _, rfl, ?_⟩
    rw [decide_eq_false (show ¬ sz < sz / pt * pt by omega)]
    refine iteF ?_
    refine ⟨_, rfl, _, rfl, _, _, rfl, rfl, _, rfl, _, _, rfl, rfl, .inr (wide_mul bq1 b_pt (by decide) (by decide) (by decide)), _, _, rfl, rfl, _, rfl, ?_⟩
    rw [decide_eq_false (show ¬ (sz / pt + 1) * pt ≤ sz by omega)]
    refine iteF ?_
    -- the remainder
    refine ⟨_, rfl, _, rfl, ownN_R r1 ry ⟨x, yv, top, bot, hi, lo, rfl, r1, ry, n_bot, n_lo, b_top.le (by decide), b_bot.le (by decide), b_hi.le (by decide), b_lo.le (by decide), fun z => absurd z n_hi, fun _ J11 p t11 rp => ?_⟩⟩
    rw [hq] at rp
    replace r1 := r1.same t11
    replace ry := ry.same t11
    have brem : Bd (top * lo - sz / pt * hi * bot) 204 := by
      have e : (top * lo - sz / pt * hi * bot).natAbs = (sz - sz / pt * pt).natAbs := by
        rcases hsp with ⟨e1, e2⟩ | ⟨e1, e2⟩
        · have : top * lo - sz / pt * hi * bot = sz - sz / pt * pt := by
            generalize sz / pt = k at *
            rw [e1, e2]; grind
          rw [this]
        · have : top * lo - sz / pt * hi * bot = -(sz - sz / pt * pt) := by
            generalize sz / pt = k at *
            rw [e1, e2]; grind
          rw [this, Int.natAbs_neg]
      have q3 : (sz / pt + 1) * pt = sz / pt * pt + pt := by rw [Int.add_mul, Int.one_mul]
      have b_pt' : pt.natAbs < 2 ^ 204 := b_pt
      show (top * lo - sz / pt * hi * bot).natAbs < 2 ^ 204
      rw [e]
      omega
    refine ⟨_, rfl, _, rfl, _, _, rfl, rfl, .inr (wide_mul b_top b_lo (by decide) (by decide) (by decide)), _, rfl, _, rfl, _, _, rfl, rfl, .inr (wide_mul bq b_hi (by decide) (by decide) (by decide)), _, rfl, _, _, rfl, rfl, .inr (wide_mul (Bd.mul bq b_hi) b_bot (by decide) (by decide) (by decide)), _, _, rfl, rfl, ?_⟩
    refine ⟨_, rfl, _, rfl, _, _, rfl, rfl, .inr (wide_mul b_bot b_lo (by decide) (by decide) (by decide)), ?_⟩
    refine ⟨p, _, _, rfl, rp, Int.mul_ne_zero n_bot n_lo, brem.le (by decide), Bd.le (Bd.mul b_bot b_lo) (by decide), true, rfl, iteF ?_⟩
    -- the end
    refine ⟨_, rfl, _, rfl, _, rfl, x, top, bot, rfl, r1, n_bot, b_top.le (by decide), b_bot.le (by decide), true, rfl, iteT ?_⟩
    refine ⟨_, rfl, _, rfl, ownN_R r1 ry ⟨x, yv, top, bot, hi, lo, rfl, r1, ry, n_bot, n_lo, b_top.le (by decide), b_bot.le (by decide), b_hi.le (by decide), b_lo.le (by decide), fun z => absurd z n_hi, fun _ J12 t12 => ?_⟩⟩
    rw [hq]
    exact ⟨_, rfl, _, _, rfl, ⟨rfl, rfl⟩, q _⟩
end
theorem all_mk {l : PySem.W.OpenLaw} {w : World} {K : PySem.W.Frag} {h : Heap} {mg : Str → Option Value} {fa C_Ratio C_BadRatio C_CableError : Addr} {g_Ratio_add : Addr} {g_Ratio_sub : Addr} {g_Ratio_mul : Addr} {f_Ratio_init : Addr} {od_Ratio_init an_Ratio_init : Option Addr} {sl_Ratio_init : Array (Option Value)} {oc_Ratio_init kV_Ratio_init dc_Ratio_init pm_Ratio_init cd_Ratio_init ct_Ratio_init : Value} {f_uratio_of : Addr} {od_uratio_of an_uratio_of : Option Addr} {sl_uratio_of : Array (Option Value)} {oc_uratio_of kV_uratio_of dc_uratio_of pm_uratio_of cd_uratio_of ct_uratio_of : Value} {f_Ratio_neg : Addr} {od_Ratio_neg an_Ratio_neg : Option Addr} {sl_Ratio_neg : Array (Option Value)} {oc_Ratio_neg kV_Ratio_neg dc_Ratio_neg pm_Ratio_neg cd_Ratio_neg ct_Ratio_neg : Value} {f_Ratio_add : Addr} {od_Ratio_add an_Ratio_add : Option Addr} {sl_Ratio_add : Array (Option Value)} {oc_Ratio_add kV_Ratio_add dc_Ratio_add pm_Ratio_add cd_Ratio_add ct_Ratio_add : Value} {f_Ratio_sub : Addr} {od_Ratio_sub an_Ratio_sub : Option Addr} {sl_Ratio_sub : Array (Option Value)} {oc_Ratio_sub kV_Ratio_sub dc_Ratio_sub pm_Ratio_sub cd_Ratio_sub ct_Ratio_sub : Value} {f_Ratio_mul : Addr} {od_Ratio_mul an_Ratio_mul : Option Addr} {sl_Ratio_mul : Array (Option Value)} {oc_Ratio_mul kV_Ratio_mul dc_Ratio_mul pm_Ratio_mul cd_Ratio_mul ct_Ratio_mul : Value} {f_Ratio_eq : Addr} {od_Ratio_eq an_Ratio_eq : Option Addr} {sl_Ratio_eq : Array (Option Value)} {oc_Ratio_eq kV_Ratio_eq dc_Ratio_eq pm_Ratio_eq cd_Ratio_eq ct_Ratio_eq : Value} {f_Ratio_compare : Addr} {od_Ratio_compare an_Ratio_compare : Option Addr} {sl_Ratio_compare : Array (Option Value)} {oc_Ratio_compare kV_Ratio_compare dc_Ratio_compare pm_Ratio_compare cd_Ratio_compare ct_Ratio_compare : Value} {f_Ratio_floordiv : Addr} {od_Ratio_floordiv an_Ratio_floordiv : Option Addr} {sl_Ratio_floordiv : Array (Option Value)} {oc_Ratio_floordiv kV_Ratio_floordiv dc_Ratio_floordiv pm_Ratio_floordiv cd_Ratio_floordiv ct_Ratio_floordiv : Value} {f_Ratio_mod : Addr} {od_Ratio_mod an_Ratio_mod : Option Addr} {sl_Ratio_mod : Array (Option Value)} {oc_Ratio_mod kV_Ratio_mod dc_Ratio_mod pm_Ratio_mod cd_Ratio_mod ct_Ratio_mod : Value} {f_Lcell : Addr} {od_Lcell an_Lcell : Option Addr} {sl_Lcell : Array (Option Value)} {oc_Lcell kV_Lcell dc_Lcell pm_Lcell cd_Lcell ct_Lcell : Value} {f_Lpool : Addr} {od_Lpool an_Lpool : Option Addr} {sl_Lpool : Array (Option Value)} {oc_Lpool kV_Lpool dc_Lpool pm_Lpool cd_Lpool ct_Lpool : Value} {f_Ltake : Addr} {od_Ltake an_Ltake : Option Addr} {sl_Ltake : Array (Option Value)} {oc_Ltake kV_Ltake dc_Ltake pm_Ltake cd_Ltake ct_Ltake : Value} {f_Lsame : Addr} {od_Lsame an_Lsame : Option Addr} {sl_Lsame : Array (Option Value)} {oc_Lsame kV_Lsame dc_Lsame pm_Lsame cd_Lsame ct_Lsame : Value} {f_Lnumber : Addr} {od_Lnumber an_Lnumber : Option Addr} {sl_Lnumber : Array (Option Value)} {oc_Lnumber kV_Lnumber dc_Lnumber pm_Lnumber cd_Lnumber ct_Lnumber : Value} {f_Ldivisor : Addr} {od_Ldivisor an_Ldivisor : Option Addr} {sl_Ldivisor : Array (Option Value)} {oc_Ldivisor kV_Ldivisor dc_Ldivisor pm_Ldivisor cd_Ldivisor ct_Ldivisor : Value} {f_Lshort : Addr} {od_Lshort an_Lshort : Option Addr} {sl_Lshort : Array (Option Value)} {oc_Lshort kV_Lshort dc_Lshort pm_Lshort cd_Lshort ct_Lshort : Value} {f_Lbelow : Addr} {od_Lbelow an_Lbelow : Option Addr} {sl_Lbelow : Array (Option Value)} {oc_Lbelow kV_Lbelow dc_Lbelow pm_Lbelow cd_Lbelow ct_Lbelow : Value} {f_Lwhole : Addr} {od_Lwhole an_Lwhole : Option Addr} {sl_Lwhole : Array (Option Value)} {oc_Lwhole kV_Lwhole dc_Lwhole pm_Lwhole cd_Lwhole ct_Lwhole : Value} {f_Lis : Addr} {od_Lis an_Lis : Option Addr} {sl_Lis : Array (Option Value)} {oc_Lis kV_Lis dc_Lis pm_Lis cd_Lis ct_Lis : Value} {f_Lrefused : Addr} {od_Lrefused an_Lrefused : Option Addr} {sl_Lrefused : Array (Option Value)} {oc_Lrefused kV_Lrefused dc_Lrefused pm_Lrefused cd_Lrefused ct_Lrefused : Value} {f_law : Addr} {od_law an_law : Option Addr} {sl_law : Array (Option Value)} {oc_law kV_law dc_law pm_law cd_law ct_law : Value}
    (X : K.In h) (G : h.Ns mainGlobals mg) (hfa : mg "law" = some (.ref fa))
    (g_Ratio : PySem.W.nsIn K mainGlobals "Ratio" = some (some (.ref C_Ratio)))
    (pg_Ratio : PySem.W.plainGet K C_Ratio Str.empty = true)
    (hd_Ratio : PySem.W.hasDictIn K C_Ratio = true)
    (po_Ratio : PySem.W.plainOver K C_Ratio = true)
    (sa_Ratio : PySem.W.findIn K (.ref C_Ratio) "__setattr__" = some (some (.builtin "object.__setattr__")))
    (nf_Ratio_num : PySem.W.findIn K (.ref C_Ratio) "num" = some none)
    (nf_Ratio_den : PySem.W.findIn K (.ref C_Ratio) "den" = some none)
    (ha_Ratio : PySem.W.findIn K (.ref C_Ratio) "__class__" = some (some (.builtin "object.__class__")))
    (hn_Ratio : PySem.W.specialIn K (.builtin "object.__class__") "__get__" = some (some (.builtin "getset_descriptor.__get__")))
    (ht_Ratio : PySem.W.takesIn K (.builtin "object.__class__") = some true)
    (hm_Ratio : PySem.W.mroIn K C_Ratio (.type "object") = some true)
    (me_Ratio : PySem.W.kitOne K (.ref C_Ratio) (.ref C_Ratio) = some true)
    (g_BadRatio : PySem.W.nsIn K mainGlobals "BadRatio" = some (some (.ref C_BadRatio)))
    (x_BadRatio : PySem.W.excIn K C_BadRatio [.type "ValueError", .type "Exception", .type "BaseException", .type "object"] "ValueError.__new__" = true)
    (k_BadRatio : PySem.W.keepIn K (.ref C_BadRatio) = true)
    (b_BadRatio : PySem.W.subIn K (.ref C_BadRatio) (.type "BaseException") = some true)
    (t_BadRatio : PySem.W.typeIn K (.ref C_BadRatio) = some (.type "type"))
    (ic_BadRatio : PySem.W.isClsIn K C_BadRatio = true)
    (s_BadRatio : PySem.W.subIn K (.ref C_BadRatio) (.ref C_BadRatio) = some true)
    (eg_BadRatio : PySem.W.findIn K (.ref C_BadRatio) "__getattribute__" = some (some (.builtin "BaseException.__getattribute__")))
    (ek_BadRatio : PySem.W.findIn K (.ref C_BadRatio) "__getattr__" = some none)
    (ed_BadRatio : PySem.W.hasDictIn K C_BadRatio = true)
    (ea_BadRatio : PySem.W.findIn K (.ref C_BadRatio) "__class__" = some (some (.builtin "object.__class__")))
    (en_BadRatio : PySem.W.specialIn K (.builtin "object.__class__") "__get__" = some (some (.builtin "getset_descriptor.__get__")))
    (et_BadRatio : PySem.W.takesIn K (.builtin "object.__class__") = some true)
    (em_BadRatio : PySem.W.mroIn K C_BadRatio (.type "object") = some true)
    (g_CableError : PySem.W.nsIn K mainGlobals "CableError" = some (some (.ref C_CableError)))
    (sf_Ratio : PySem.W.selfFirst K C_Ratio = true)
    (su_Ratio : PySem.W.subIn K (.type "int") (.ref C_Ratio) = some false)
    (us_Ratio : PySem.W.subIn K (.ref C_Ratio) (.type "int") = some false)
    (rh_Ratio_add : PySem.W.findIn K (.ref C_Ratio) "__radd__" = some (some (.ref g_Ratio_add)))
    (rh_Ratio_sub : PySem.W.findIn K (.ref C_Ratio) "__rsub__" = some (some (.ref g_Ratio_sub)))
    (rh_Ratio_mul : PySem.W.findIn K (.ref C_Ratio) "__rmul__" = some (some (.ref g_Ratio_mul)))
    (rn_Ratio_floordiv : PySem.W.findIn K (.ref C_Ratio) "__rfloordiv__" = some none)
    (rn_Ratio_mod : PySem.W.findIn K (.ref C_Ratio) "__rmod__" = some none)
    (fi0_add : PySem.W.findIn K (.type "int") "__add__" = some (some (.builtin "int.__add__")))
    (fr0_add : PySem.W.findIn K (.type "int") "__radd__" = some (some (.builtin "int.__radd__")))
    (fi0_floordiv : PySem.W.findIn K (.type "int") "__floordiv__" = some (some (.builtin "int.__floordiv__")))
    (fr0_floordiv : PySem.W.findIn K (.type "int") "__rfloordiv__" = some (some (.builtin "int.__rfloordiv__")))
    (fi0_mod : PySem.W.findIn K (.type "int") "__mod__" = some (some (.builtin "int.__mod__")))
    (fr0_mod : PySem.W.findIn K (.type "int") "__rmod__" = some (some (.builtin "int.__rmod__")))
    (fi0_mul : PySem.W.findIn K (.type "int") "__mul__" = some (some (.builtin "int.__mul__")))
    (fr0_mul : PySem.W.findIn K (.type "int") "__rmul__" = some (some (.builtin "int.__rmul__")))
    (fi0_sub : PySem.W.findIn K (.type "int") "__sub__" = some (some (.builtin "int.__sub__")))
    (fr0_sub : PySem.W.findIn K (.type "int") "__rsub__" = some (some (.builtin "int.__rsub__")))
    (n_isinstance : PySem.W.nsIn K mainGlobals "isinstance" = some none)
    (n_len : PySem.W.nsIn K mainGlobals "len" = some none)
    (n_int : PySem.W.nsIn K mainGlobals "int" = some none)
    (n_abs : PySem.W.nsIn K mainGlobals "abs" = some none)
    (n_bool : PySem.W.nsIn K mainGlobals "bool" = some none)
    (n_str : PySem.W.nsIn K mainGlobals "str" = some none)
    (n_tuple : PySem.W.nsIn K mainGlobals "tuple" = some none)
    (n_list : PySem.W.nsIn K mainGlobals "list" = some none)
    (n_range : PySem.W.nsIn K mainGlobals "range" = some none)
    (n_ValueError : PySem.W.nsIn K mainGlobals "ValueError" = some none)
    (gi_gcd : PySem.W.nsIn K mainGlobals "gcd" = some (some (.builtin "math.gcd")))
    (ki_int : PySem.W.kitOne K (.type "int") (.ref C_Ratio) = some false)
    (kt_cable : PySem.W.kitOne K (.ref C_BadRatio) (.ref C_CableError) = some true)
    (kt_value : PySem.W.kitOne K (.ref C_BadRatio) (.type "ValueError") = some true)
    (mk_Ratio : PySem.W.makesIn K C_Ratio = true)
    (mkk_Ratio : PySem.W.keepIn K (.ref C_Ratio) = true)
    (a_Ratio_init : PySem.W.findIn K (.ref C_Ratio) "__init__" = some (some (.ref f_Ratio_init)))
    (j_Ratio_init : PySem.W.isFn K (.ref f_Ratio_init) = true)
    (l_Ratio_init : K.lookup f_Ratio_init = some ⟨oc_Ratio_init, od_Ratio_init, .func (PySem.W.fnOf "__init__" "Ratio.__init__" (defArgs s_Ratio_init) (defBody s_Ratio_init) (defScope s_Ratio_init) .none kV_Ratio_init dc_Ratio_init pm_Ratio_init an_Ratio_init cd_Ratio_init ct_Ratio_init), sl_Ratio_init⟩)
    (q_Ratio_init : PySem.W.codeIn K cd_Ratio_init "Ratio.__init__" = true)
    (k_Ratio_init : PySem.W.keepIn K (.ref f_Ratio_init) = true)
    (a_uratio_of : PySem.W.nsIn K mainGlobals "_ratio_of" = some (some (.ref f_uratio_of)))
    (l_uratio_of : K.lookup f_uratio_of = some ⟨oc_uratio_of, od_uratio_of, .func (PySem.W.fnOf "_ratio_of" "_ratio_of" (defArgs s_uratio_of) (defBody s_uratio_of) (defScope s_uratio_of) .none kV_uratio_of dc_uratio_of pm_uratio_of an_uratio_of cd_uratio_of ct_uratio_of), sl_uratio_of⟩)
    (q_uratio_of : PySem.W.codeIn K cd_uratio_of "_ratio_of" = true)
    (k_uratio_of : PySem.W.keepIn K (.ref f_uratio_of) = true)
    (a_Ratio_neg : PySem.W.findIn K (.ref C_Ratio) "__neg__" = some (some (.ref f_Ratio_neg)))
    (j_Ratio_neg : PySem.W.isFn K (.ref f_Ratio_neg) = true)
    (l_Ratio_neg : K.lookup f_Ratio_neg = some ⟨oc_Ratio_neg, od_Ratio_neg, .func (PySem.W.fnOf "__neg__" "Ratio.__neg__" (defArgs s_Ratio_neg) (defBody s_Ratio_neg) (defScope s_Ratio_neg) .none kV_Ratio_neg dc_Ratio_neg pm_Ratio_neg an_Ratio_neg cd_Ratio_neg ct_Ratio_neg), sl_Ratio_neg⟩)
    (q_Ratio_neg : PySem.W.codeIn K cd_Ratio_neg "Ratio.__neg__" = true)
    (k_Ratio_neg : PySem.W.keepIn K (.ref f_Ratio_neg) = true)
    (a_Ratio_add : PySem.W.findIn K (.ref C_Ratio) "__add__" = some (some (.ref f_Ratio_add)))
    (j_Ratio_add : PySem.W.isFn K (.ref f_Ratio_add) = true)
    (l_Ratio_add : K.lookup f_Ratio_add = some ⟨oc_Ratio_add, od_Ratio_add, .func (PySem.W.fnOf "__add__" "Ratio.__add__" (defArgs s_Ratio_add) (defBody s_Ratio_add) (defScope s_Ratio_add) .none kV_Ratio_add dc_Ratio_add pm_Ratio_add an_Ratio_add cd_Ratio_add ct_Ratio_add), sl_Ratio_add⟩)
    (q_Ratio_add : PySem.W.codeIn K cd_Ratio_add "Ratio.__add__" = true)
    (k_Ratio_add : PySem.W.keepIn K (.ref f_Ratio_add) = true)
    (a_Ratio_sub : PySem.W.findIn K (.ref C_Ratio) "__sub__" = some (some (.ref f_Ratio_sub)))
    (j_Ratio_sub : PySem.W.isFn K (.ref f_Ratio_sub) = true)
    (l_Ratio_sub : K.lookup f_Ratio_sub = some ⟨oc_Ratio_sub, od_Ratio_sub, .func (PySem.W.fnOf "__sub__" "Ratio.__sub__" (defArgs s_Ratio_sub) (defBody s_Ratio_sub) (defScope s_Ratio_sub) .none kV_Ratio_sub dc_Ratio_sub pm_Ratio_sub an_Ratio_sub cd_Ratio_sub ct_Ratio_sub), sl_Ratio_sub⟩)
    (q_Ratio_sub : PySem.W.codeIn K cd_Ratio_sub "Ratio.__sub__" = true)
    (k_Ratio_sub : PySem.W.keepIn K (.ref f_Ratio_sub) = true)
    (a_Ratio_mul : PySem.W.findIn K (.ref C_Ratio) "__mul__" = some (some (.ref f_Ratio_mul)))
    (j_Ratio_mul : PySem.W.isFn K (.ref f_Ratio_mul) = true)
    (l_Ratio_mul : K.lookup f_Ratio_mul = some ⟨oc_Ratio_mul, od_Ratio_mul, .func (PySem.W.fnOf "__mul__" "Ratio.__mul__" (defArgs s_Ratio_mul) (defBody s_Ratio_mul) (defScope s_Ratio_mul) .none kV_Ratio_mul dc_Ratio_mul pm_Ratio_mul an_Ratio_mul cd_Ratio_mul ct_Ratio_mul), sl_Ratio_mul⟩)
    (q_Ratio_mul : PySem.W.codeIn K cd_Ratio_mul "Ratio.__mul__" = true)
    (k_Ratio_mul : PySem.W.keepIn K (.ref f_Ratio_mul) = true)
    (a_Ratio_eq : PySem.W.findIn K (.ref C_Ratio) "__eq__" = some (some (.ref f_Ratio_eq)))
    (j_Ratio_eq : PySem.W.isFn K (.ref f_Ratio_eq) = true)
    (l_Ratio_eq : K.lookup f_Ratio_eq = some ⟨oc_Ratio_eq, od_Ratio_eq, .func (PySem.W.fnOf "__eq__" "Ratio.__eq__" (defArgs s_Ratio_eq) (defBody s_Ratio_eq) (defScope s_Ratio_eq) .none kV_Ratio_eq dc_Ratio_eq pm_Ratio_eq an_Ratio_eq cd_Ratio_eq ct_Ratio_eq), sl_Ratio_eq⟩)
    (q_Ratio_eq : PySem.W.codeIn K cd_Ratio_eq "Ratio.__eq__" = true)
    (k_Ratio_eq : PySem.W.keepIn K (.ref f_Ratio_eq) = true)
    (a_Ratio_compare : PySem.W.findIn K (.ref C_Ratio) "compare" = some (some (.ref f_Ratio_compare)))
    (j_Ratio_compare : PySem.W.isFn K (.ref f_Ratio_compare) = true)
    (l_Ratio_compare : K.lookup f_Ratio_compare = some ⟨oc_Ratio_compare, od_Ratio_compare, .func (PySem.W.fnOf "compare" "Ratio.compare" (defArgs s_Ratio_compare) (defBody s_Ratio_compare) (defScope s_Ratio_compare) .none kV_Ratio_compare dc_Ratio_compare pm_Ratio_compare an_Ratio_compare cd_Ratio_compare ct_Ratio_compare), sl_Ratio_compare⟩)
    (q_Ratio_compare : PySem.W.codeIn K cd_Ratio_compare "Ratio.compare" = true)
    (k_Ratio_compare : PySem.W.keepIn K (.ref f_Ratio_compare) = true)
    (a_Ratio_floordiv : PySem.W.findIn K (.ref C_Ratio) "__floordiv__" = some (some (.ref f_Ratio_floordiv)))
    (j_Ratio_floordiv : PySem.W.isFn K (.ref f_Ratio_floordiv) = true)
    (l_Ratio_floordiv : K.lookup f_Ratio_floordiv = some ⟨oc_Ratio_floordiv, od_Ratio_floordiv, .func (PySem.W.fnOf "__floordiv__" "Ratio.__floordiv__" (defArgs s_Ratio_floordiv) (defBody s_Ratio_floordiv) (defScope s_Ratio_floordiv) .none kV_Ratio_floordiv dc_Ratio_floordiv pm_Ratio_floordiv an_Ratio_floordiv cd_Ratio_floordiv ct_Ratio_floordiv), sl_Ratio_floordiv⟩)
    (q_Ratio_floordiv : PySem.W.codeIn K cd_Ratio_floordiv "Ratio.__floordiv__" = true)
    (k_Ratio_floordiv : PySem.W.keepIn K (.ref f_Ratio_floordiv) = true)
    (a_Ratio_mod : PySem.W.findIn K (.ref C_Ratio) "__mod__" = some (some (.ref f_Ratio_mod)))
    (j_Ratio_mod : PySem.W.isFn K (.ref f_Ratio_mod) = true)
    (l_Ratio_mod : K.lookup f_Ratio_mod = some ⟨oc_Ratio_mod, od_Ratio_mod, .func (PySem.W.fnOf "__mod__" "Ratio.__mod__" (defArgs s_Ratio_mod) (defBody s_Ratio_mod) (defScope s_Ratio_mod) .none kV_Ratio_mod dc_Ratio_mod pm_Ratio_mod an_Ratio_mod cd_Ratio_mod ct_Ratio_mod), sl_Ratio_mod⟩)
    (q_Ratio_mod : PySem.W.codeIn K cd_Ratio_mod "Ratio.__mod__" = true)
    (k_Ratio_mod : PySem.W.keepIn K (.ref f_Ratio_mod) = true)
    (a_Lcell : PySem.W.nsIn K mainGlobals "_law_cell" = some (some (.ref f_Lcell)))
    (l_Lcell : K.lookup f_Lcell = some ⟨oc_Lcell, od_Lcell, .func (PySem.W.fnOf "_law_cell" "_law_cell" (defArgs s_Lcell) (defBody s_Lcell) (defScope s_Lcell) .none kV_Lcell dc_Lcell pm_Lcell an_Lcell cd_Lcell ct_Lcell), sl_Lcell⟩)
    (q_Lcell : PySem.W.codeIn K cd_Lcell "_law_cell" = true)
    (k_Lcell : PySem.W.keepIn K (.ref f_Lcell) = true)
    (a_Lpool : PySem.W.nsIn K mainGlobals "_law_pool" = some (some (.ref f_Lpool)))
    (l_Lpool : K.lookup f_Lpool = some ⟨oc_Lpool, od_Lpool, .func (PySem.W.fnOf "_law_pool" "_law_pool" (defArgs s_Lpool) (defBody s_Lpool) (defScope s_Lpool) .none kV_Lpool dc_Lpool pm_Lpool an_Lpool cd_Lpool ct_Lpool), sl_Lpool⟩)
    (q_Lpool : PySem.W.codeIn K cd_Lpool "_law_pool" = true)
    (k_Lpool : PySem.W.keepIn K (.ref f_Lpool) = true)
    (a_Ltake : PySem.W.nsIn K mainGlobals "_law_take" = some (some (.ref f_Ltake)))
    (l_Ltake : K.lookup f_Ltake = some ⟨oc_Ltake, od_Ltake, .func (PySem.W.fnOf "_law_take" "_law_take" (defArgs s_Ltake) (defBody s_Ltake) (defScope s_Ltake) .none kV_Ltake dc_Ltake pm_Ltake an_Ltake cd_Ltake ct_Ltake), sl_Ltake⟩)
    (q_Ltake : PySem.W.codeIn K cd_Ltake "_law_take" = true)
    (k_Ltake : PySem.W.keepIn K (.ref f_Ltake) = true)
    (a_Lsame : PySem.W.nsIn K mainGlobals "_law_same" = some (some (.ref f_Lsame)))
    (l_Lsame : K.lookup f_Lsame = some ⟨oc_Lsame, od_Lsame, .func (PySem.W.fnOf "_law_same" "_law_same" (defArgs s_Lsame) (defBody s_Lsame) (defScope s_Lsame) .none kV_Lsame dc_Lsame pm_Lsame an_Lsame cd_Lsame ct_Lsame), sl_Lsame⟩)
    (q_Lsame : PySem.W.codeIn K cd_Lsame "_law_same" = true)
    (k_Lsame : PySem.W.keepIn K (.ref f_Lsame) = true)
    (a_Lnumber : PySem.W.nsIn K mainGlobals "_law_number" = some (some (.ref f_Lnumber)))
    (l_Lnumber : K.lookup f_Lnumber = some ⟨oc_Lnumber, od_Lnumber, .func (PySem.W.fnOf "_law_number" "_law_number" (defArgs s_Lnumber) (defBody s_Lnumber) (defScope s_Lnumber) .none kV_Lnumber dc_Lnumber pm_Lnumber an_Lnumber cd_Lnumber ct_Lnumber), sl_Lnumber⟩)
    (q_Lnumber : PySem.W.codeIn K cd_Lnumber "_law_number" = true)
    (k_Lnumber : PySem.W.keepIn K (.ref f_Lnumber) = true)
    (a_Ldivisor : PySem.W.nsIn K mainGlobals "_law_divisor" = some (some (.ref f_Ldivisor)))
    (l_Ldivisor : K.lookup f_Ldivisor = some ⟨oc_Ldivisor, od_Ldivisor, .func (PySem.W.fnOf "_law_divisor" "_law_divisor" (defArgs s_Ldivisor) (defBody s_Ldivisor) (defScope s_Ldivisor) .none kV_Ldivisor dc_Ldivisor pm_Ldivisor an_Ldivisor cd_Ldivisor ct_Ldivisor), sl_Ldivisor⟩)
    (q_Ldivisor : PySem.W.codeIn K cd_Ldivisor "_law_divisor" = true)
    (k_Ldivisor : PySem.W.keepIn K (.ref f_Ldivisor) = true)
    (a_Lshort : PySem.W.nsIn K mainGlobals "_law_short" = some (some (.ref f_Lshort)))
    (l_Lshort : K.lookup f_Lshort = some ⟨oc_Lshort, od_Lshort, .func (PySem.W.fnOf "_law_short" "_law_short" (defArgs s_Lshort) (defBody s_Lshort) (defScope s_Lshort) .none kV_Lshort dc_Lshort pm_Lshort an_Lshort cd_Lshort ct_Lshort), sl_Lshort⟩)
    (q_Lshort : PySem.W.codeIn K cd_Lshort "_law_short" = true)
    (k_Lshort : PySem.W.keepIn K (.ref f_Lshort) = true)
    (a_Lbelow : PySem.W.nsIn K mainGlobals "_law_below" = some (some (.ref f_Lbelow)))
    (l_Lbelow : K.lookup f_Lbelow = some ⟨oc_Lbelow, od_Lbelow, .func (PySem.W.fnOf "_law_below" "_law_below" (defArgs s_Lbelow) (defBody s_Lbelow) (defScope s_Lbelow) .none kV_Lbelow dc_Lbelow pm_Lbelow an_Lbelow cd_Lbelow ct_Lbelow), sl_Lbelow⟩)
    (q_Lbelow : PySem.W.codeIn K cd_Lbelow "_law_below" = true)
    (k_Lbelow : PySem.W.keepIn K (.ref f_Lbelow) = true)
    (a_Lwhole : PySem.W.nsIn K mainGlobals "_law_whole" = some (some (.ref f_Lwhole)))
    (l_Lwhole : K.lookup f_Lwhole = some ⟨oc_Lwhole, od_Lwhole, .func (PySem.W.fnOf "_law_whole" "_law_whole" (defArgs s_Lwhole) (defBody s_Lwhole) (defScope s_Lwhole) .none kV_Lwhole dc_Lwhole pm_Lwhole an_Lwhole cd_Lwhole ct_Lwhole), sl_Lwhole⟩)
    (q_Lwhole : PySem.W.codeIn K cd_Lwhole "_law_whole" = true)
    (k_Lwhole : PySem.W.keepIn K (.ref f_Lwhole) = true)
    (a_Lis : PySem.W.nsIn K mainGlobals "_law_is" = some (some (.ref f_Lis)))
    (l_Lis : K.lookup f_Lis = some ⟨oc_Lis, od_Lis, .func (PySem.W.fnOf "_law_is" "_law_is" (defArgs s_Lis) (defBody s_Lis) (defScope s_Lis) .none kV_Lis dc_Lis pm_Lis an_Lis cd_Lis ct_Lis), sl_Lis⟩)
    (q_Lis : PySem.W.codeIn K cd_Lis "_law_is" = true)
    (k_Lis : PySem.W.keepIn K (.ref f_Lis) = true)
    (a_Lrefused : PySem.W.nsIn K mainGlobals "_law_refused" = some (some (.ref f_Lrefused)))
    (l_Lrefused : K.lookup f_Lrefused = some ⟨oc_Lrefused, od_Lrefused, .func (PySem.W.fnOf "_law_refused" "_law_refused" (defArgs s_Lrefused) (defBody s_Lrefused) (defScope s_Lrefused) .none kV_Lrefused dc_Lrefused pm_Lrefused an_Lrefused cd_Lrefused ct_Lrefused), sl_Lrefused⟩)
    (q_Lrefused : PySem.W.codeIn K cd_Lrefused "_law_refused" = true)
    (k_Lrefused : PySem.W.keepIn K (.ref f_Lrefused) = true)
    (a_law : PySem.W.nsIn K mainGlobals "law" = some (some (.ref f_law)))
    (l_law : K.lookup f_law = some ⟨oc_law, od_law, .func (PySem.W.fnOf "law" "law" (defArgs s_law) (defBody s_law) (defScope s_law) .none kV_law dc_law pm_law an_law cd_law ct_law), sl_law⟩)
    (q_law : PySem.W.codeIn K cd_law "law" = true)
    (k_law : PySem.W.keepIn K (.ref f_law) = true) :
    ∃ fd : FuncData, (∀ (s : Shared) (v : Value), BindsTo s fd ⟨[v], []⟩ [("_law_script", v)]) ∧ ∀ base : Heap, K.In base → base.Ns mainGlobals mg → FnOk l.prog w K mg base CX0 8 fa fd ["_law_script"] (sp_law K) := by
  have e := hfa.symm.trans (PySem.W.mg_of X G a_law)
  cases e
  have T : Txt K mg C_Ratio C_BadRatio C_CableError := ⟨PySem.W.mg_of X G g_Ratio, ⟨pg_Ratio, hd_Ratio, po_Ratio, sa_Ratio⟩, nf_Ratio_num, nf_Ratio_den, ⟨⟨pg_Ratio, hd_Ratio, po_Ratio, sa_Ratio⟩, ha_Ratio, hn_Ratio, ht_Ratio, hm_Ratio, me_Ratio⟩, PySem.W.mg_of X G g_BadRatio, x_BadRatio, k_BadRatio, b_BadRatio, t_BadRatio, ic_BadRatio, s_BadRatio, ⟨eg_BadRatio, ek_BadRatio, b_BadRatio, ed_BadRatio, ea_BadRatio, en_BadRatio, et_BadRatio, em_BadRatio⟩, PySem.W.mg_of X G g_CableError, sf_Ratio, su_Ratio, us_Ratio, ⟨_, a_Ratio_add⟩, ⟨_, rh_Ratio_add⟩, ⟨_, rh_Ratio_add, .inr ⟨_, rfl⟩⟩, ⟨_, a_Ratio_sub⟩, ⟨_, rh_Ratio_sub⟩, ⟨_, rh_Ratio_sub, .inr ⟨_, rfl⟩⟩, ⟨_, a_Ratio_mul⟩, ⟨_, rh_Ratio_mul⟩, ⟨_, rh_Ratio_mul, .inr ⟨_, rfl⟩⟩, ⟨_, a_Ratio_floordiv⟩, rn_Ratio_floordiv, ⟨_, rn_Ratio_floordiv, .inl rfl⟩, ⟨_, a_Ratio_mod⟩, rn_Ratio_mod, ⟨_, rn_Ratio_mod, .inl rfl⟩, fi0_add, ⟨_, fi0_add⟩, fr0_add, ⟨_, fr0_add⟩, fi0_floordiv, ⟨_, fi0_floordiv⟩, fr0_floordiv, ⟨_, fr0_floordiv⟩, fi0_mod, ⟨_, fi0_mod⟩, fr0_mod, ⟨_, fr0_mod⟩, fi0_mul, ⟨_, fi0_mul⟩, fr0_mul, ⟨_, fr0_mul⟩, fi0_sub, ⟨_, fi0_sub⟩, fr0_sub, ⟨_, fr0_sub⟩, PySem.W.mg_none_of X G n_isinstance, PySem.W.mg_none_of X G n_len, PySem.W.mg_none_of X G n_int, PySem.W.mg_none_of X G n_abs, PySem.W.mg_none_of X G n_bool, PySem.W.mg_none_of X G n_str, PySem.W.mg_none_of X G n_tuple, PySem.W.mg_none_of X G n_list, PySem.W.mg_none_of X G n_range, PySem.W.mg_none_of X G n_ValueError, PySem.W.mg_of X G gi_gcd, ki_int, kt_cable, kt_value⟩
  have F_Ratio_init := fun_mk (st := s_Ratio_init) l_Ratio_init q_Ratio_init k_Ratio_init
  have b_Ratio_init := F_Ratio_init.binds (ps := ["self", "num", "den"]) fun _ _ _ _ _ _ us hl => match us, hl with | [_, _, _], _ => rfl
  have F_uratio_of := fun_mk (st := s_uratio_of) l_uratio_of q_uratio_of k_uratio_of
  have b_uratio_of := F_uratio_of.binds (ps := ["number"]) fun _ _ _ _ _ _ us hl => match us, hl with | [_], _ => rfl
  have F_Ratio_neg := fun_mk (st := s_Ratio_neg) l_Ratio_neg q_Ratio_neg k_Ratio_neg
  have b_Ratio_neg := F_Ratio_neg.binds (ps := ["self"]) fun _ _ _ _ _ _ us hl => match us, hl with | [_], _ => rfl
  have F_Ratio_add := fun_mk (st := s_Ratio_add) l_Ratio_add q_Ratio_add k_Ratio_add
  have b_Ratio_add := F_Ratio_add.binds (ps := ["self", "other"]) fun _ _ _ _ _ _ us hl => match us, hl with | [_, _], _ => rfl
  have F_Ratio_sub := fun_mk (st := s_Ratio_sub) l_Ratio_sub q_Ratio_sub k_Ratio_sub
  have b_Ratio_sub := F_Ratio_sub.binds (ps := ["self", "other"]) fun _ _ _ _ _ _ us hl => match us, hl with | [_, _], _ => rfl
  have F_Ratio_mul := fun_mk (st := s_Ratio_mul) l_Ratio_mul q_Ratio_mul k_Ratio_mul
  have b_Ratio_mul := F_Ratio_mul.binds (ps := ["self", "other"]) fun _ _ _ _ _ _ us hl => match us, hl with | [_, _], _ => rfl
  have F_Ratio_eq := fun_mk (st := s_Ratio_eq) l_Ratio_eq q_Ratio_eq k_Ratio_eq
  have b_Ratio_eq := F_Ratio_eq.binds (ps := ["self", "other"]) fun _ _ _ _ _ _ us hl => match us, hl with | [_, _], _ => rfl
  have F_Ratio_compare := fun_mk (st := s_Ratio_compare) l_Ratio_compare q_Ratio_compare k_Ratio_compare
  have b_Ratio_compare := F_Ratio_compare.binds (ps := ["self", "other"]) fun _ _ _ _ _ _ us hl => match us, hl with | [_, _], _ => rfl
  have F_Ratio_floordiv := fun_mk (st := s_Ratio_floordiv) l_Ratio_floordiv q_Ratio_floordiv k_Ratio_floordiv
  have b_Ratio_floordiv := F_Ratio_floordiv.binds (ps := ["self", "other"]) fun _ _ _ _ _ _ us hl => match us, hl with | [_, _], _ => rfl
  have F_Ratio_mod := fun_mk (st := s_Ratio_mod) l_Ratio_mod q_Ratio_mod k_Ratio_mod
  have b_Ratio_mod := F_Ratio_mod.binds (ps := ["self", "other"]) fun _ _ _ _ _ _ us hl => match us, hl with | [_, _], _ => rfl
  have F_Lcell := fun_mk (st := s_Lcell) l_Lcell q_Lcell k_Lcell
  have b_Lcell := F_Lcell.binds (ps := ["_law_script", "_law_at"]) fun _ _ _ _ _ _ us hl => match us, hl with | [_, _], _ => rfl
  have F_Lpool := fun_mk (st := s_Lpool) l_Lpool q_Lpool k_Lpool
  have b_Lpool := F_Lpool.binds (ps := ["_law_cell_here"]) fun _ _ _ _ _ _ us hl => match us, hl with | [_], _ => rfl
  have F_Ltake := fun_mk (st := s_Ltake) l_Ltake q_Ltake k_Ltake
  have b_Ltake := F_Ltake.binds (ps := ["_law_pool_here", "_law_many"]) fun _ _ _ _ _ _ us hl => match us, hl with | [_, _], _ => rfl
  have F_Lsame := fun_mk (st := s_Lsame) l_Lsame q_Lsame k_Lsame
  have b_Lsame := F_Lsame.binds (ps := ["_law_told", "_law_due"]) fun _ _ _ _ _ _ us hl => match us, hl with | [_, _], _ => rfl
  have F_Lnumber := fun_mk (st := s_Lnumber) l_Lnumber q_Lnumber k_Lnumber
  have b_Lnumber := F_Lnumber.binds (ps := ["_law_pool_here", "_law_blocks"]) fun _ _ _ _ _ _ us hl => match us, hl with | [_, _], _ => rfl
  have F_Ldivisor := fun_mk (st := s_Ldivisor) l_Ldivisor q_Ldivisor k_Ldivisor
  have b_Ldivisor := F_Ldivisor.binds (ps := ["_law_one", "_law_two"]) fun _ _ _ _ _ _ us hl => match us, hl with | [_, _], _ => rfl
  have F_Lshort := fun_mk (st := s_Lshort) l_Lshort q_Lshort k_Lshort
  have b_Lshort := F_Lshort.binds (ps := ["_law_pool_here"]) fun _ _ _ _ _ _ us hl => match us, hl with | [_], _ => rfl
  have F_Lbelow := fun_mk (st := s_Lbelow) l_Lbelow q_Lbelow k_Lbelow
  have b_Lbelow := F_Lbelow.binds (ps := ["_law_pool_here"]) fun _ _ _ _ _ _ us hl => match us, hl with | [_], _ => rfl
  have F_Lwhole := fun_mk (st := s_Lwhole) l_Lwhole q_Lwhole k_Lwhole
  have b_Lwhole := F_Lwhole.binds (ps := ["_law_told"]) fun _ _ _ _ _ _ us hl => match us, hl with | [_], _ => rfl
  have F_Lis := fun_mk (st := s_Lis) l_Lis q_Lis k_Lis
  have b_Lis := F_Lis.binds (ps := ["_law_told", "_law_top", "_law_bottom"]) fun _ _ _ _ _ _ us hl => match us, hl with | [_, _, _], _ => rfl
  have F_Lrefused := fun_mk (st := s_Lrefused) l_Lrefused q_Lrefused k_Lrefused
  have b_Lrefused := F_Lrefused.binds (ps := ["_law_one", "_law_two"]) fun _ _ _ _ _ _ us hl => match us, hl with | [_, _], _ => rfl
  refine ⟨PySem.W.fnOf "law" "law" (defArgs s_law) (defBody s_law) (defScope s_law) .none kV_law dc_law pm_law an_law cd_law ct_law, fun s v => .of_eq rfl, fun base _ _ => ?_⟩
  have c_Ratio := mak_mk (ok_Ratio_init (P := l.prog) (w := w) (base := base) F_Ratio_init T ) (T.g_Ratio) ⟨mk_Ratio, a_Ratio_init, j_Ratio_init, mkk_Ratio⟩ b_Ratio_init
  have c_uratio_of := cal_mk (ok_uratio_of (P := l.prog) (w := w) (base := base) F_uratio_of T c_Ratio) (PySem.W.mg_of X G a_uratio_of) k_uratio_of b_uratio_of
  have c_Ratio_neg := met_mk (ok_Ratio_neg (P := l.prog) (w := w) (base := base) F_Ratio_neg T c_Ratio) T.cl_Ratio ⟨a_Ratio_neg, j_Ratio_neg, k_Ratio_neg⟩ b_Ratio_neg
  have c_Ratio_add := met_mk (ok_Ratio_add (P := l.prog) (w := w) (base := base) F_Ratio_add T c_uratio_of c_Ratio) T.cl_Ratio ⟨a_Ratio_add, j_Ratio_add, k_Ratio_add⟩ b_Ratio_add
  have c_Ratio_sub := met_mk (ok_Ratio_sub (P := l.prog) (w := w) (base := base) F_Ratio_sub T c_Ratio_add c_Ratio_neg) T.cl_Ratio ⟨a_Ratio_sub, j_Ratio_sub, k_Ratio_sub⟩ b_Ratio_sub
  have c_Ratio_mul := met_mk (ok_Ratio_mul (P := l.prog) (w := w) (base := base) F_Ratio_mul T c_uratio_of c_Ratio) T.cl_Ratio ⟨a_Ratio_mul, j_Ratio_mul, k_Ratio_mul⟩ b_Ratio_mul
  have c_Ratio_eq := met_mk (ok_Ratio_eq (P := l.prog) (w := w) (base := base) F_Ratio_eq T ) T.cl_Ratio ⟨a_Ratio_eq, j_Ratio_eq, k_Ratio_eq⟩ b_Ratio_eq
  have c_Ratio_compare := met_mk (ok_Ratio_compare (P := l.prog) (w := w) (base := base) F_Ratio_compare T c_Ratio_sub) T.cl_Ratio ⟨a_Ratio_compare, j_Ratio_compare, k_Ratio_compare⟩ b_Ratio_compare
  have c_Ratio_floordiv := met_mk (ok_Ratio_floordiv (P := l.prog) (w := w) (base := base) F_Ratio_floordiv T c_uratio_of) T.cl_Ratio ⟨a_Ratio_floordiv, j_Ratio_floordiv, k_Ratio_floordiv⟩ b_Ratio_floordiv
  have c_Ratio_mod := met_mk (ok_Ratio_mod (P := l.prog) (w := w) (base := base) F_Ratio_mod T c_Ratio_sub c_Ratio_mul c_Ratio_floordiv) T.cl_Ratio ⟨a_Ratio_mod, j_Ratio_mod, k_Ratio_mod⟩ b_Ratio_mod
  have c_Lcell := cal_mk (ok_Lcell (P := l.prog) (w := w) (base := base) F_Lcell T ) (PySem.W.mg_of X G a_Lcell) k_Lcell b_Lcell
  have c_Lpool := cal_mk (ok_Lpool (P := l.prog) (w := w) (base := base) F_Lpool T ) (PySem.W.mg_of X G a_Lpool) k_Lpool b_Lpool
  have c_Ltake := cal_mk (ok_Ltake (P := l.prog) (w := w) (base := base) F_Ltake T ) (PySem.W.mg_of X G a_Ltake) k_Ltake b_Ltake
  have c_Lsame := cal_mk (ok_Lsame (P := l.prog) (w := w) (base := base) F_Lsame T (PySem.W.mg_of X G a_Lsame) k_Lsame b_Lsame 1) (PySem.W.mg_of X G a_Lsame) k_Lsame b_Lsame
  have c_Lnumber := cal_mk (ok_Lnumber (P := l.prog) (w := w) (base := base) F_Lnumber T c_Ltake) (PySem.W.mg_of X G a_Lnumber) k_Lnumber b_Lnumber
  have c_Ldivisor := cal_mk (ok_Ldivisor (P := l.prog) (w := w) (base := base) F_Ldivisor T ) (PySem.W.mg_of X G a_Ldivisor) k_Ldivisor b_Ldivisor
  have c_Lshort := cal_mk (ok_Lshort (P := l.prog) (w := w) (base := base) F_Lshort T c_Lnumber c_Ltake) (PySem.W.mg_of X G a_Lshort) k_Lshort b_Lshort
  have c_Lbelow := cal_mk (ok_Lbelow (P := l.prog) (w := w) (base := base) F_Lbelow T c_Lshort) (PySem.W.mg_of X G a_Lbelow) k_Lbelow b_Lbelow
  have c_Lwhole := cal_mk (ok_Lwhole (P := l.prog) (w := w) (base := base) F_Lwhole T ) (PySem.W.mg_of X G a_Lwhole) k_Lwhole b_Lwhole
  have c_Lis := cal_mk (ok_Lis (P := l.prog) (w := w) (base := base) F_Lis T c_Lwhole c_Ldivisor) (PySem.W.mg_of X G a_Lis) k_Lis b_Lis
  have c_Lrefused := cal_mk (ok_Lrefused (P := l.prog) (w := w) (base := base) F_Lrefused T c_Ratio_floordiv c_Ratio_mod) (PySem.W.mg_of X G a_Lrefused) k_Lrefused b_Lrefused
  exact ok_law (fun_mk (st := s_law) l_law q_law k_law) T c_Lshort c_Lpool c_Lcell c_Lbelow c_Ltake c_Ratio c_Lsame c_Ratio_eq c_Ratio_compare c_Lrefused c_Ratio_floordiv c_Lwhole c_Lis c_Ratio_mod

theorem walk {l : PySem.W.OpenLaw} {q : Program} {loose : List Str} {XP : (Str → Option Value) → Heap → Prop} {YP : World → Heap → Prop} {d : DefRec} {K : Params → PySem.W.Frag} (hn : l.most = some 63) (hdf : d.params.defaults = [])
    (hY : ∀ (w : World) (h : Heap), YP w h → (K w.params).In h)
    (F : ∀ (w : World) (mg : Str → Option Value) (fa : Addr) (h : Heap), (K w.params).In h → h.Ns mainGlobals mg → mg d.name = some (.ref fa) →
      ∃ fd : FuncData, (∀ (s : Shared) (u : Value), BindsTo s fd ⟨[u], []⟩ [("_law_script", u)]) ∧ ∀ base : Heap, (K w.params).In base → base.Ns mainGlobals mg → FnOk l.prog w (K w.params) mg base CX0 8 fa fd ["_law_script"] (sp_law (K w.params))) :
    PySem.W.WalkO q loose XP YP l.row.toRowW d [] (fun f vs => PySem.call f vs) :=
  L2.walk_of (n := 63) (k := 8) (x := "_law_script") (CX := fun _ => CX0) (sp := fun w => sp_law (K w.params)) hn (by decide) hdf ⟨rfl, by decide, by decide⟩ hY F (fun _ _ a ns hl _ hS => ⟨a, ns, rfl, hS, hl, fun _ => rfl⟩) fun _ _ _ _ _ z => z
end My

open PySem PySem.W PyProof.Rows in
set_option maxRecDepth 100000 in
set_option maxHeartbeats 0 in
theorem PySem.Challenge.cw_onecable_k03_ratio_floors_and_order_holds : PySem.Challenge.rw_onecable_k03_ratio_floors_and_order.Holds := by
  w_on; o_law; k_head; (case hw => w_witness2)
  k_fill
  refine My.walk (l := PySem.Challenge.rw_onecable_k03_ratio_floors_and_order) rfl rfl (fun w h Y => PySem.W.kIn_of Y) ?F
  case F =>
    intro w mg fa h KX G hmg
    refine' My.all_mk KX G hmg ?g_Ratio ?pg_Ratio ?hd_Ratio ?po_Ratio ?sa_Ratio ?nf_Ratio_num ?nf_Ratio_den ?ha_Ratio ?hn_Ratio ?ht_Ratio ?hm_Ratio ?me_Ratio ?g_BadRatio ?x_BadRatio ?k_BadRatio ?b_BadRatio ?t_BadRatio ?ic_BadRatio ?s_BadRatio ?eg_BadRatio ?ek_BadRatio ?ed_BadRatio ?ea_BadRatio ?en_BadRatio ?et_BadRatio ?em_BadRatio ?g_CableError ?sf_Ratio ?su_Ratio ?us_Ratio ?rh_Ratio_add ?rh_Ratio_sub ?rh_Ratio_mul ?rn_Ratio_floordiv ?rn_Ratio_mod ?fi0_add ?fr0_add ?fi0_floordiv ?fr0_floordiv ?fi0_mod ?fr0_mod ?fi0_mul ?fr0_mul ?fi0_sub ?fr0_sub ?n_isinstance ?n_len ?n_int ?n_abs ?n_bool ?n_str ?n_tuple ?n_list ?n_range ?n_ValueError ?gi_gcd ?ki_int ?kt_cable ?kt_value ?mk_Ratio ?mkk_Ratio ?a_Ratio_init ?j_Ratio_init ?l_Ratio_init ?q_Ratio_init ?k_Ratio_init ?a_uratio_of ?l_uratio_of ?q_uratio_of ?k_uratio_of ?a_Ratio_neg ?j_Ratio_neg ?l_Ratio_neg ?q_Ratio_neg ?k_Ratio_neg ?a_Ratio_add ?j_Ratio_add ?l_Ratio_add ?q_Ratio_add ?k_Ratio_add ?a_Ratio_sub ?j_Ratio_sub ?l_Ratio_sub ?q_Ratio_sub ?k_Ratio_sub ?a_Ratio_mul ?j_Ratio_mul ?l_Ratio_mul ?q_Ratio_mul ?k_Ratio_mul ?a_Ratio_eq ?j_Ratio_eq ?l_Ratio_eq ?q_Ratio_eq ?k_Ratio_eq ?a_Ratio_compare ?j_Ratio_compare ?l_Ratio_compare ?q_Ratio_compare ?k_Ratio_compare ?a_Ratio_floordiv ?j_Ratio_floordiv ?l_Ratio_floordiv ?q_Ratio_floordiv ?k_Ratio_floordiv ?a_Ratio_mod ?j_Ratio_mod ?l_Ratio_mod ?q_Ratio_mod ?k_Ratio_mod ?a_Lcell ?l_Lcell ?q_Lcell ?k_Lcell ?a_Lpool ?l_Lpool ?q_Lpool ?k_Lpool ?a_Ltake ?l_Ltake ?q_Ltake ?k_Ltake ?a_Lsame ?l_Lsame ?q_Lsame ?k_Lsame ?a_Lnumber ?l_Lnumber ?q_Lnumber ?k_Lnumber ?a_Ldivisor ?l_Ldivisor ?q_Ldivisor ?k_Ldivisor ?a_Lshort ?l_Lshort ?q_Lshort ?k_Lshort ?a_Lbelow ?l_Lbelow ?q_Lbelow ?k_Lbelow ?a_Lwhole ?l_Lwhole ?q_Lwhole ?k_Lwhole ?a_Lis ?l_Lis ?q_Lis ?k_Lis ?a_Lrefused ?l_Lrefused ?q_Lrefused ?k_Lrefused ?a_law ?l_law ?q_law ?k_law
    (case g_Ratio => k_is)
    (case pg_Ratio => k_is)
    (case hd_Ratio => k_is)
    (case po_Ratio => k_is)
    (case sa_Ratio => k_is)
    (case nf_Ratio_num => k_is)
    (case nf_Ratio_den => k_is)
    (case ha_Ratio => k_is)
    (case hn_Ratio => k_is)
    (case ht_Ratio => k_is)
    (case hm_Ratio => k_is)
    (case me_Ratio => kit_is)
    (case g_BadRatio => k_is)
    (case x_BadRatio => k_exc)
    (case k_BadRatio => k_is)
    (case b_BadRatio => k_is)
    (case t_BadRatio => k_is)
    (case ic_BadRatio => k_is)
    (case s_BadRatio => first | rfl | k_is)
    (case eg_BadRatio => k_is)
    (case ek_BadRatio => k_is)
    (case ed_BadRatio => k_is)
    (case ea_BadRatio => k_is)
    (case en_BadRatio => k_is)
    (case et_BadRatio => k_is)
    (case em_BadRatio => k_is)
    (case g_CableError => k_is)
    (case sf_Ratio => k_is)
    (case su_Ratio => k_is)
    (case us_Ratio => k_is)
    (case rh_Ratio_add => k_is)
    (case rh_Ratio_sub => k_is)
    (case rh_Ratio_mul => k_is)
    (case rn_Ratio_floordiv => k_is)
    (case rn_Ratio_mod => k_is)
    (case fi0_add => k_is)
    (case fr0_add => k_is)
    (case fi0_floordiv => k_is)
    (case fr0_floordiv => k_is)
    (case fi0_mod => k_is)
    (case fr0_mod => k_is)
    (case fi0_mul => k_is)
    (case fr0_mul => k_is)
    (case fi0_sub => k_is)
    (case fr0_sub => k_is)
    (case n_isinstance => k_is)
    (case n_len => k_is)
    (case n_int => k_is)
    (case n_abs => k_is)
    (case n_bool => k_is)
    (case n_str => k_is)
    (case n_tuple => k_is)
    (case n_list => k_is)
    (case n_range => k_is)
    (case n_ValueError => k_is)
    (case gi_gcd => k_is)
    (case ki_int => kit_is)
    (case kt_cable => kit_is)
    (case kt_value => kit_is)
    (case mk_Ratio => k_is)
    (case mkk_Ratio => k_is)
    (case a_Ratio_init => k_is)
    (case j_Ratio_init => k_is)
    (case l_Ratio_init => k_is)
    (case q_Ratio_init => k_is)
    (case k_Ratio_init => k_is)
    (case a_uratio_of => k_is)
    (case l_uratio_of => k_is)
    (case q_uratio_of => k_is)
    (case k_uratio_of => k_is)
    (case a_Ratio_neg => k_is)
    (case j_Ratio_neg => k_is)
    (case l_Ratio_neg => k_is)
    (case q_Ratio_neg => k_is)
    (case k_Ratio_neg => k_is)
    (case a_Ratio_add => k_is)
    (case j_Ratio_add => k_is)
    (case l_Ratio_add => k_is)
    (case q_Ratio_add => k_is)
    (case k_Ratio_add => k_is)
    (case a_Ratio_sub => k_is)
    (case j_Ratio_sub => k_is)
    (case l_Ratio_sub => k_is)
    (case q_Ratio_sub => k_is)
    (case k_Ratio_sub => k_is)
    (case a_Ratio_mul => k_is)
    (case j_Ratio_mul => k_is)
    (case l_Ratio_mul => k_is)
    (case q_Ratio_mul => k_is)
    (case k_Ratio_mul => k_is)
    (case a_Ratio_eq => k_is)
    (case j_Ratio_eq => k_is)
    (case l_Ratio_eq => k_is)
    (case q_Ratio_eq => k_is)
    (case k_Ratio_eq => k_is)
    (case a_Ratio_compare => k_is)
    (case j_Ratio_compare => k_is)
    (case l_Ratio_compare => k_is)
    (case q_Ratio_compare => k_is)
    (case k_Ratio_compare => k_is)
    (case a_Ratio_floordiv => k_is)
    (case j_Ratio_floordiv => k_is)
    (case l_Ratio_floordiv => k_is)
    (case q_Ratio_floordiv => k_is)
    (case k_Ratio_floordiv => k_is)
    (case a_Ratio_mod => k_is)
    (case j_Ratio_mod => k_is)
    (case l_Ratio_mod => k_is)
    (case q_Ratio_mod => k_is)
    (case k_Ratio_mod => k_is)
    (case a_Lcell => k_is)
    (case l_Lcell => k_is)
    (case q_Lcell => k_is)
    (case k_Lcell => k_is)
    (case a_Lpool => k_is)
    (case l_Lpool => k_is)
    (case q_Lpool => k_is)
    (case k_Lpool => k_is)
    (case a_Ltake => k_is)
    (case l_Ltake => k_is)
    (case q_Ltake => k_is)
    (case k_Ltake => k_is)
    (case a_Lsame => k_is)
    (case l_Lsame => k_is)
    (case q_Lsame => k_is)
    (case k_Lsame => k_is)
    (case a_Lnumber => k_is)
    (case l_Lnumber => k_is)
    (case q_Lnumber => k_is)
    (case k_Lnumber => k_is)
    (case a_Ldivisor => k_is)
    (case l_Ldivisor => k_is)
    (case q_Ldivisor => k_is)
    (case k_Ldivisor => k_is)
    (case a_Lshort => k_is)
    (case l_Lshort => k_is)
    (case q_Lshort => k_is)
    (case k_Lshort => k_is)
    (case a_Lbelow => k_is)
    (case l_Lbelow => k_is)
    (case q_Lbelow => k_is)
    (case k_Lbelow => k_is)
    (case a_Lwhole => k_is)
    (case l_Lwhole => k_is)
    (case q_Lwhole => k_is)
    (case k_Lwhole => k_is)
    (case a_Lis => k_is)
    (case l_Lis => k_is)
    (case q_Lis => k_is)
    (case k_Lis => k_is)
    (case a_Lrefused => k_is)
    (case l_Lrefused => k_is)
    (case q_Lrefused => k_is)
    (case k_Lrefused => k_is)
    (case a_law => k_is)
    (case l_law => k_is)
    (case q_law => k_is)
    (case k_law => k_is)

