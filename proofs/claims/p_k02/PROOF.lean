import PyProof.Rows.All
import Wide.All
import OpenK.AllK
import Wide.FinOn
import HandS.ForExc
import HandS.Wide
import HandS.Gcd
import HandS.Codes
import HandS.IsInst
import HandS.ExcIs
import KE.RegKIsAll
import HandS.OwnEq
import PySem.Challenge.RW_onecable_k02_ratio_sums
set_option Elab.async false
set_option maxRecDepth 100000
set_option maxHeartbeats 4000000
set_option linter.all false
namespace My
open PySem PySem.Spec PyProof.Rows L2
/-! ### callables of the text: a def by its name, a method, a class -/
structure Cal (CX : CXT) (P : Program) (w : World) (K : PySem.W.Frag) (mg : Str → Option Value) (base : Heap) (k : Nat) (x : Str) (sp : Sp) : Prop where
  ex : ∃ (f : Addr) (fd : FuncData) (ps : List Str), FnOk P w K mg base CX k f fd ps sp ∧ mg x = some (.ref f) ∧ PySem.W.keepIn K (.ref f) = true ∧ Binds K fd ps []
structure Met (CX : CXT) (P : Program) (w : World) (K : PySem.W.Frag) (mg : Str → Option Value) (base : Heap) (k : Nat) (C : Addr) (m : Str) (sp : Sp) : Prop where
  ex : ∃ (f : Addr) (fd : FuncData) (ps : List Str), Cls K C ∧ Meth K C m f ∧ FnOk P w K mg base CX k f fd ps sp ∧ Binds K fd ps []
structure Mak (CX : CXT) (P : Program) (w : World) (K : PySem.W.Frag) (mg : Str → Option Value) (base : Heap) (k : Nat) (x : Str) (C : Addr) (sp : Sp) : Prop where
  ex : ∃ (f : Addr) (fd : FuncData) (ps : List Str), Mk K C f ∧ FnOk P w K mg base CX k f fd ps sp ∧ mg x = some (.ref C) ∧ Binds K fd ps []
section
variable {CX : CXT} {P : Program} {w : World} {K : PySem.W.Frag} {mg : Str → Option Value} {base : Heap} {k : Nat} {x m : Str} {f C : Addr} {fd : FuncData} {ps : List Str} {sp : Sp}
theorem cal_mk (F : FnOk P w K mg base CX k f fd ps sp) (m : mg x = some (.ref f)) (kp : PySem.W.keepIn K (.ref f) = true) (b : Binds K fd ps []) : Cal CX P w K mg base k x sp := ⟨f, fd, ps, F, m, kp, b⟩
theorem met_mk (F : FnOk P w K mg base CX k f fd ps sp) (c : Cls K C) (me : Meth K C m f) (b : Binds K fd ps []) : Met CX P w K mg base k C m sp := ⟨f, fd, ps, c, me, F, b⟩
theorem mak_mk (F : FnOk P w K mg base CX k f fd ps sp) (m : mg x = some (.ref C)) (M : Mk K C f) (b : Binds K fd ps []) : Mak CX P w K mg base k x C sp := ⟨f, fd, ps, M, F, m, b⟩
end
section
variable {X : Cx} {CX : CXT} {k j : Nat} {C : Addr} {x m : Str} {sp : Sp} {E : XK} {p pos apos : Pos} {e o : Expr} {es : List Expr} {ta : TE} {t : TA}
theorem pc_c (c : Cal CX X.prog X.w X.K X.mg X.base k x sp) (hr : Room j X.A) (hk : k ≤ j) (hg : Gl X x) (hx : Passes CX X E) (ha : PA X (e :: es) t)
    (hdb : (x == ("__debug__" : Str)) = false := by decide) (he : starEach (e :: es) X.env = (false, eval e X.env) :: starEach es X.env := by rfl) (hpl : (backTo pos (starEach es X.env)).any (·.1) = false := by rfl) :
    PE X (.Call (.Name x p) (e :: es) [] pos) (tCall sp [] E t) := by
  obtain ⟨f, fd, ps, F, hm, kp, b⟩ := c.ex
  exact pe_call F (hr.mono hk) hg hm kp b .nil hx ha hdb he hpl
theorem pc_cS {E : L2.St → XK} (c : Cal CX X.prog X.w X.K X.mg X.base k x sp) (hr : Room j X.A) (hk : k ≤ j) (hg : Gl X x) (hx : ∀ σ, PassesAt CX X σ (E σ)) (ha : PA X (e :: es) t)
    (hdb : (x == ("__debug__" : Str)) = false := by decide) (he : starEach (e :: es) X.env = (false, eval e X.env) :: starEach es X.env := by rfl) (hpl : (backTo pos (starEach es X.env)).any (·.1) = false := by rfl) :
    PE X (.Call (.Name x p) (e :: es) [] pos) (tCallS sp E t) := by
  obtain ⟨f, fd, ps, F, hm, kp, b⟩ := c.ex
  exact pe_callS F (hr.mono hk) hg hm kp b hx ha hdb he hpl
theorem pc_mk (c : Mak CX X.prog X.w X.K X.mg X.base k x C sp) (hr : Room j X.A) (hk : k + 1 ≤ j) (hg : Gl X x) (hx : Passes CX X E) (ha : PA X (e :: es) t)
    (hdb : (x == ("__debug__" : Str)) = false := by decide) (he : starEach (e :: es) X.env = (false, eval e X.env) :: starEach es X.env := by rfl) (hpl : (backTo pos (starEach es X.env)).any (·.1) = false := by rfl) :
    PE X (.Call (.Name x p) (e :: es) [] pos) (tMake C sp [] E t) := by
  obtain ⟨f, fd, ps, M, F, hm, b⟩ := c.ex
  exact pe_make M F (hr.mono hk) hg hm b .nil hx ha hdb he hpl
/-- a class made where a try stands around: what is raised is wished for at the slots -/
def tMakeS (C : Addr) (sp : Sp) (E : L2.St → XK) (t : TA) : TE := fun σ H Q => t σ H fun vs H1 => ∀ x dx, H1 x = none → H1 dx = none → dx ≠ x →
  sp (.ref x :: (vs ++ [])) (upd (upd H1 dx (.own x)) x (.ins C dx [])) (fun v H2 => v = .non ∧ Q (.ref x) H2) (E σ)
theorem run_mkS {f : Addr} {fd : FuncData} {ps : List Str} {ds : List Value} {dvs : List V} {pins : List (Addr × Obj)} {σ : L2.St} {H : Hp} {s : Shared} {Q : VK} {us : List Value} {vs : List V} (M : Mk X.K C f) (F : FnOk X.prog X.w X.K X.mg X.base CX k f fd ps sp) (hr : Room (k + 1) X.A) (hb : Binds X.K fd ps ds) (hd : Vals dvs ds)
    (hx : PassesAt CX X σ E) (I : Inv X pins σ H s) (r : Vals vs us)
    (h : ∀ x dx, H x = none → H dx = none → dx ≠ x → sp (.ref x :: (vs ++ dvs)) (upd (upd H dx (.own x)) x (.ins C dx [])) (fun v H2 => v = .non ∧ Q (.ref x) H2) E) :
    wpAny (model X.prog X.w) X.A (call (.ref C) us) (EP X pins σ Q) X.xe s := by
  have hq := h (s.heap.objs.size + 1) s.heap.objs.size (I.hok.fresh (Nat.le_succ _)) (I.hok.fresh (Nat.le_refl _)) (Nat.ne_of_lt (Nat.lt_succ_self _))
  have I2 := Inv.made (C := C) I
  have r2 : Vals (V.ref (s.heap.objs.size + 1) :: (vs ++ dvs)) (Value.ref (s.heap.objs.size + 1) :: (us ++ ds)) := .cons rfl (r.append hd)
  have hl : (Value.ref (s.heap.objs.size + 1) :: us ++ ds).length = ps.length := by
    have e := r2.length
    rw [F.len _ _ _ _ hq] at e
    exact e.symm
  refine wpAny_call (make_map (f := f) I.kIn M.makes M.init (beq_iff_eq.mp M.fn) (codeAny_mono (F.run _ X.stack _ _ ⟨Value.ref (s.heap.objs.size + 1) :: us, []⟩ (Value.ref (s.heap.objs.size + 1) :: (us ++ ds)) _ _ E (hr.make C us [])
    (I2.env0.make C us []) (hb _ (Value.ref (s.heap.objs.size + 1) :: us) I2.kIn hl) r2 hq) fun r s' hq' => ?_))
  cases r with
  | error e => exact hx pins _ _ e s' I2 hq'
  | ok fl =>
    cases fl with
    | ret u =>
      obtain ⟨v, H', I3, rv, ev, q3⟩ := I2.after hq'
      subst ev
      exact ⟨rv, ⟨V.ref (s.heap.objs.size + 1), H', I3, rfl, q3⟩⟩
    | next => exact False.elim hq'
    | brk => exact False.elim hq'
    | cont => exact False.elim hq'
theorem pc_mkS {E : L2.St → XK} (c : Mak CX X.prog X.w X.K X.mg X.base k x C sp) (hr : Room j X.A) (hk : k + 1 ≤ j) (hg : Gl X x) (hx : ∀ σ, PassesAt CX X σ (E σ)) (ha : PA X (e :: es) t)
    (hdb : (x == ("__debug__" : Str)) = false := by decide) (he : starEach (e :: es) X.env = (false, eval e X.env) :: starEach es X.env := by rfl) (hpl : (backTo pos (starEach es X.env)).any (·.1) = false := by rfl) :
    PE X (.Call (.Name x p) (e :: es) [] pos) (tMakeS C sp E t) := by
  obtain ⟨f, fd, ps, M, F, hm, b⟩ := c.ex
  refine ⟨fun pins s σ H Q I h => ?_⟩
  refine wpAny_Call_Name_kw (ld_glob I hg hm ?_ hdb)
  refine PySem.W.callWith_K (h₀ := X.base) I.ok.mod.kin M.kp (thn (ha.run pos pins s σ H _ I h) fun us s1 ⟨vs, H1, I1, r, q⟩ => ⟨I1.kIn, ?_⟩) he hpl
  exact run_mkS M F (hr.mono hk) b .nil (hx σ) I1 r q
theorem pc_mt {pl : Sem Bool} (c : Met CX X.prog X.w X.K X.mg X.base k C m sp) (hr : Room j X.A) (hk : k ≤ j) (hx : Passes CX X E) (he : PE X o ta) (ha : PA X (e :: es) t)
    (hst : starEach (e :: es) X.env = (false, eval e X.env) :: starEach es X.env := by rfl) (hpl : (backTo pos (starEach es X.env)).any (·.1) = false := by rfl)
    (ht : eval (.Call (.Attribute o m apos) (e :: es) [] pos) X.env = (do
      let ov ← eval o X.env
      standAt apos.atName
      let (f, first) ← holding [ov] (getMethod ov m pl)
      callWith pos f first (backTo pos (starEach (e :: es) X.env)) (backToKw pos (keywordEach [] X.env))) := by rfl) :
    PE X (.Call (.Attribute o m apos) (e :: es) [] pos) (tMeth C m sp [] E ta t) := by
  obtain ⟨f, fd, ps, hc, hm, F, b⟩ := c.ex
  exact pe_meth (pl := pl) he hc hm F (hr.mono hk) b .nil hx ha hst hpl ht
theorem pc_mt0 {pl : Sem Bool} (c : Met CX X.prog X.w X.K X.mg X.base k C m sp) (hr : Room j X.A) (hk : k ≤ j) (hx : Passes CX X E) (he : PE X o ta)
    (ht : eval (.Call (.Attribute o m apos) [] [] pos) X.env = (do
      let ov ← eval o X.env
      standAt apos.atName
      let (f, first) ← holding [ov] (getMethod ov m pl)
      callWith pos f first (backTo pos (starEach [] X.env)) (backToKw pos (keywordEach [] X.env))) := by rfl) :
    PE X (.Call (.Attribute o m apos) [] [] pos) (tMeth C m sp [] E ta tNil) := by
  obtain ⟨f, fd, ps, hc, hm, F, b⟩ := c.ex
  exact pe_meth0 (pl := pl) he hc hm F (hr.mono hk) b .nil hx ht
/-! ### further operators -/
/-- * : one factor small, or both below a million bits together -/
def CMulA (i j : Int) : Prop := CMul i j ∨ CMulW i j
theorem op_mulA : OpR X (binaryOp .Mult) (rI CMulA fun i j => .int (i * j)) := opI fun _ _ _ _ _ _ _ hc q => mul_int q (hc.elim CMul.ok CMulW.ok)
/-- // by any divisor but 0 that is no giant -/
def CDivA (_ j : Int) : Prop := j ≠ 0 ∧ j.natAbs.log2 < 9000
theorem op_fdivA : OpR X (binaryOp .FloorDiv) (rI CDivA fun i j => .int (i.fdiv j)) := opI fun _ _ _ _ _ _ _ hc q => floordiv_int hc.1 q (.inl (PyProof.noPylong_of_log2 hc.2))
theorem divA {i j : Int} {b : Nat} (h : j ≠ 0) (hb : j.natAbs < 2 ^ b) (h0 : 0 < b) (h9 : b ≤ 9000) : CDivA i j := ⟨h, Nat.lt_of_lt_of_le (PySem.Flt.log2_lt_of h0 hb) h9⟩
end
/-! ### heaps: all but what stands at p is kept -/
def Kp (p : Addr) (H H' : Hp) : Prop := ∀ b o, b ≠ p → H b = some o → H' b = some o
theorem Kp.refl {p : Addr} {H : Hp} : Kp p H H := fun _ _ _ h => h
theorem Kp.trans {p : Addr} {H H1 H2 : Hp} (a : Kp p H H1) (b : Kp p H1 H2) : Kp p H H2 := fun c o n h => b c o n (a c o n h)
theorem Kp.upd {p : Addr} {H : Hp} {o : HO} : Kp p H (upd H p o) := fun _ _ n h => by rw [upd_ne n]; exact h
theorem Kp.same {p : Addr} {H0 H H' : Hp} (s : Same H0 H) (k : Kp p H H') (n : H0 p = none) : Same H0 H' := fun b o h => k b o (fun e => by rw [e, n] at h; cases h) (s b o h)
theorem same_upd {H : Hp} {p : Addr} {o : HO} (n : H p = none) : Same H (upd H p o) := fun b u h => by rw [upd_ne (ne_of_none h n)]; exact h
theorem Same.of (H : Hp) : Same H H := fun _ _ h => h
/-- isinstance(e, c), e the exception that the suite holds; its class and its dict are told in the reading -/
theorem call_isE2 {X : Cx} {a D : Addr} {oe : Obj} {cls : Value} {d : Option Addr} {pn : List (Addr × Obj)} (C : ExcC X.K D) (hz : Zc cls d oe) (hf : ∃ vs, oe.data = .fields vs) :
    CallR (X.suite a ((a, oe) :: pn)) (.builtin "isinstance") (fun xs H Q => cls = .ref D ∧ d = none ∧ rIsE X.K D a xs H Q) := by
  intro pins s σ H xs us Q I r h
  obtain ⟨rfl, rfl, h⟩ := h
  exact call_isE C hz hf pins s σ H xs us Q I r h
/-- an error of the class at S is what «except S» names -/
theorem exm_self {K : PySem.W.Frag} {S : Addr} (h1 : PySem.W.subIn K (.ref S) (.type "BaseException") = some true) (h2 : PySem.W.isClsIn K S = true) (h3 : PySem.W.typeIn K (.ref S) = some (.type "type")) (h4 : PySem.W.subIn K (.ref S) (.ref S) = some true) :
    PySem.W.exmOne K (.ref S) (.ref S) = some true := by
  have e1 : (PySem.W.subIn K (.ref S) (.type "BaseException") == some true) = true := by rw [h1] <;> rfl
  have e2 : ((PySem.W.clsIn K S).isSome && PySem.W.typeIn K (.ref S) == some (.type "type")) = true := by
    have h2' : (PySem.W.clsIn K S).isSome = true := h2
    rw [h2', h3] <;> rfl
  show (if (PySem.W.subIn K (.ref S) (.type "BaseException") == some true) = true then (if ((PySem.W.clsIn K S).isSome && PySem.W.typeIn K (.ref S) == some (.type "type")) = true then PySem.W.subIn K (.ref S) (.ref S) else none) else none) = some true
  rw [if_pos e1, if_pos e2]
  exact h4
/-! ### operators of an own class, called by their signs -/
theorem inst_of {X : Cx} {pins : List (Addr × Obj)} {σ : L2.St} {H : Hp} {s : Shared} {a C dx : Addr} {fs : List (Str × V)} (I : Inv X pins σ H s) (h : H a = some (.ins C dx fs)) :
    ∃ (ox : Obj) (od : Option Obj), PySem.W.InstAt s.heap a ox C od ∧ ox.data = .plain := by
  obtain ⟨mA, O, _⟩ := ins_get I.hok h
  obtain ⟨od, J, _⟩ := O.look
  exact ⟨_, _, J, rfl⟩
theorem back_of {X : Cx} {pins : List (Addr × Obj)} {σ : L2.St} {Q : VK} {u : Value} {s : Shared} (h : EP X pins σ Q u s) : PySem.W.CmpBack (EP X pins σ Q) u s := by
  obtain ⟨v, H', I, r, q⟩ := id h
  cases u with
  | notImplemented =>
    cases v <;> first
      | exact (nomatch (show Value.notImplemented = _ from r))
      | (obtain ⟨t, e⟩ := (show ∃ t, Value.notImplemented = _ from r); cases e)
  | _ => exact h
/-- what the text has of an operator's method: run it on two values; A: where the call stands -/
theorem met_runA {X : Cx} {CX : CXT} {A : Around} {k j : Nat} {C : Addr} {m : Str} {sp : Sp} {E : XK} (c : Met CX X.prog X.w X.K X.mg X.base k C m sp) (hr : Room j A) (hk : k ≤ j) (hx : Passes CX X E)
    (hA : ∀ (s : Shared) (H : Hp), Env0 X.prog X.w X.K X.mg X.base X.A X.stack s H → Env0 X.prog X.w X.K X.mg X.base A X.stack s H) :
    ∃ f : Addr, PySem.W.findIn X.K (.ref C) m = some (some (.ref f)) ∧ PySem.W.isFn X.K (.ref f) = true ∧ PySem.W.keepIn X.K (.ref f) = true ∧
      ∀ (pins : List (Addr × Obj)) (s : Shared) (σ : L2.St) (H : Hp) (us : List Value) (vs : List V) (Q : VK), Inv X pins σ H s → Vals vs us → sp vs H Q E → wpAny (model X.prog X.w) A (call (.ref f) us) (EP X pins σ Q) X.xe s := by
  obtain ⟨f, fd, ps, hc, hm, F, b⟩ := c.ex
  refine ⟨f, hm.at_, hm.fn, hm.kp, fun pins s σ H us vs Q I r h => ?_⟩
  have hl : us.length = ps.length := by rw [← r.length]; exact F.len _ _ _ _ h
  have hb := b s us I.kIn (by rw [List.append_nil]; exact hl)
  rw [List.append_nil] at hb
  refine wpAny_call (codeAny_mono (F.run A X.stack s H ⟨us, []⟩ us vs Q E (hr.mono hk) (hA _ _ I.env0) hb r h) fun r s' hq => ?_)
  match r with
  | .error e => exact hx pins σ H s e s' I hq
  | .ok (.ret u) => exact I.after hq
  | .ok .next => exact False.elim hq
  | .ok .brk => exact False.elim hq
  | .ok .cont => exact False.elim hq
theorem met_run {X : Cx} {CX : CXT} {k j : Nat} {C : Addr} {m : Str} {sp : Sp} {E : XK} (c : Met CX X.prog X.w X.K X.mg X.base k C m sp) (hr : Room j X.A) (hk : k ≤ j) (hx : Passes CX X E) :
    ∃ f : Addr, PySem.W.findIn X.K (.ref C) m = some (some (.ref f)) ∧ PySem.W.isFn X.K (.ref f) = true ∧ PySem.W.keepIn X.K (.ref f) = true ∧
      ∀ (pins : List (Addr × Obj)) (s : Shared) (σ : L2.St) (H : Hp) (us : List Value) (vs : List V) (Q : VK), Inv X pins σ H s → Vals vs us → sp vs H Q E → wpAny (model X.prog X.w) X.A (call (.ref f) us) (EP X pins σ Q) X.xe s := met_runA c hr hk hx fun _ _ z => z
section
variable {X : Cx} {CX : CXT} {k j : Nat} {C : Addr} {m : Str} {sp : Sp} {E : XK}
def rOwn2 (C : Addr) (sp : Sp) (E : XK) : R2 := fun x y H Q => ∃ (a b dx dy : Addr) (fs gs : List (Str × V)), x = .ref a ∧ y = .ref b ∧ H a = some (.ins C dx fs) ∧ H b = some (.ins C dy gs) ∧ sp [x, y] H Q E
/-- x op y, both of one own class that has the method -/
theorem op_own {op : Operator} (c : Met CX X.prog X.w X.K X.mg X.base k C m sp) (hr : Room j X.A) (hk : k ≤ j) (hx : Passes CX X E) (sf : PySem.W.selfFirst X.K C = true) (hm : PySem.dunder op.info.2 = m := by decide +kernel) :
    OpR X (binaryOp op) (rOwn2 C sp E) := by
  intro pins s σ H x y v u Q I rx ry h
  obtain ⟨a, b, dx, dy, fs, gs, rfl, rfl, ha, hb, hs⟩ := h
  obtain ⟨f, hf, fn, kp, run⟩ := met_run c hr hk hx
  obtain ⟨mF, F⟩ := I.fr
  obtain ⟨ox, od, J, _⟩ := inst_of I ha
  obtain ⟨oy, oe, J2, _⟩ := inst_of I hb
  have r2 : Vals [V.ref a, V.ref b] [v, u] := .cons rx (.cons ry .nil)
  cases (show v = Value.ref a from rx)
  cases (show u = Value.ref b from ry)
  exact PySem.W.binop_K F I.ok.mod.kin J J2.type sf (by rw [hm]; exact hf) fn (wpAny_mono (run pins s σ H _ _ Q I r2 hs) (fun _ _ z => back_of z) fun _ _ z => z)
def rOwnI (C : Addr) (sp : Sp) (E : XK) : R2 := fun x y H Q => ∃ (a dx : Addr) (fs : List (Str × V)) (i : Int), x = .ref a ∧ y = .int i ∧ H a = some (.ins C dx fs) ∧ sp [x, y] H Q E
/-- x op i, i a whole number -/
theorem op_ownI {op : Operator} (c : Met CX X.prog X.w X.K X.mg X.base k C m sp) (hr : Room j X.A) (hk : k ≤ j) (hx : Passes CX X E) (sf : PySem.W.selfFirst X.K C = true)
    (hrc : ∃ rc, PySem.W.findIn X.K (.ref C) (dunderR op.info.2) = some rc ∧ (rc = none ∨ ∃ g : Addr, rc = some (.ref g)))
    (h1 : ∃ fo, PySem.W.findIn X.K (.type "int") (PySem.dunder op.info.2) = some fo) (h2 : ∃ ro, PySem.W.findIn X.K (.type "int") (dunderR op.info.2) = some ro) (hsub : PySem.W.subIn X.K (.type "int") (.ref C) = some false)
    (hm : PySem.dunder op.info.2 = m := by decide +kernel) : OpR X (binaryOp op) (rOwnI C sp E) := by
  intro pins s σ H x y v u Q I rx ry h
  obtain ⟨a, dx, fs, i, rfl, rfl, ha, hs⟩ := h
  obtain ⟨f, hf, fn, kp, run⟩ := met_run c hr hk hx
  obtain ⟨rc, hrc, hp⟩ := hrc
  obtain ⟨fo, h1⟩ := h1
  obtain ⟨ro, h2⟩ := h2
  obtain ⟨mF, F⟩ := I.fr
  obtain ⟨ox, od, J, _⟩ := inst_of I ha
  have r2 : Vals [V.ref a, V.int i] [v, u] := .cons rx (.cons ry .nil)
  cases (show v = Value.ref a from rx)
  obtain ⟨t, et⟩ := (show ∃ t, u = Value.int i t from ry)
  subst et
  exact PySem.W.ksp_binT (T := "int") F I.ok.mod.kin J rfl sf (by rw [hm]; exact hf) fn hrc hp h1 h2 hsub (wpAny_mono (run pins s σ H _ _ Q I r2 hs) (fun _ _ z => back_of z) fun _ _ z => z)
def rOwn1 (C : Addr) (sp : Sp) (E : XK) : V → Hp → VK → Prop := fun x H Q => ∃ (a dx : Addr) (fs : List (Str × V)), x = .ref a ∧ H a = some (.ins C dx fs) ∧ sp [x] H Q E
/-- -x -/
theorem un_own (c : Met CX X.prog X.w X.K X.mg X.base k C "__neg__" sp) (hr : Room j X.A) (hk : k ≤ j) (hx : Passes CX X E) : UnR X (unaryOp .USub) (rOwn1 C sp E) := by
  intro pins s σ H x v Q I rx h
  obtain ⟨a, dx, fs, rfl, ha, hs⟩ := h
  obtain ⟨f, hf, fn, kp, run⟩ := met_run c hr hk hx
  obtain ⟨mF, F⟩ := I.fr
  obtain ⟨ox, od, J, _⟩ := inst_of I ha
  have r1 : Vals [V.ref a] [v] := .cons rx .nil
  cases (show v = Value.ref a from rx)
  exact PySem.W.ksp_neg F I.ok.mod.kin J hf fn (run pins s σ H _ _ Q I r1 hs)
/-- int's method finds no int in an own instance -/
theorem int_declines {prog : Program} {w : World} {A : Around} {Er : Value → Shared → Prop} {s : Shared} {x D : Addr} {ox : Obj} {od : Option Obj} {i : Int} {t : Tok} {nm : String} {id : String} {nmB : String} {f : Int → Int → Sem Fin} {Q : Option Value → Shared → Prop}
    (J : PySem.W.InstAt s.heap x ox D od) (hd : ox.data = .plain) (slot : Slot "int" (PySem.dunder nm) id) (entry : entryFor table id = some (Builtin.Int.intBinary nmB f)) (args : argsOk id ⟨[.int i t, .ref x], []⟩) (h : Q none s) :
    wpAny (model prog w) A (tryMethod (.int i t) (PySem.dunder nm) (.ref x)) Q Er s := by
  refine wpAny_tryMethod_declines (typeIs_int s i t) slot ?_
  refine GQ.call_here slot (typeIs_int s i t) entry args ?_
  unfold Builtin.Int.intBinary
  obtain ⟨hp, g, d, tk, os⟩ := s
  obtain ⟨oc, odd, odt, osl⟩ := ox
  dsimp only at hd
  subst hd
  have hx : hp.get? x = some _ := J.1
  wp_walk using AutoSeq1.wpAny_loadPart' hx
  exact ⟨rfl, h⟩
end
def rIOwn (C : Addr) (sp : Sp) (E : XK) : R2 := fun x y H Q => ∃ (a dx : Addr) (fs : List (Str × V)) (i : Int), x = .int i ∧ y = .ref a ∧ H a = some (.ins C dx fs) ∧ sp [y, x] H Q E
/-- i op x, i a whole number: x's reflected method -/
theorem op_Iown {X : Cx} {CX : CXT} {k j : Nat} {C : Addr} {sp : Sp} {E : XK} {op : Operator} {nm id nmB : String} {f : Int → Int → Sem Fin} (hop : op.info.2 = nm)
    (slot : Slot "int" (PySem.dunder nm) id) (entry : entryFor table id = some (Builtin.Int.intBinary nmB f)) (args : ∀ (i : Int) (t : Tok) (x : Addr), argsOk id ⟨[.int i t, .ref x], []⟩) (fills : fillsNumberSlot (.type "int") nm = pure true)
    (c : Met CX X.prog X.w X.K X.mg X.base k C (dunderR nm) sp) (hr : Room j X.A) (hk : k ≤ j) (hx : Passes CX X E) (sf : PySem.W.selfFirst X.K C = true)
    (hs : ∃ g : Addr, PySem.W.findIn X.K (.ref C) (PySem.dunder nm) = some (some (.ref g))) (hsub : PySem.W.subIn X.K (.ref C) (.type "int") = some false) : OpR X (binaryOp op) (rIOwn C sp E) := by
  intro pins s σ H x y v u Q I rx ry h
  obtain ⟨a, dx, fs, i, rfl, rfl, ha, hsp⟩ := h
  obtain ⟨g, hs⟩ := hs
  obtain ⟨f, hf, fn, kp, run⟩ := met_run c hr hk hx
  obtain ⟨ox, od, J, hd⟩ := inst_of I ha
  have r2 : Vals [V.ref a, V.int i] [u, v] := .cons ry (.cons rx .nil)
  cases (show u = Value.ref a from ry)
  obtain ⟨t, et⟩ := (show ∃ t, v = Value.int i t from rx)
  subst et
  have one := PySem.W.ksp_try (M := model X.prog X.w) (A := X.A) (name := dunderR nm) (b := .int i t) I.kIn J hf fn (wpAny_mono (run pins s σ H _ _ Q I r2 hsp) (fun _ _ z => back_of z) fun _ _ z => z)
  obtain ⟨cd, rest, hcd, hmr⟩ := PySem.W.ksp_first sf
  have K1 : X.K.In s.heap := I.kIn
  rcases hi : op.info with ⟨sym, nm'⟩
  rw [hi] at hop
  dsimp only at hop
  subst hop
  have L2 : PySem.W.Looks (model X.prog X.w) s.heap (typeOf (.ref a)) (.ref C) := J.type
  have L4 : PySem.W.Looks (model X.prog X.w) s.heap (fillsNumberSlot (.ref C) nm') true := PySem.W.fills_K K1 hcd hmr hs
  have L5 : PySem.W.Looks (model X.prog X.w) s.heap (isSubtype (.ref C) (.type "int")) false := PySem.W.looks_subIn K1 hsub
  have hne : (Value.type "int" == Value.ref C) = false := Bool.eq_false_iff.mpr fun q => by cases beq_iff_eq.mp q
  have hpy : numberSlotInPython (.type "int") nm' = pure false := rfl
  simp only [binaryOp, hi]
  refine wpAny_holding (wpAny_bind ?_)
  unfold binaryOp1
  refine wpAny_bind (wpAny_typeOf (typeIs_int s i t) (wpAny_bind (L2.here (wpAny_bind (wpAny_of_eq fills ?_)))))
  simp only [hne, Bool.false_eq_true, if_false]
  refine wpAny_bind (L4.here ?_)
  simp only [Bool.and_self, if_true]
  refine wpAny_bind (L5.here ?_)
  simp only [Bool.false_eq_true, if_false, pure_bind, Bool.not_false, Bool.and_self, if_true, hpy]
  refine wpAny_bind (int_declines J hd slot entry (args i t a) ?_)
  dsimp only
  refine wpAny_bind (wpAny_mono one (fun r s' hr' => ?_) fun _ _ e => e)
  obtain ⟨v, rfl, hq⟩ := hr'
  exact wpAny_bind (wpAny_rule (wpAny_pure (wpAny_pure hq)))
/-- abs(x), x an own instance -/
theorem call_absO {X : Cx} {CX : CXT} {k j : Nat} {C : Addr} {sp : Sp} {E : XK} (c : Met CX X.prog X.w X.K X.mg X.base k C "__abs__" sp) (hr : Room j X.A) (hk : k + 1 ≤ j) (hx : Passes CX X E) :
    CallR X (.builtin "abs") (fun xs H Q => ∃ x, xs = [x] ∧ rOwn1 C sp E x H Q) := by
  intro pins s σ H xs us Q I r h
  obtain ⟨x, rfl, a, dx, fs, rfl, ha, hs⟩ := h
  obtain ⟨f, hf, fn, kp, run⟩ := met_runA c (hr.mono hk).in1 (Nat.le_refl _) hx (fun _ _ z => z.in1)
  obtain ⟨ox, od, J, _⟩ := inst_of I ha
  have r0 := r
  obtain ⟨u, rfl, ru⟩ := vals1 r
  cases (show u = Value.ref a from ru)
  have h1 := run pins s σ H _ _ Q I r0 hs
  refine PySem.Calls.call_function_entry PyProof.Rows.kind_abs PyProof.Rows.plain_abs PyProof.Rows.entry_abs (PyProof.Rows.args_abs _) ?_
  unfold Builtin.«abs»
  refine wpAny_bind (m := oneArg "abs" _) (wpAny_pure ?_)
  refine wpAny_bind (m := callSpecial? (.ref a) (Str.ofString "__abs__")) (PySem.W.special_fn I.kIn J hf (beq_iff_eq.mp fn) (wpAny_mono h1 (fun v s' hv => ?_) fun _ _ z => z))
  exact wpAny_pure ⟨_, rfl, hv⟩
theorem UnR.or {X : Cx} {f : Value → Sem Value} {r r' : V → Hp → VK → Prop} (h : UnR X f r) (h' : UnR X f r') : UnR X f (fun x H Q => r x H Q ∨ r' x H Q) := by
  intro pins s σ H x v Q I rx q
  rcases q with q | q
  · exact h pins s σ H x v Q I rx q
  · exact h' pins s σ H x v Q I rx q
theorem CallR.or {X : Cx} {f : Value} {r r' : List V → Hp → VK → Prop} (h : CallR X f r) (h' : CallR X f r') : CallR X f (fun x H Q => r x H Q ∨ r' x H Q) := by
  intro pins s σ H x v Q I rx q
  rcases q with q | q
  · exact h pins s σ H x v Q I rx q
  · exact h' pins s σ H x v Q I rx q
/-! ### the fraction: lowest terms -/
/-- the common divisor with the sign of the denominator -/
def cmn (n d : Int) : Int := if d < 0 then -((Nat.gcd n.natAbs d.natAbs : Nat) : Int) else ((Nat.gcd n.natAbs d.natAbs : Nat) : Int)
def rN (n d : Int) : Int := n.fdiv (cmn n d)
def rD (n d : Int) : Int := d.fdiv (cmn n d)
theorem gcd_pos {n d : Int} (h : d ≠ 0) : 0 < Nat.gcd n.natAbs d.natAbs := Nat.gcd_pos_of_pos_right _ (by omega)
theorem cmn_ne {n d : Int} (h : d ≠ 0) : cmn n d ≠ 0 := by
  have g := gcd_pos (n := n) h
  unfold cmn
  split <;> omega
theorem cmn_natAbs (n d : Int) : (cmn n d).natAbs = Nat.gcd n.natAbs d.natAbs := by
  unfold cmn
  split <;> omega
theorem cmn_dvd_n (n d : Int) : cmn n d ∣ n := Int.natAbs_dvd_natAbs.mp (by rw [cmn_natAbs]; exact Nat.gcd_dvd_left _ _)
theorem cmn_dvd_d (n d : Int) : cmn n d ∣ d := Int.natAbs_dvd_natAbs.mp (by rw [cmn_natAbs]; exact Nat.gcd_dvd_right _ _)
theorem rN_mul (n d : Int) : cmn n d * rN n d = n := Int.mul_fdiv_cancel' (cmn_dvd_n n d)
theorem rD_mul (n d : Int) : cmn n d * rD n d = d := Int.mul_fdiv_cancel' (cmn_dvd_d n d)
theorem rD_pos {n d : Int} (h : d ≠ 0) : 1 ≤ rD n d := by
  have e := rD_mul n d
  have g := gcd_pos (n := n) h
  by_cases hd : d < 0
  · have c : cmn n d < 0 := by unfold cmn; rw [if_pos hd]; omega
    have : ¬ rD n d ≤ 0 := fun z => by
      have := Int.mul_nonneg_of_nonpos_of_nonpos (Int.le_of_lt c) z
      omega
    omega
  · have c : 0 < cmn n d := by unfold cmn; rw [if_neg hd]; omega
    have : ¬ rD n d ≤ 0 := fun z => by
      have := Int.mul_nonpos_of_nonneg_of_nonpos (Int.le_of_lt c) z
      omega
    omega
theorem r_cross (n d : Int) : rN n d * d = n * rD n d := by
  have e1 := rN_mul n d
  have e2 := rD_mul n d
  calc rN n d * d = rN n d * (cmn n d * rD n d) := by rw [e2]
    _ = (cmn n d * rN n d) * rD n d := by rw [← Int.mul_assoc, Int.mul_comm (rN n d)]
    _ = n * rD n d := by rw [e1]
theorem r_cop {n d : Int} (h : d ≠ 0) : Nat.gcd (rN n d).natAbs (rD n d).natAbs = 1 := by
  have g := gcd_pos (n := n) h
  have e1 : (Nat.gcd n.natAbs d.natAbs) * (rN n d).natAbs = n.natAbs := by rw [← cmn_natAbs, ← Int.natAbs_mul, rN_mul]
  have e2 : (Nat.gcd n.natAbs d.natAbs) * (rD n d).natAbs = d.natAbs := by rw [← cmn_natAbs, ← Int.natAbs_mul, rD_mul]
  have e3 : Nat.gcd n.natAbs d.natAbs * Nat.gcd (rN n d).natAbs (rD n d).natAbs = Nat.gcd n.natAbs d.natAbs := by
    rw [← Nat.gcd_mul_left, e1, e2]
  exact Nat.eq_of_mul_eq_mul_left g (by rw [e3, Nat.mul_one])
theorem rN_le {n d : Int} (h : d ≠ 0) : (rN n d).natAbs ≤ n.natAbs := by
  have g := gcd_pos (n := n) h
  have e1 : (Nat.gcd n.natAbs d.natAbs) * (rN n d).natAbs = n.natAbs := by rw [← cmn_natAbs, ← Int.natAbs_mul, rN_mul]
  calc (rN n d).natAbs ≤ Nat.gcd n.natAbs d.natAbs * (rN n d).natAbs := Nat.le_mul_of_pos_left _ g
    _ = n.natAbs := e1
theorem rD_le {n d : Int} (h : d ≠ 0) : (rD n d).natAbs ≤ d.natAbs := by
  have g := gcd_pos (n := n) h
  have e1 : (Nat.gcd n.natAbs d.natAbs) * (rD n d).natAbs = d.natAbs := by rw [← cmn_natAbs, ← Int.natAbs_mul, rD_mul]
  calc (rD n d).natAbs ≤ Nat.gcd n.natAbs d.natAbs * (rD n d).natAbs := Nat.le_mul_of_pos_left _ g
    _ = d.natAbs := e1
theorem cmn_lt {n d : Int} {k : Nat} (h : d ≠ 0) (hd : d.natAbs < 2 ^ k) : (cmn n d).natAbs < 2 ^ k := by
  rw [cmn_natAbs]
  exact Nat.lt_of_le_of_lt (Nat.gcd_le_right _ (by omega)) hd
/-! ### its object -/
theorem nd_ : ¬ (("num" : Str) = "den") := by decide +kernel
theorem dn_ : ¬ (("den" : Str) = "num") := by decide +kernel
def rfs (n d : Int) : List (Str × V) := putF "den" (.int d) (putF "num" (.int n) [])
theorem rfs_num (n d : Int) : (rfs n d).lookup ("num" : Str) = some (.int n) := by
  unfold rfs
  rw [lookup_putF, if_neg nd_, lookup_putF, if_pos rfl]
theorem rfs_den (n d : Int) : (rfs n d).lookup ("den" : Str) = some (.int d) := by
  unfold rfs
  rw [lookup_putF, if_pos rfl]
theorem rfs_no (n d : Int) {m : Str} (h1 : ¬ m = "den") (h2 : ¬ m = "num") : (rfs n d).lookup m = none := by
  unfold rfs
  rw [lookup_putF, if_neg h1, lookup_putF, if_neg h2]
  all_goals rfl
def sp_Ratio_init (C CB : Addr) : Sp := fun vs H Q E => ∃ (x dx : Addr) (n d : Int), vs = [.ref x, .int n, .int d] ∧ H x = some (.ins C dx []) ∧ d.natAbs < 2 ^ 8000 ∧
  (d = 0 → E (.ref CB) none H) ∧ (d ≠ 0 → ∀ H', H' x = some (.ins C dx (rfs (rN n d) (rD n d))) → Kp x H H' → Q .non H')
/-! ### fractions by what they are worth: the form in lowest terms is one -/
theorem r_eq {n d n' d' : Int} (h : d ≠ 0) (h' : d' ≠ 0) (e : n * d' = n' * d) : rN n d = rN n' d' ∧ rD n d = rD n' d' := by
  have p1 := rD_pos (n := n) h
  have p2 := rD_pos (n := n') h'
  have c1 := r_cop (n := n) h
  have c2 := r_cop (n := n') h'
  have x1 := r_cross n d
  have x2 := r_cross n' d'
  generalize rN n d = a at *
  generalize rD n d = b at *
  generalize rN n' d' = a' at *
  generalize rD n' d' = b' at *
  have k : a * b' = a' * b := by
    have z : (a * b') * (d * d') = (a' * b) * (d * d') := by
      have e1 : (a * b') * (d * d') = (a * d) * (b' * d') := by grind
      have e2 : (a' * b) * (d * d') = (a' * d') * (b * d) := by grind
      rw [e1, e2, x1, x2]
      have e3 : n * b * (b' * d') = (n * d') * (b * b') := by grind
      have e4 : n' * b' * (b * d) = (n' * d) * (b * b') := by grind
      rw [e3, e4, e]
    exact Int.eq_of_mul_eq_mul_right (Int.mul_ne_zero h h') z
  have kn : a.natAbs * b'.natAbs = a'.natAbs * b.natAbs := by rw [← Int.natAbs_mul, ← Int.natAbs_mul, k]
  have d1 : b.natAbs ∣ b'.natAbs := Nat.Coprime.dvd_of_dvd_mul_left (Nat.Coprime.symm c1) ⟨a'.natAbs, by rw [kn, Nat.mul_comm]⟩
  have d2 : b'.natAbs ∣ b.natAbs := Nat.Coprime.dvd_of_dvd_mul_left (Nat.Coprime.symm c2) ⟨a.natAbs, by rw [← kn, Nat.mul_comm]⟩
  have eb : b.natAbs = b'.natAbs := Nat.dvd_antisymm d1 d2
  have eb' : b = b' := by omega
  subst eb'
  exact ⟨Int.eq_of_mul_eq_mul_right (by omega) k, rfl⟩
/-- at a stands the fraction T / B -/
def RV (C : Addr) (H : Hp) (a : Addr) (T B : Int) : Prop := ∃ dx : Addr, H a = some (.ins C dx (rfs (rN T B) (rD T B)))
theorem RV.same {C : Addr} {H H' : Hp} {a : Addr} {T B : Int} (h : RV C H a T B) (s : Same H H') : RV C H' a T B := by
  obtain ⟨dx, e⟩ := h
  exact ⟨dx, s _ _ e⟩
theorem RV.eq {C : Addr} {H : Hp} {a : Addr} {T B T' B' : Int} (h : RV C H a T B) (hb : B ≠ 0) (hb' : B' ≠ 0) (e : T * B' = T' * B) : RV C H a T' B' := by
  obtain ⟨dx, z⟩ := h
  obtain ⟨e1, e2⟩ := r_eq hb hb' e
  exact ⟨dx, by rw [← e1, ← e2]; exact z⟩
/-- a fraction, or a whole number -/
def NumV (C : Addr) (H : Hp) (x : V) (T B : Int) : Prop := (∃ a, x = .ref a ∧ RV C H a T B) ∨ (x = .int T ∧ B = 1)
theorem NumV.same {C : Addr} {H H' : Hp} {x : V} {T B : Int} (h : NumV C H x T B) (s : Same H H') : NumV C H' x T B := by
  rcases h with ⟨a, e, r⟩ | h
  · exact .inl ⟨a, e, r.same s⟩
  · exact .inr h
theorem mk_same {H J : Hp} {x dx C : Addr} (hx : H x = none) (hdx : H dx = none) (k : Kp x (upd (upd H dx (.own x)) x (.ins C dx [])) J) : Same H J := fun b o e => k b o (ne_of_none e hx) (by
  rw [upd_ne (ne_of_none e hx), upd_ne (ne_of_none e hdx)]
  exact e)
abbrev Bd (n : Int) (k : Nat) : Prop := n.natAbs < 2 ^ k
theorem Bd.n {T B : Int} {k : Nat} (h : Bd T k) (hb : B ≠ 0) : Bd (rN T B) k := Nat.lt_of_le_of_lt (rN_le hb) h
theorem Bd.d {T B : Int} {k : Nat} (h : Bd B k) (hb : B ≠ 0) : Bd (rD T B) k := Nat.lt_of_le_of_lt (rD_le hb) h
theorem Bd.mul {a b : Int} {j k : Nat} (h : Bd a j) (g : Bd b k) : Bd (a * b) (j + k) := wide_lt h g
theorem Bd.add {a b : Int} {k : Nat} (h : Bd a k) (g : Bd b k) : Bd (a + b) (k + 1) := by
  have h' : a.natAbs < 2 ^ k := h
  have g' : b.natAbs < 2 ^ k := g
  show (a + b).natAbs < 2 ^ (k + 1)
  rw [Nat.pow_succ]
  omega
theorem Bd.neg {a : Int} {k : Nat} (h : Bd a k) : Bd (-a) k := by
  show (-a).natAbs < 2 ^ k
  rw [Int.natAbs_neg]
  exact h
theorem Bd.le {a : Int} {j k : Nat} (h : Bd a j) (le : j ≤ k) : Bd a k := Nat.lt_of_lt_of_le h (Nat.pow_le_pow_right (by decide) le)
def sp_Rof (C : Addr) : Sp := fun vs H Q _ => ∃ (x : V) (T B : Int), vs = [x] ∧ NumV C H x T B ∧ ∀ (H' : Hp) (p : Addr), Same H H' → RV C H' p T B → Q (.ref p) H'
def sp_Rneg (C : Addr) : Sp := fun vs H Q _ => ∃ (a : Addr) (T B : Int), vs = [.ref a] ∧ RV C H a T B ∧ B ≠ 0 ∧ Bd B 4000 ∧ ∀ (H' : Hp) (p : Addr), Same H H' → RV C H' p (-T) B → Q (.ref p) H'
def sp_Rabs (C : Addr) : Sp := fun vs H Q _ => ∃ (a : Addr) (T B : Int), vs = [.ref a] ∧ RV C H a T B ∧ 0 < B ∧ Bd B 4000 ∧ ∀ (H' : Hp) (p : Addr), Same H H' → RV C H' p (if T < 0 then -T else T) B → Q (.ref p) H'
/-- both operands, and what the result is worth -/
def sp_R2 (C : Addr) (f g : Int → Int → Int → Int → Int) : Sp := fun vs H Q _ => ∃ (a : Addr) (y : V) (T B U D : Int), vs = [.ref a, y] ∧ RV C H a T B ∧ NumV C H y U D ∧ B ≠ 0 ∧ D ≠ 0 ∧ Bd T 1000 ∧ Bd B 1000 ∧ Bd U 1000 ∧ Bd D 1000 ∧
  ∀ (H' : Hp) (p : Addr), Same H H' → RV C H' p (f T B U D) (g T B U D) → Q (.ref p) H'
abbrev fAdd : Int → Int → Int → Int → Int := fun T B U D => T * D + U * B
abbrev fSub : Int → Int → Int → Int → Int := fun T B U D => T * D - U * B
abbrev fRsub : Int → Int → Int → Int → Int := fun T B U D => U * B - T * D
abbrev fMul : Int → Int → Int → Int → Int := fun T _ U _ => T * U
abbrev fDen : Int → Int → Int → Int → Int := fun _ B _ D => B * D
/-- the same, the right one a whole number -/
def sp_R2i (C : Addr) (f g : Int → Int → Int → Int → Int) : Sp := fun vs H Q _ => ∃ (a : Addr) (y : V) (T B U D : Int), vs = [.ref a, y] ∧ RV C H a T B ∧ (∃ i : Int, y = .int i) ∧ NumV C H y U D ∧ B ≠ 0 ∧ D ≠ 0 ∧ Bd T 1000 ∧ Bd B 1000 ∧ Bd U 1000 ∧ Bd D 1000 ∧
  ∀ (H' : Hp) (p : Addr), Same H H' → RV C H' p (f T B U D) (g T B U D) → Q (.ref p) H'
/-! ### a law's cells and pools: what is promised of them -/
def PoolAt (H : Hp) (p : Addr) : Prop := ∃ x y z : Int, H p = some (.lst [.int x, .int y, .int z])
theorem PoolAt.kp {H H' : Hp} {p q : Addr} (h : PoolAt H p) (k : Kp q H H') (n : p ≠ q) : PoolAt H' p := by
  obtain ⟨x, y, z, e⟩ := h
  exact ⟨x, y, z, k _ _ n e⟩
theorem PoolAt.same {H H' : Hp} {p : Addr} (h : PoolAt H p) (k : Same H H') : PoolAt H' p := by
  obtain ⟨x, y, z, e⟩ := h
  exact ⟨x, y, z, k _ _ e⟩
theorem at0 {α : Type} {a b c : α} : atI [a, b, c] (0 : Int) = some a := rfl
theorem at1 {α : Type} {a b c : α} : atI [a, b, c] (1 : Int) = some b := rfl
theorem at2 {α : Type} {a b c : α} : atI [a, b, c] (2 : Int) = some c := rfl
def sp_Lcell (K : PySem.W.Frag) : Sp := fun vs H Q _ => ∃ (l : Addr) (ns : List Int) (j : Nat), vs = [.ref l, .int (j : Int)] ∧ SqL K H l (ns.map V.int) ∧ ∀ c : Int, 0 ≤ c → Q (.int c) H
def sp_Lpool : Sp := fun vs H Q _ => ∃ c : Int, vs = [.int c] ∧ ∀ (p : Addr) (H' : Hp), H p = none → Same H H' → PoolAt H' p → Q (.ref p) H'
def sp_Ltake : Sp := fun vs H Q _ => ∃ (p : Addr) (many : Int), vs = [.ref p, .int many] ∧ PoolAt H p ∧ 0 < many ∧ many.natAbs < 2 ^ 300 ∧
  ∀ (H' : Hp) (r : Int), Kp p H H' → PoolAt H' p → 0 ≤ r → r < many → Q (.int r) H'
def topS (i : Nat) : Stmt := PySem.Challenge.pw_onecable_k02_ratio_sums.main.body.getD i (.Pass ⟨0, 0, 0, 0⟩)
abbrev s_Ratio_init : Stmt := inClass (topS 7) 0
theorem sc_Ratio_init : FnScope ["self", "num", "den", "common"] ["self", "num", "den"] (defScope s_Ratio_init) := ⟨rfl, rfl, rfl, by decide +kernel, rfl, by decide +kernel, by decide +kernel⟩
abbrev s_uratio_of : Stmt := topS 6
theorem sc_uratio_of : FnScope ["number"] ["number"] (defScope s_uratio_of) := ⟨rfl, rfl, rfl, by decide +kernel, rfl, by decide +kernel, by decide +kernel⟩
abbrev s_Ratio_neg : Stmt := inClass (topS 7) 5
theorem sc_Ratio_neg : FnScope ["self"] ["self"] (defScope s_Ratio_neg) := ⟨rfl, rfl, rfl, by decide +kernel, rfl, by decide +kernel, by decide +kernel⟩
abbrev s_Ratio_abs : Stmt := inClass (topS 7) 6
theorem sc_Ratio_abs : FnScope ["self"] ["self"] (defScope s_Ratio_abs) := ⟨rfl, rfl, rfl, by decide +kernel, rfl, by decide +kernel, by decide +kernel⟩
abbrev s_Ratio_add : Stmt := inClass (topS 7) 7
theorem sc_Ratio_add : FnScope ["self", "other", "right"] ["self", "other"] (defScope s_Ratio_add) := ⟨rfl, rfl, rfl, by decide +kernel, rfl, by decide +kernel, by decide +kernel⟩
abbrev s_Ratio_radd : Stmt := inClass (topS 7) 8
theorem sc_Ratio_radd : FnScope ["self", "other"] ["self", "other"] (defScope s_Ratio_radd) := ⟨rfl, rfl, rfl, by decide +kernel, rfl, by decide +kernel, by decide +kernel⟩
abbrev s_Ratio_sub : Stmt := inClass (topS 7) 9
theorem sc_Ratio_sub : FnScope ["self", "other"] ["self", "other"] (defScope s_Ratio_sub) := ⟨rfl, rfl, rfl, by decide +kernel, rfl, by decide +kernel, by decide +kernel⟩
abbrev s_Ratio_rsub : Stmt := inClass (topS 7) 10
theorem sc_Ratio_rsub : FnScope ["self", "other"] ["self", "other"] (defScope s_Ratio_rsub) := ⟨rfl, rfl, rfl, by decide +kernel, rfl, by decide +kernel, by decide +kernel⟩
abbrev s_Ratio_mul : Stmt := inClass (topS 7) 11
theorem sc_Ratio_mul : FnScope ["self", "other", "right"] ["self", "other"] (defScope s_Ratio_mul) := ⟨rfl, rfl, rfl, by decide +kernel, rfl, by decide +kernel, by decide +kernel⟩
abbrev s_Ratio_rmul : Stmt := inClass (topS 7) 12
theorem sc_Ratio_rmul : FnScope ["self", "other"] ["self", "other"] (defScope s_Ratio_rmul) := ⟨rfl, rfl, rfl, by decide +kernel, rfl, by decide +kernel, by decide +kernel⟩
abbrev s_Lcell : Stmt := topS 9
theorem sc_Lcell : FnScope ["_law_script", "_law_at"] ["_law_script", "_law_at"] (defScope s_Lcell) := ⟨rfl, rfl, rfl, by decide +kernel, rfl, by decide +kernel, by decide +kernel⟩
abbrev s_Lpool : Stmt := topS 10
theorem sc_Lpool : FnScope ["_law_cell_here"] ["_law_cell_here"] (defScope s_Lpool) := ⟨rfl, rfl, rfl, by decide +kernel, rfl, by decide +kernel, by decide +kernel⟩
abbrev s_Ltake : Stmt := topS 11
theorem sc_Ltake : FnScope ["_law_pool_here", "_law_many", "_law_digit", "_law_mixed"] ["_law_pool_here", "_law_many"] (defScope s_Ltake) := ⟨rfl, rfl, rfl, by decide +kernel, rfl, by decide +kernel, by decide +kernel⟩
abbrev s_Lnumber : Stmt := topS 12
theorem sc_Lnumber : FnScope ["_law_pool_here", "_law_blocks", "_law_number_here", "_law_k"] ["_law_pool_here", "_law_blocks"] (defScope s_Lnumber) := ⟨rfl, rfl, rfl, by decide +kernel, rfl, by decide +kernel, by decide +kernel⟩
abbrev s_Ldivisor : Stmt := topS 13
theorem sc_Ldivisor : FnScope ["_law_one", "_law_two", "_law_k", "_law_rest"] ["_law_one", "_law_two"] (defScope s_Ldivisor) := ⟨rfl, rfl, rfl, by decide +kernel, rfl, by decide +kernel, by decide +kernel⟩
abbrev s_Lshort : Stmt := topS 14
theorem sc_Lshort : FnScope ["_law_pool_here", "_law_number_here"] ["_law_pool_here"] (defScope s_Lshort) := ⟨rfl, rfl, rfl, by decide +kernel, rfl, by decide +kernel, by decide +kernel⟩
abbrev s_Lbelow : Stmt := topS 15
theorem sc_Lbelow : FnScope ["_law_pool_here", "_law_number_here"] ["_law_pool_here"] (defScope s_Lbelow) := ⟨rfl, rfl, rfl, by decide +kernel, rfl, by decide +kernel, by decide +kernel⟩
abbrev s_Lwhole : Stmt := topS 16
theorem sc_Lwhole : FnScope ["_law_told"] ["_law_told"] (defScope s_Lwhole) := ⟨rfl, rfl, rfl, by decide +kernel, rfl, by decide +kernel, by decide +kernel⟩
abbrev s_Lis : Stmt := topS 17
theorem sc_Lis : FnScope ["_law_told", "_law_top", "_law_bottom"] ["_law_told", "_law_top", "_law_bottom"] (defScope s_Lis) := ⟨rfl, rfl, rfl, by decide +kernel, rfl, by decide +kernel, by decide +kernel⟩
abbrev s_law : Stmt := topS 18
theorem sc_law : FnScope ["_law_script", "_law_top", "_law_bottom", "_law_high", "_law_low", "_law_many", "_law_way", "_law_one", "_law_two", "_law_rows", "_law_row"] ["_law_script"] (defScope s_law) := ⟨rfl, rfl, rfl, by decide +kernel, rfl, by decide +kernel, by decide +kernel⟩
/-- a number of at most so many blocks of eight digits -/
def sp_Lnumber : Sp := fun vs H Q _ => ∃ (p : Addr) (b : Nat), vs = [.ref p, .int (b : Int)] ∧ b ≤ 6 ∧ PoolAt H p ∧ ∀ (H' : Hp) (n : Int), Kp p H H' → PoolAt H' p → -(30 * 100000000 ^ b) < n → n < 30 * 100000000 ^ b → Q (.int n) H'
def sp_Ldivisor : Sp := fun vs H Q _ => ∃ a b : Int, vs = [.int a, .int b] ∧ 0 ≤ a ∧ 0 ≤ b ∧ a < 2 ^ 210 ∧ b < 2 ^ 210 ∧ Q (.int ((Nat.gcd a.natAbs b.natAbs : Nat) : Int)) H
def sp_Lwhole : Sp := fun vs H Q _ => ∃ a : Int, vs = [.int a] ∧ Q (.bl true) H
def sp_Lis (C : Addr) : Sp := fun vs H Q _ => ∃ (x : Addr) (n d : Int), vs = [.ref x, .int n, .int d] ∧ RV C H x n d ∧ d ≠ 0 ∧ Bd n 210 ∧ Bd d 210 ∧ Q (.bl true) H
def sp_Lshort : Sp := fun vs H Q _ => ∃ (p : Addr), vs = [.ref p] ∧ PoolAt H p ∧ ∀ (H' : Hp) (n : Int), Kp p H H' → PoolAt H' p → Bd n 100 → Q (.int n) H'
def sp_Lbelow : Sp := fun vs H Q _ => ∃ (p : Addr), vs = [.ref p] ∧ PoolAt H p ∧ ∀ (H' : Hp) (n : Int), Kp p H H' → PoolAt H' p → Bd n 100 → 1 ≤ n → Q (.int n) H'
def sp_law (K : PySem.W.Frag) : Sp := fun vs H Q _ => ∃ (a : Addr) (ns : List Int), vs = [.ref a] ∧ SqL K H a (ns.map V.int) ∧ ns.length ≤ 63 ∧ ∀ H', Q (.bl true) H'
structure Txt (K : PySem.W.Frag) (mg : Str → Option Value) (C_Ratio C_BadRatio : Addr) : Prop where
  g_Ratio : mg "Ratio" = some (.ref C_Ratio)
  cl_Ratio : Cls K C_Ratio
  nf_Ratio_num : NoAttr K C_Ratio "num"
  nf_Ratio_den : NoAttr K C_Ratio "den"
  i_Ratio : C8.InsC K C_Ratio
  g_BadRatio : mg "BadRatio" = some (.ref C_BadRatio)
  x_BadRatio : PySem.W.excIn K C_BadRatio [.type "ValueError", .type "Exception", .type "BaseException", .type "object"] "ValueError.__new__" = true
  k_BadRatio : PySem.W.keepIn K (.ref C_BadRatio) = true
  b_BadRatio : PySem.W.subIn K (.ref C_BadRatio) (.type "BaseException") = some true
  t_BadRatio : PySem.W.typeIn K (.ref C_BadRatio) = some (.type "type")
  ic_BadRatio : PySem.W.isClsIn K C_BadRatio = true
  s_BadRatio : PySem.W.subIn K (.ref C_BadRatio) (.ref C_BadRatio) = some true
  sf_Ratio : PySem.W.selfFirst K C_Ratio = true
  su_Ratio : PySem.W.subIn K (.type "int") (.ref C_Ratio) = some false
  us_Ratio : PySem.W.subIn K (.ref C_Ratio) (.type "int") = some false
  at_Ratio_add : ∃ g : Addr, PySem.W.findIn K (.ref C_Ratio) "__add__" = some (some (.ref g))
  rc_Ratio_add : ∃ rc, PySem.W.findIn K (.ref C_Ratio) "__radd__" = some rc ∧ (rc = none ∨ ∃ g : Addr, rc = some (.ref g))
  at_Ratio_sub : ∃ g : Addr, PySem.W.findIn K (.ref C_Ratio) "__sub__" = some (some (.ref g))
  rc_Ratio_sub : ∃ rc, PySem.W.findIn K (.ref C_Ratio) "__rsub__" = some rc ∧ (rc = none ∨ ∃ g : Addr, rc = some (.ref g))
  at_Ratio_mul : ∃ g : Addr, PySem.W.findIn K (.ref C_Ratio) "__mul__" = some (some (.ref g))
  rc_Ratio_mul : ∃ rc, PySem.W.findIn K (.ref C_Ratio) "__rmul__" = some rc ∧ (rc = none ∨ ∃ g : Addr, rc = some (.ref g))
  fi0_add : PySem.W.findIn K (.type "int") "__add__" = some (some (.builtin "int.__add__"))
  fi_add : ∃ fo, PySem.W.findIn K (.type "int") "__add__" = some fo
  fr0_add : PySem.W.findIn K (.type "int") "__radd__" = some (some (.builtin "int.__radd__"))
  fr_add : ∃ fo, PySem.W.findIn K (.type "int") "__radd__" = some fo
  fi0_mul : PySem.W.findIn K (.type "int") "__mul__" = some (some (.builtin "int.__mul__"))
  fi_mul : ∃ fo, PySem.W.findIn K (.type "int") "__mul__" = some fo
  fr0_mul : PySem.W.findIn K (.type "int") "__rmul__" = some (some (.builtin "int.__rmul__"))
  fr_mul : ∃ fo, PySem.W.findIn K (.type "int") "__rmul__" = some fo
  fi0_sub : PySem.W.findIn K (.type "int") "__sub__" = some (some (.builtin "int.__sub__"))
  fi_sub : ∃ fo, PySem.W.findIn K (.type "int") "__sub__" = some fo
  fr0_sub : PySem.W.findIn K (.type "int") "__rsub__" = some (some (.builtin "int.__rsub__"))
  fr_sub : ∃ fo, PySem.W.findIn K (.type "int") "__rsub__" = some fo
  n_isinstance : mg "isinstance" = none
  n_abs : mg "abs" = none
  n_len : mg "len" = none
  n_int : mg "int" = none
  n_range : mg "range" = none
  n_bool : mg "bool" = none
  gi_gcd : mg "gcd" = some (.builtin "math.gcd")
  ki_int : PySem.W.kitOne K (.type "int") (.ref C_Ratio) = some false

/-! ### Euclid's steps -/
structure Euc (g : Nat) (i : Nat) (a b : Int) : Prop where
  a0 : 0 ≤ a
  b0 : 0 ≤ b
  gc : Nat.gcd a.natAbs b.natAbs = g
  sz : b = 0 ∨ (i = 0 ∧ a < 2 ^ 210 ∧ b < 2 ^ 210) ∨ (b < a ∧ a.natAbs * b.natAbs * 2 ^ i < 2 ^ 422)
theorem Euc.step {g i : Nat} {a b : Int} (e : Euc g i a b) (hb : b ≠ 0) : Euc g (i + 1) b (a % b) := by
  have hp : 0 < b := by have := e.b0; omega
  have r0 : 0 ≤ a % b := Int.emod_nonneg a hb
  have r1 : a % b < b := Int.emod_lt_of_pos a hp
  have en : (a % b).natAbs = a.natAbs % b.natAbs := by
    have a0 := e.a0
    have h : ((a.natAbs % b.natAbs : Nat) : Int) = a % b := by
      rw [Int.natCast_emod, Int.natAbs_of_nonneg a0, Int.natAbs_of_nonneg e.b0]
    omega
  refine ⟨e.b0, r0, ?_, .inr (.inr ⟨r1, ?_⟩)⟩
  · rw [en, Nat.gcd_comm, ← Nat.gcd_rec, Nat.gcd_comm]
    exact e.gc
  · rcases e.sz with z | ⟨hi, h1, h2⟩ | ⟨h1, h2⟩
    · exact absurd z hb
    · subst hi
      have q1 : b.natAbs < 2 ^ 210 := by omega
      have q2 : (a % b).natAbs < 2 ^ 210 := by omega
      have q3 := Nat.mul_lt_mul'' q1 q2
      rw [← Nat.pow_add] at q3
      have : (2 : Nat) ^ (210 + 210) * 2 ^ (0 + 1) < 2 ^ 422 := by decide
      exact Nat.lt_trans (Nat.mul_lt_mul_of_pos_right q3 (by decide)) this
    · have k : 2 * (a % b).natAbs ≤ a.natAbs := by
        have s := Int.emod_add_mul_ediv a b
        have t : 1 ≤ a / b := by
          have := Int.ediv_le_ediv hp (Int.le_of_lt h1)
          rw [Int.ediv_self hb] at this
          exact this
        have u : b * 1 ≤ b * (a / b) := Int.mul_le_mul_of_nonneg_left t (Int.le_of_lt hp)
        have a0 := e.a0
        omega
      have m : b.natAbs * (a % b).natAbs * 2 ^ (i + 1) ≤ a.natAbs * b.natAbs * 2 ^ i := by
        calc b.natAbs * (a % b).natAbs * 2 ^ (i + 1) = (2 * (a % b).natAbs) * b.natAbs * 2 ^ i := by
              rw [Nat.pow_succ, Nat.mul_comm b.natAbs, Nat.mul_comm (2 ^ i) 2, ← Nat.mul_assoc, Nat.mul_comm ((a % b).natAbs * b.natAbs) 2, ← Nat.mul_assoc]
          _ ≤ a.natAbs * b.natAbs * 2 ^ i := Nat.mul_le_mul_right _ (Nat.mul_le_mul_right _ k)
      exact Nat.lt_of_le_of_lt m h2
theorem Euc.done {g i : Nat} {a b : Int} (e : Euc g i a b) (hi : 422 ≤ i) : b = 0 := by
  rcases e.sz with z | ⟨h, _, _⟩ | ⟨h1, h2⟩
  · exact z
  · omega
  · have b0 := e.b0
    have : ¬ 0 < b := fun hb => by
      have q : 1 ≤ a.natAbs * b.natAbs := Nat.mul_pos (by omega) (by omega)
      have q2 : (2 : Nat) ^ 422 ≤ 2 ^ i := Nat.pow_le_pow_right (by decide) hi
      have q3 : 1 * 2 ^ i ≤ a.natAbs * b.natAbs * 2 ^ i := Nat.mul_le_mul_right _ q
      omega
    omega
theorem Euc.end_ {g i : Nat} {a : Int} (e : Euc g i a 0) : a = (g : Int) := by
  have := e.gc
  have := e.a0
  simp only [Int.natAbs_zero, Nat.gcd_zero_right] at *
  omega
section
variable {P : Program} {w : World} {K : PySem.W.Frag} {mg : Str → Option Value} {base : Heap} {C_Ratio C_BadRatio : Addr}
theorem ok_Ratio_init {f : Addr} {fd : FuncData} (F : Fun K "__init__" "Ratio.__init__" s_Ratio_init f fd) (T : Txt K mg C_Ratio C_BadRatio)  :
    FnOk P w K mg base (L2.CX P w) 1 f fd ["self", "num", "den"] (sp_Ratio_init C_Ratio C_BadRatio) := by
  refine F.okX sc_Ratio_init (fun vs H Q E h => ?_) (fun cdv A outer s H vs Q E hr h => ?_)
  · obtain ⟨x, dx, n, d, rfl, _⟩ := h
    rfl
  · obtain ⟨x, dx, n, d, rfl, hx, hb, hE, hQ⟩ := h
    refine ⟨_, (pss_cons (ps_if (pt_cmpR op_eq (pv 2) pe_int (nomark _)) (pss_one (ps_raise rfl (takes_of rfl rfl rfl rfl) (pmk_own PySem.F.excBase_ValueError T.x_BadRatio T.g_BadRatio T.k_BadRatio (raises_own T.b_BadRatio T.t_BadRatio) rfl))) pss_nil)
      (pss_cons (ps_set (i := 3) sc_Ratio_init.nd rfl (Or.inl rfl) (pe_callBfun cr_gcd rfl T.gi_gcd (pa_cons (pv 1) (pa_cons (pv 2) pa_nil))))
      (pss_cons (ps_if (pt_cmpR op_lt (pv 2) pe_int (nomark _)) (pss_one (ps_set (i := 3) sc_Ratio_init.nd rfl (Or.inl rfl) (pe_un un_neg (pv 3)))) pss_nil)
      (pss_cons (ps_fld (pv 0) (pe_op op_fdivA (pv 1) (pv 3)) rfl)
      (pss_one (ps_fld (pv 0) (pe_op op_fdivA (pv 2) (pv 3)) rfl)))))), ?_⟩
    refine ⟨_, rfl, rfl, _, rfl, ?_⟩
    refine ite2 (fun hd => ?_) (fun hd => ?_)
    · exact hE (V.int.inj (of_decide_eq_true hd))
    · have d0 : d ≠ 0 := fun z => hd (by rw [z]; rfl)
      have c0 := cmn_ne (n := n) d0
      have cl := cmn_lt (n := n) d0 hb
      refine ⟨_, rfl, _, rfl, n, d, rfl, ?_⟩
      refine ⟨_, rfl, _, _, rfl, rfl, _, rfl, ?_⟩
      have last : ∀ c : Int, c = cmn n d → Q .non (upd (upd H x (.ins C_Ratio dx (putF "num" (.int (n.fdiv c)) []))) x (.ins C_Ratio dx (putF "den" (.int (d.fdiv c)) (putF "num" (.int (n.fdiv c)) [])))) := fun c hc => by
        subst hc
        exact hQ d0 _ upd_same (Kp.trans Kp.upd Kp.upd)
      refine ite2 (fun hneg => ?_) (fun hneg => ?_)
      · have hc : -((Nat.gcd n.natAbs d.natAbs : Nat) : Int) = cmn n d := by unfold cmn; rw [if_pos (of_decide_eq_true hneg)]
        have dv : CDivA n (-((Nat.gcd n.natAbs d.natAbs : Nat) : Int)) := by rw [hc]; exact divA c0 cl (by decide) (by decide)
        have dv2 : CDivA d (-((Nat.gcd n.natAbs d.natAbs : Nat) : Int)) := by rw [hc]; exact divA c0 cl (by decide) (by decide)
        refine ⟨_, rfl, _, rfl, ?_⟩
        refine ⟨_, rfl, _, rfl, _, _, rfl, rfl, dv, _, rfl, x, C_Ratio, dx, [], rfl, hx, T.cl_Ratio, T.nf_Ratio_num, (by show 0 < 1000; decide), ?_⟩
        refine ⟨_, rfl, _, rfl, _, _, rfl, rfl, dv2, _, rfl, x, C_Ratio, dx, _, rfl, upd_same, T.cl_Ratio, T.nf_Ratio_den, (by show 1 < 1000; decide), ?_⟩
        exact last _ hc
      · have hc : ((Nat.gcd n.natAbs d.natAbs : Nat) : Int) = cmn n d := by unfold cmn; rw [if_neg (fun z => hneg (decide_eq_true z))]
        have dv : CDivA n ((Nat.gcd n.natAbs d.natAbs : Nat) : Int) := by rw [hc]; exact divA c0 cl (by decide) (by decide)
        have dv2 : CDivA d ((Nat.gcd n.natAbs d.natAbs : Nat) : Int) := by rw [hc]; exact divA c0 cl (by decide) (by decide)
        refine ⟨_, rfl, _, rfl, _, _, rfl, rfl, dv, _, rfl, x, C_Ratio, dx, [], rfl, hx, T.cl_Ratio, T.nf_Ratio_num, (by show 0 < 1000; decide), ?_⟩
        refine ⟨_, rfl, _, rfl, _, _, rfl, rfl, dv2, _, rfl, x, C_Ratio, dx, _, rfl, upd_same, T.cl_Ratio, T.nf_Ratio_den, (by show 1 < 1000; decide), ?_⟩
        exact last _ hc
theorem ok_uratio_of {f : Addr} {fd : FuncData} (F : Fun K "_ratio_of" "_ratio_of" s_uratio_of f fd) (T : Txt K mg C_Ratio C_BadRatio) (c_Ratio : Mak (L2.CX P w) P w K mg base 1 "Ratio" C_Ratio (sp_Ratio_init C_Ratio C_BadRatio)) :
    FnOk P w K mg base CX0 3 f fd ["number"] (sp_Rof C_Ratio) := by
  refine F.ok sc_uratio_of (fun vs H Q E h => ?_) (fun cdv A outer s H vs Q E hr h => ?_)
  · obtain ⟨x, T', B, rfl, _⟩ := h
    rfl
  · obtain ⟨x, T', B, rfl, hx, q⟩ := h
    refine ⟨_, (pss_cons (ps_if (pt_val (pe_callB call_isi (by rfl) T.n_isinstance (by decide +kernel) (pa_cons (pv 0) (pa_cons (pe_glob (v := .ref C_Ratio) rfl T.g_Ratio rfl) pa_nil)))) (pss_one (ps_ret (pv 0))) pss_nil)
      (pss_one (ps_ret (pc_mk c_Ratio hr (by decide) rfl passL (pa_cons (pv 0) (pa_cons pe_int pa_nil)))))), ?_⟩
    rcases hx with ⟨a, rfl, r⟩ | ⟨rfl, rfl⟩
    · obtain ⟨dx, e⟩ := id r
      refine ⟨_, rfl, _, _, _, .ref C_Ratio, true, rfl, .own _, .base (.ins e T.cl_Ratio T.i_Ratio.ha T.i_Ratio.hn T.i_Ratio.htk T.i_Ratio.hm), T.i_Ratio.me, true, rfl, iteT ?_⟩
      exact ⟨_, rfl, q _ _ (Same.of _) r⟩
    · refine ⟨_, rfl, _, _, _, .ref C_Ratio, false, rfl, .own _, .base (.int T'), T.ki_int, false, rfl, iteF ?_⟩
      exact ⟨_, rfl, fun x dx hx hdx ne => ⟨x, dx, T', 1, rfl, upd_same, by decide, fun z => absurd z (by decide), fun _ J h1 k1 => ⟨rfl, q _ _ (mk_same hx hdx k1) ⟨dx, h1⟩⟩⟩⟩
theorem ok_Ratio_neg {f : Addr} {fd : FuncData} (F : Fun K "__neg__" "Ratio.__neg__" s_Ratio_neg f fd) (T : Txt K mg C_Ratio C_BadRatio) (c_Ratio : Mak (L2.CX P w) P w K mg base 1 "Ratio" C_Ratio (sp_Ratio_init C_Ratio C_BadRatio)) :
    FnOk P w K mg base CX0 3 f fd ["self"] (sp_Rneg C_Ratio) := by
  refine F.ok sc_Ratio_neg (fun vs H Q E h => ?_) (fun cdv A outer s H vs Q E hr h => ?_)
  · obtain ⟨a, T', B, rfl, _⟩ := h
    rfl
  · obtain ⟨a, T', B, rfl, r, b0, bB, q⟩ := h
    refine ⟨_, (pss_one (ps_ret (pc_mk c_Ratio hr (by decide) rfl passL (pa_cons (pe_un un_neg (pe_fld (pv 0) rfl)) (pa_cons (pe_fld (pv 0) rfl) pa_nil))))), ?_⟩
    obtain ⟨dx, e⟩ := id r
    have dp := rD_pos (n := T') b0
    have cr := r_cross T' B
    refine ⟨_, rfl, a, C_Ratio, dx, _, _, rfl, e, T.cl_Ratio, T.nf_Ratio_num, rfs_num _ _, _, rfl, _, rfl, a, C_Ratio, dx, _, _, rfl, e, T.cl_Ratio, T.nf_Ratio_den, rfs_den _ _, fun x dx' hx hdx ne => ⟨x, dx', _, _, rfl, upd_same, Bd.le (Bd.d bB b0) (by decide), fun z => absurd z (by omega), fun _ J h1 k1 => ⟨rfl, ?_⟩⟩⟩
    exact q _ _ (mk_same hx hdx k1) (RV.eq ⟨dx', h1⟩ (by omega) b0 (by grind))
theorem ok_Ratio_abs {f : Addr} {fd : FuncData} (F : Fun K "__abs__" "Ratio.__abs__" s_Ratio_abs f fd) (T : Txt K mg C_Ratio C_BadRatio) (c_Ratio : Mak (L2.CX P w) P w K mg base 1 "Ratio" C_Ratio (sp_Ratio_init C_Ratio C_BadRatio)) :
    FnOk P w K mg base CX0 3 f fd ["self"] (sp_Rabs C_Ratio) := by
  refine F.ok sc_Ratio_abs (fun vs H Q E h => ?_) (fun cdv A outer s H vs Q E hr h => ?_)
  · obtain ⟨a, T', B, rfl, _⟩ := h
    rfl
  · obtain ⟨a, T', B, rfl, r, b0, bB, q⟩ := h
    refine ⟨_, (pss_one (ps_ret (pc_mk c_Ratio hr (by decide) rfl passL (pa_cons (pe_callB call_abs (by rfl) T.n_abs (by decide +kernel) (pa_cons (pe_fld (pv 0) rfl) pa_nil)) (pa_cons (pe_fld (pv 0) rfl) pa_nil))))), ?_⟩
    obtain ⟨dx, e⟩ := id r
    have b1 : B ≠ 0 := by omega
    have dp := rD_pos (n := T') b1
    have cr := r_cross T' B
    refine ⟨_, rfl, a, C_Ratio, dx, _, _, rfl, e, T.cl_Ratio, T.nf_Ratio_num, rfs_num _ _, _, rfl, _, rfl, a, C_Ratio, dx, _, _, rfl, e, T.cl_Ratio, T.nf_Ratio_den, rfs_den _ _, fun x dx' hx hdx ne => ⟨x, dx', _, _, rfl, upd_same, Bd.le (Bd.d bB b1) (by decide), fun z => absurd z (by omega), fun _ J h1 k1 => ⟨rfl, ?_⟩⟩⟩
    refine q _ _ (mk_same hx hdx k1) (RV.eq ⟨dx', h1⟩ (by omega) b1 ?_)
    have en : ((rN T' B).natAbs : Int) * B = (T'.natAbs : Int) * rD T' B := by
      have z := congrArg Int.natAbs cr
      rw [Int.natAbs_mul, Int.natAbs_mul] at z
      have z2 : (((rN T' B).natAbs * B.natAbs : Nat) : Int) = ((T'.natAbs * (rD T' B).natAbs : Nat) : Int) := by rw [z]
      rw [Int.natCast_mul, Int.natCast_mul, Int.natAbs_of_nonneg (by omega : 0 ≤ B), Int.natAbs_of_nonneg (by omega : 0 ≤ rD T' B)] at z2
      exact z2
    have e1 : (if rN T' B < 0 then -rN T' B else rN T' B) = ((rN T' B).natAbs : Int) := by split <;> omega
    have e2 : (if T' < 0 then -T' else T') = (T'.natAbs : Int) := by split <;> omega
    rw [e1, e2]
    exact en
theorem ok_Ratio_add {f : Addr} {fd : FuncData} (F : Fun K "__add__" "Ratio.__add__" s_Ratio_add f fd) (T : Txt K mg C_Ratio C_BadRatio) (c_uratio_of : Cal CX0 P w K mg base 3 "_ratio_of" (sp_Rof C_Ratio)) (c_Ratio : Mak (L2.CX P w) P w K mg base 1 "Ratio" C_Ratio (sp_Ratio_init C_Ratio C_BadRatio)) :
    FnOk P w K mg base CX0 4 f fd ["self", "other"] (sp_R2 C_Ratio fAdd fDen) := by
  refine F.ok sc_Ratio_add (fun vs H Q E h => ?_) (fun cdv A outer s H vs Q E hr h => ?_)
  · obtain ⟨a, y, T', B, U, D, rfl, _⟩ := h
    rfl
  · obtain ⟨a, y, T', B, U, D, rfl, r, ry, b0, d0, bT, bB, bU, bD, q⟩ := h
    refine ⟨_, (pss_cons (ps_set (i := 2) sc_Ratio_add.nd rfl (Or.inl rfl) (pc_c c_uratio_of hr (by decide) rfl pass0 (pa_cons (pv 1) pa_nil)))
      (pss_one (ps_ret (pc_mk c_Ratio hr (by decide) rfl passL (pa_cons (pe_op op_add (pe_op op_mulA (pe_fld (pv 0) rfl) (pe_fld (pv 2) rfl)) (pe_op op_mulA (pe_fld (pv 2) rfl) (pe_fld (pv 0) rfl))) (pa_cons (pe_op op_mulA (pe_fld (pv 0) rfl) (pe_fld (pv 2) rfl)) pa_nil)))))), ?_⟩
    refine ⟨_, rfl, y, U, D, rfl, ry, fun H1 p s1 rp => ?_⟩
    obtain ⟨dx, e⟩ := r.same s1
    obtain ⟨dp, ep⟩ := id rp
    have c1 := r_cross T' B
    have c2 := r_cross U D
    have p1 := rD_pos (n := T') b0
    have p2 := rD_pos (n := U) d0
    have hne : rD T' B * rD U D ≠ 0 := Int.mul_ne_zero (by omega) (by omega)
    refine ⟨_, rfl, a, C_Ratio, dx, _, _, rfl, e, T.cl_Ratio, T.nf_Ratio_num, rfs_num _ _, _, rfl, p, C_Ratio, dp, _, _, rfl, ep, T.cl_Ratio, T.nf_Ratio_den, rfs_den _ _, _, _, rfl, rfl, .inr (wide_mul (bT.n b0) (bD.d d0) (by decide) (by decide) (by decide)), ?_⟩
    refine ⟨_, rfl, p, C_Ratio, dp, _, _, rfl, ep, T.cl_Ratio, T.nf_Ratio_num, rfs_num _ _, _, rfl, a, C_Ratio, dx, _, _, rfl, e, T.cl_Ratio, T.nf_Ratio_den, rfs_den _ _, _, _, rfl, rfl, .inr (wide_mul (bU.n d0) (bB.d b0) (by decide) (by decide) (by decide)), _, _, rfl, rfl, ?_⟩
    refine ⟨_, rfl, a, C_Ratio, dx, _, _, rfl, e, T.cl_Ratio, T.nf_Ratio_den, rfs_den _ _, _, rfl, p, C_Ratio, dp, _, _, rfl, ep, T.cl_Ratio, T.nf_Ratio_den, rfs_den _ _, _, _, rfl, rfl, .inr (wide_mul (bB.d b0) (bD.d d0) (by decide) (by decide) (by decide)), ?_⟩
    intro x dx' hx hdx ne
    refine ⟨x, dx', _, _, rfl, upd_same, Bd.le ((bB.d b0).mul (bD.d d0)) (by decide), fun z => absurd z hne, fun _ J h1 k1 => ⟨rfl, ?_⟩⟩
    exact q _ _ (s1.trans (mk_same hx hdx k1)) (RV.eq ⟨dx', h1⟩ hne (Int.mul_ne_zero b0 d0) (by grind))
theorem ok_Ratio_radd {f : Addr} {fd : FuncData} (F : Fun K "__radd__" "Ratio.__radd__" s_Ratio_radd f fd) (T : Txt K mg C_Ratio C_BadRatio) (c_Ratio_add : Met CX0 P w K mg base 4 C_Ratio "__add__" (sp_R2 C_Ratio fAdd fDen)) :
    FnOk P w K mg base CX0 5 f fd ["self", "other"] (sp_R2i C_Ratio fAdd fDen) := by
  refine F.ok sc_Ratio_radd (fun vs H Q E h => ?_) (fun cdv A outer s H vs Q E hr h => ?_)
  · obtain ⟨a, y, T', B, U, D, rfl, _⟩ := h
    rfl
  · obtain ⟨a, y, T', B, U, D, rfl, r, ⟨i, rfl⟩, ry, b0, d0, bT, bB, bU, bD, q⟩ := h
    refine ⟨_, (pss_one (ps_ret (pe_op (op_ownI c_Ratio_add hr (by decide) pass0 T.sf_Ratio T.rc_Ratio_add T.fi_add T.fr_add T.su_Ratio) (pv 0) (pv 1)))), ?_⟩
    obtain ⟨dx, e⟩ := id r
    exact ⟨_, rfl, _, rfl, a, dx, _, i, rfl, rfl, e, a, _, T', B, U, D, rfl, r, ry, b0, d0, bT, bB, bU, bD, q⟩
theorem ok_Ratio_sub {f : Addr} {fd : FuncData} (F : Fun K "__sub__" "Ratio.__sub__" s_Ratio_sub f fd) (T : Txt K mg C_Ratio C_BadRatio) (c_Ratio_add : Met CX0 P w K mg base 4 C_Ratio "__add__" (sp_R2 C_Ratio fAdd fDen)) (c_Ratio_neg : Met CX0 P w K mg base 3 C_Ratio "__neg__" (sp_Rneg C_Ratio)) :
    FnOk P w K mg base CX0 5 f fd ["self", "other"] (sp_R2 C_Ratio fSub fDen) := by
  refine F.ok sc_Ratio_sub (fun vs H Q E h => ?_) (fun cdv A outer s H vs Q E hr h => ?_)
  · obtain ⟨a, y, T', B, U, D, rfl, _⟩ := h
    rfl
  · obtain ⟨a, y, T', B, U, D, rfl, r, ry, b0, d0, bT, bB, bU, bD, q⟩ := h
    refine ⟨_, (pss_one (ps_ret (pe_op (OpR.or (op_own c_Ratio_add hr (by decide) pass0 T.sf_Ratio) (op_ownI c_Ratio_add hr (by decide) pass0 T.sf_Ratio T.rc_Ratio_add T.fi_add T.fr_add T.su_Ratio)) (pv 0) (pe_un (UnR.or un_neg (un_own c_Ratio_neg hr (by decide) pass0)) (pv 1))))), ?_⟩
    obtain ⟨dx, e⟩ := id r
    have ef : T' * D + -U * B = T' * D - U * B := by grind
    rcases ry with ⟨b, rfl, rb⟩ | ⟨rfl, rfl⟩
    · obtain ⟨db, eb⟩ := id rb
      refine ⟨_, rfl, _, rfl, .inr ⟨b, db, _, rfl, eb, b, U, D, rfl, rb, d0, bD.le (by decide), fun H1 p s1 rp => ?_⟩⟩
      obtain ⟨dp, ep⟩ := id rp
      refine .inl ⟨a, p, dx, dp, _, _, rfl, rfl, s1 _ _ e, ep, a, _, T', B, -U, D, rfl, r.same s1, .inl ⟨p, rfl, rp⟩, b0, d0, bT, bB, bU.neg, bD, fun H2 z s2 rz => ?_⟩
      exact q _ _ (s1.trans s2) (by have z := rz; rw [show fAdd T' B (-U) D = fSub T' B U D from ef] at z; exact z)
    · refine ⟨_, rfl, _, rfl, .inl ⟨_, rfl, ?_⟩⟩
      refine .inr ⟨a, dx, _, _, rfl, rfl, e, a, _, T', B, -U, 1, rfl, r, .inr ⟨rfl, rfl⟩, b0, d0, bT, bB, bU.neg, bD, fun H2 z s2 rz => ?_⟩
      exact q _ _ s2 (by have z := rz; rw [show fAdd T' B (-U) 1 = fSub T' B U 1 from ef] at z; exact z)
theorem ok_Ratio_rsub {f : Addr} {fd : FuncData} (F : Fun K "__rsub__" "Ratio.__rsub__" s_Ratio_rsub f fd) (T : Txt K mg C_Ratio C_BadRatio) (c_Ratio_add : Met CX0 P w K mg base 4 C_Ratio "__add__" (sp_R2 C_Ratio fAdd fDen)) (c_Ratio_neg : Met CX0 P w K mg base 3 C_Ratio "__neg__" (sp_Rneg C_Ratio)) :
    FnOk P w K mg base CX0 5 f fd ["self", "other"] (sp_R2i C_Ratio fRsub fDen) := by
  refine F.ok sc_Ratio_rsub (fun vs H Q E h => ?_) (fun cdv A outer s H vs Q E hr h => ?_)
  · obtain ⟨a, y, T', B, U, D, rfl, _⟩ := h
    rfl
  · obtain ⟨a, y, T', B, U, D, rfl, r, ⟨i, rfl⟩, ry, b0, d0, bT, bB, bU, bD, q⟩ := h
    refine ⟨_, (pss_one (ps_ret (pe_op (op_ownI c_Ratio_add hr (by decide) pass0 T.sf_Ratio T.rc_Ratio_add T.fi_add T.fr_add T.su_Ratio) (pe_un (un_own c_Ratio_neg hr (by decide) pass0) (pv 0)) (pv 1)))), ?_⟩
    obtain ⟨dx, e⟩ := id r
    refine ⟨_, rfl, a, dx, _, rfl, e, a, T', B, rfl, r, b0, bB.le (by decide), fun H1 p s1 rp => ?_⟩
    obtain ⟨dp, ep⟩ := id rp
    refine ⟨_, rfl, p, dp, _, i, rfl, rfl, ep, p, _, -T', B, U, D, rfl, rp, ry.same s1, b0, d0, bT.neg, bB, bU, bD, fun H2 z s2 rz => ?_⟩
    exact q _ _ (s1.trans s2) (by have z := rz; rw [show fAdd (-T') B U D = fRsub T' B U D from (by show -T' * D + U * B = U * B - T' * D; grind)] at z; exact z)
theorem ok_Ratio_mul {f : Addr} {fd : FuncData} (F : Fun K "__mul__" "Ratio.__mul__" s_Ratio_mul f fd) (T : Txt K mg C_Ratio C_BadRatio) (c_uratio_of : Cal CX0 P w K mg base 3 "_ratio_of" (sp_Rof C_Ratio)) (c_Ratio : Mak (L2.CX P w) P w K mg base 1 "Ratio" C_Ratio (sp_Ratio_init C_Ratio C_BadRatio)) :
    FnOk P w K mg base CX0 4 f fd ["self", "other"] (sp_R2 C_Ratio fMul fDen) := by
  refine F.ok sc_Ratio_mul (fun vs H Q E h => ?_) (fun cdv A outer s H vs Q E hr h => ?_)
  · obtain ⟨a, y, T', B, U, D, rfl, _⟩ := h
    rfl
  · obtain ⟨a, y, T', B, U, D, rfl, r, ry, b0, d0, bT, bB, bU, bD, q⟩ := h
    refine ⟨_, (pss_cons (ps_set (i := 2) sc_Ratio_mul.nd rfl (Or.inl rfl) (pc_c c_uratio_of hr (by decide) rfl pass0 (pa_cons (pv 1) pa_nil)))
      (pss_one (ps_ret (pc_mk c_Ratio hr (by decide) rfl passL (pa_cons (pe_op op_mulA (pe_fld (pv 0) rfl) (pe_fld (pv 2) rfl)) (pa_cons (pe_op op_mulA (pe_fld (pv 0) rfl) (pe_fld (pv 2) rfl)) pa_nil)))))), ?_⟩
    refine ⟨_, rfl, y, U, D, rfl, ry, fun H1 p s1 rp => ?_⟩
    obtain ⟨dx, e⟩ := r.same s1
    obtain ⟨dp, ep⟩ := id rp
    have c1 := r_cross T' B
    have c2 := r_cross U D
    have p1 := rD_pos (n := T') b0
    have p2 := rD_pos (n := U) d0
    have hne : rD T' B * rD U D ≠ 0 := Int.mul_ne_zero (by omega) (by omega)
    refine ⟨_, rfl, a, C_Ratio, dx, _, _, rfl, e, T.cl_Ratio, T.nf_Ratio_num, rfs_num _ _, _, rfl, p, C_Ratio, dp, _, _, rfl, ep, T.cl_Ratio, T.nf_Ratio_num, rfs_num _ _, _, _, rfl, rfl, .inr (wide_mul (bT.n b0) (bU.n d0) (by decide) (by decide) (by decide)), ?_⟩
    refine ⟨_, rfl, a, C_Ratio, dx, _, _, rfl, e, T.cl_Ratio, T.nf_Ratio_den, rfs_den _ _, _, rfl, p, C_Ratio, dp, _, _, rfl, ep, T.cl_Ratio, T.nf_Ratio_den, rfs_den _ _, _, _, rfl, rfl, .inr (wide_mul (bB.d b0) (bD.d d0) (by decide) (by decide) (by decide)), ?_⟩
    intro x dx' hx hdx ne
    refine ⟨x, dx', _, _, rfl, upd_same, Bd.le ((bB.d b0).mul (bD.d d0)) (by decide), fun z => absurd z hne, fun _ J h1 k1 => ⟨rfl, ?_⟩⟩
    exact q _ _ (s1.trans (mk_same hx hdx k1)) (RV.eq ⟨dx', h1⟩ hne (Int.mul_ne_zero b0 d0) (by grind))
theorem ok_Ratio_rmul {f : Addr} {fd : FuncData} (F : Fun K "__rmul__" "Ratio.__rmul__" s_Ratio_rmul f fd) (T : Txt K mg C_Ratio C_BadRatio) (c_Ratio_mul : Met CX0 P w K mg base 4 C_Ratio "__mul__" (sp_R2 C_Ratio fMul fDen)) :
    FnOk P w K mg base CX0 5 f fd ["self", "other"] (sp_R2i C_Ratio fMul fDen) := by
  refine F.ok sc_Ratio_rmul (fun vs H Q E h => ?_) (fun cdv A outer s H vs Q E hr h => ?_)
  · obtain ⟨a, y, T', B, U, D, rfl, _⟩ := h
    rfl
  · obtain ⟨a, y, T', B, U, D, rfl, r, ⟨i, rfl⟩, ry, b0, d0, bT, bB, bU, bD, q⟩ := h
    refine ⟨_, (pss_one (ps_ret (pe_op (op_ownI c_Ratio_mul hr (by decide) pass0 T.sf_Ratio T.rc_Ratio_mul T.fi_mul T.fr_mul T.su_Ratio) (pv 0) (pv 1)))), ?_⟩
    obtain ⟨dx, e⟩ := id r
    exact ⟨_, rfl, _, rfl, a, dx, _, i, rfl, rfl, e, a, _, T', B, U, D, rfl, r, ry, b0, d0, bT, bB, bU, bD, q⟩
theorem ok_Lcell {f : Addr} {fd : FuncData} (F : Fun K "_law_cell" "_law_cell" s_Lcell f fd) (T : Txt K mg C_Ratio C_BadRatio)  :
    FnOk P w K mg base CX0 1 f fd ["_law_script", "_law_at"] (sp_Lcell K) := by
  refine F.ok sc_Lcell (fun vs H Q E h => ?_) (fun cdv A outer s H vs Q E hr h => ?_)
  · obtain ⟨l, ns, j, rfl, _⟩ := h
    rfl
  · obtain ⟨l, ns, j, rfl, hs, q⟩ := h
    refine ⟨_, (pss_cons (ps_if (pt_cmpR op_lt (pv 1) (pe_callB call_len_seq (by rfl) T.n_len PySem.boot_len (pa_cons (pv 0) pa_nil)) (nomark _)) (pss_one (ps_ret (pe_callB call_abs (by rfl) T.n_abs (by decide +kernel) (pa_cons (pe_callTy call_int1 (by rfl) T.n_int (by decide +kernel) (pa_cons (pe_ix ix_list (pv 0) (pv 1) (fun _ _ => rfl)) pa_nil)) pa_nil)))) pss_nil)
      (pss_one (ps_ret pe_int))), ?_⟩
    refine ⟨_, rfl, _, rfl, l, _, rfl, .inl hs, _, _, rfl, rfl, _, rfl, ?_⟩
    refine ite2 (fun hlt => ?_) (fun _ => q 0 (by decide))
    have hj : j < ns.length := by
      have z := of_decide_eq_true hlt
      rw [List.length_map] at z
      omega
    have hat : (ns.map V.int)[j]? = some (V.int ns[j]) := by rw [List.getElem?_map, List.getElem?_eq_getElem hj] <;> rfl
    refine ⟨_, rfl, _, rfl, l, _, _, _, rfl, rfl, hs, atI_nat hat, .inl ⟨_, rfl, _, rfl, q _ ?_⟩⟩
    split <;> omega
theorem ok_Lpool {f : Addr} {fd : FuncData} (F : Fun K "_law_pool" "_law_pool" s_Lpool f fd) (T : Txt K mg C_Ratio C_BadRatio)  :
    FnOk P w K mg base CX0 1 f fd ["_law_cell_here"] sp_Lpool := by
  refine F.ok sc_Lpool (fun vs H Q E h => ?_) (fun cdv A outer s H vs Q E hr h => ?_)
  · obtain ⟨c, rfl, _⟩ := h
    rfl
  · obtain ⟨c, rfl, q⟩ := h
    refine ⟨_, (pss_cons (ps_if (pt_cmpR op_ge (pv 0) (pe_op op_pow pe_int pe_int) (nomark _)) (pss_one (ps_ret (pe_lst (pa_cons (pv 0) (pa_cons (pv 0) (pa_cons pe_int pa_nil)))))) pss_nil)
      (pss_one (ps_ret (pe_lst (pa_cons pe_int (pa_cons (pv 0) (pa_cons pe_int pa_nil))))))), ?_⟩
    refine ⟨_, rfl, _, _, rfl, rfl, ⟨by decide, by decide, by decide⟩, _, _, rfl, rfl, _, rfl, ?_⟩
    refine ite2 (fun _ => ?_) (fun _ => ?_)
    · exact ⟨_, rfl, _, rfl, (by show 3 ≤ sizeLine; decide), fun p hp => q p _ hp (same_upd hp) ⟨_, _, _, upd_same⟩⟩
    · exact ⟨_, rfl, (by show 3 ≤ sizeLine; decide), fun p hp => q p _ hp (same_upd hp) ⟨_, _, _, upd_same⟩⟩
theorem ok_Ltake {f : Addr} {fd : FuncData} (F : Fun K "_law_take" "_law_take" s_Ltake f fd) (T : Txt K mg C_Ratio C_BadRatio)  :
    FnOk P w K mg base CX0 1 f fd ["_law_pool_here", "_law_many"] sp_Ltake := by
  refine F.ok sc_Ltake (fun vs H Q E h => ?_) (fun cdv A outer s H vs Q E hr h => ?_)
  · obtain ⟨p, many, rfl, _⟩ := h
    rfl
  · obtain ⟨p, many, rfl, ⟨x, y, z, hp⟩, hm, hb, q⟩ := h
    refine ⟨_, (pss_cons (ps_asg (pe_op op_add (pe_ix ix_list (pv 0) pe_int (fun _ _ => rfl)) pe_int) (pg_sub (pv 0) pe_int set_list))
      (pss_cons (ps_if (pt_cmpR op_gt (pe_ix ix_list (pv 0) pe_int (fun _ _ => rfl)) pe_int (nomark _)) (pss_cons (ps_set (i := 2) sc_Ltake.nd rfl (Or.inl rfl) (pe_op op_mod (pe_callTy call_int1 (by rfl) T.n_int (by decide +kernel) (pa_cons (pe_ix ix_list (pv 0) pe_int (fun _ _ => rfl)) pa_nil)) (pv 1)))
      (pss_cons (ps_asg (pe_op op_fdivW (pe_ix ix_list (pv 0) pe_int (fun _ _ => rfl)) (pv 1)) (pg_sub (pv 0) pe_int set_list))
      (pss_one (ps_ret (pv 2))))) pss_nil)
      (pss_cons (ps_set (i := 3) sc_Ltake.nd rfl (Or.inl rfl) (pe_op op_mod (pe_callTy call_int1 (by rfl) T.n_int (by decide +kernel) (pa_cons (pe_op op_mulA (pe_op op_add (pe_ix ix_list (pv 0) pe_int (fun _ _ => rfl)) (pe_op op_mulA pe_int (pe_ix ix_list (pv 0) pe_int (fun _ _ => rfl)))) pe_int) pa_nil)) pe_int))
      (pss_cons (ps_set (i := 3) sc_Ltake.nd rfl (Or.inl rfl) (pe_op op_mod (pe_callTy call_int1 (by rfl) T.n_int (by decide +kernel) (pa_cons (pe_op op_add (pe_op op_mulA (pv 3) pe_int) (pe_op op_mulA pe_int (pe_ix ix_list (pv 0) pe_int (fun _ _ => rfl)))) pa_nil)) pe_int))
      (pss_one (ps_ret (pe_op op_mod (pe_callTy call_int1 (by rfl) T.n_int (by decide +kernel) (pa_cons (pe_op op_fdivW (pv 3) pe_int) pa_nil)) (pv 1)))))))), ?_⟩
    refine ⟨_, rfl, p, _, _, _, rfl, rfl, SqL.of hp, at2, _, _, rfl, rfl, _, rfl, p, _, _, _, rfl, rfl, hp, rfl, ?_⟩
    refine ⟨_, rfl, p, _, _, _, rfl, rfl, SqL.of upd_same, at0, _, _, rfl, rfl, _, rfl, ?_⟩
    refine ite2 (fun _ => ?_) (fun _ => ?_)
    · refine ⟨_, rfl, p, _, _, _, rfl, rfl, SqL.of upd_same, at0, .inl ⟨_, rfl, _, rfl, _, _, rfl, rfl, hm, ?_⟩⟩
      refine ⟨_, rfl, p, _, _, _, rfl, rfl, SqL.of upd_same, at0, _, rfl, _, _, rfl, rfl, wide_div hm hb (by decide) (by decide), _, rfl, p, _, _, _, rfl, rfl, upd_same, rfl, ?_⟩
      exact ⟨_, rfl, q _ _ (Kp.trans Kp.upd Kp.upd) ⟨_, _, _, upd_same⟩ (Int.emod_nonneg _ (by omega)) (Int.emod_lt_of_pos _ hm)⟩
    · refine ⟨_, rfl, p, _, _, _, rfl, rfl, SqL.of upd_same, at1, _, rfl, p, _, _, _, rfl, rfl, SqL.of upd_same, at2, _, _, rfl, rfl, .inl (.inl ⟨by decide, by decide⟩), _, _, rfl, rfl, _, _, rfl, rfl, .inl (.inr ⟨by decide, by decide⟩), .inl ⟨_, rfl, _, _, rfl, rfl, (by show (0 : Int) < 2147483647; decide), ?_⟩⟩
      refine ⟨_, rfl, _, _, rfl, rfl, .inl (.inr ⟨by decide, by decide⟩), _, rfl, p, _, _, _, rfl, rfl, SqL.of upd_same, at2, _, _, rfl, rfl, .inl (.inl ⟨by decide, by decide⟩), _, _, rfl, rfl, .inl ⟨_, rfl, _, _, rfl, rfl, (by show (0 : Int) < 2147483399; decide), ?_⟩⟩
      refine ⟨_, rfl, _, _, rfl, rfl, wide_div (b := 300) (by decide) (by decide) (by decide) (by decide), .inl ⟨_, rfl, _, rfl, _, _, rfl, rfl, hm, ?_⟩⟩
      exact q _ _ Kp.upd ⟨_, _, _, upd_same⟩ (Int.emod_nonneg _ (by omega)) (Int.emod_lt_of_pos _ hm)
theorem num_step {a : Int} {r : Int} {k : Nat} (ha : 0 ≤ a) (hb : a < 30 * 100000000 ^ k) (h0 : 0 ≤ r) (h1 : r < 100000000) : 0 ≤ a * 100000000 + r ∧ a * 100000000 + r < 30 * 100000000 ^ (k + 1) := by
  rw [Int.pow_succ, ← Int.mul_assoc]
  omega
theorem pow_leb {k b : Nat} (h : k ≤ b) (_ : b ≤ 6) : (100000000 : Int) ^ k ≤ 100000000 ^ b := by
  have e : ∀ n : Nat, (100000000 : Int) ^ n = ((100000000 ^ n : Nat) : Int) := fun n => (Int.natCast_pow 100000000 n).symm
  rw [e, e]
  exact Int.ofNat_le.mpr (Nat.pow_le_pow_right (by decide) h)
theorem ok_Lnumber {f : Addr} {fd : FuncData} (F : Fun K "_law_number" "_law_number" s_Lnumber f fd) (T : Txt K mg C_Ratio C_BadRatio) (c_Ltake : Cal CX0 P w K mg base 1 "_law_take" sp_Ltake) :
    FnOk P w K mg base CX0 2 f fd ["_law_pool_here", "_law_blocks"] sp_Lnumber := by
  refine F.ok sc_Lnumber (fun vs H Q E h => ?_) (fun cdv A outer s H vs Q E hr h => ?_)
  · obtain ⟨p, b, rfl, _⟩ := h
    rfl
  · obtain ⟨p, b, rfl, hb6, hp, q⟩ := h
    refine ⟨_, (pss_cons (ps_set (i := 2) sc_Lnumber.nd rfl (Or.inl rfl) (pc_c c_Ltake hr (by decide) rfl pass0 (pa_cons (pv 0) (pa_cons pe_int pa_nil))))
      (pss_cons (ps_for PassesOwn.never rfl (pi_range1 (by rfl) T.n_range (pa_cons (pc_c c_Ltake hr (by decide) rfl pass0 (pa_cons (pv 0) (pa_cons (pe_op op_add (pv 1) pe_int) pa_nil))) pa_nil)) (pg_name (i := 3) sc_Lnumber.nd rfl (Or.inl rfl))
        (pss_one (ps_set (i := 2) sc_Lnumber.nd rfl (Or.inl rfl) (pe_op op_add (pe_op op_mulA (pv 2) pe_int) (pc_c c_Ltake hr (by decide) rfl pass0 (pa_cons (pv 0) (pa_cons pe_int pa_nil)))))))
      (pss_cons (ps_if (pt_cmpR op_eq (pc_c c_Ltake hr (by decide) rfl pass0 (pa_cons (pv 0) (pa_cons pe_int pa_nil))) pe_int (nomark _)) (pss_one (ps_ret (pe_op op_sub pe_int (pv 2)))) pss_nil)
      (pss_one (ps_ret (pv 2)))))), ?_⟩
    refine ⟨_, rfl, p, 30, rfl, hp, by decide, by decide, fun H1 n k1 p1 n0 n1 => ?_⟩
    refine ⟨_, rfl, _, rfl, _, _, rfl, rfl, p, _, rfl, p1, by omega, by omega, fun H2 r k2 p2 r0 r1 => ?_⟩
    have fin : ∀ (i : Nat) (H' : Hp) (m : Int) (v : Option V), i ≤ b → Kp p H H' → PoolAt H' p → 0 ≤ m → m < 30 * 100000000 ^ i →
        tSeq (tIfS (tTest (tOp rEq (tCall sp_Ltake [] E0 (tCons (tVar 0) (tCons (tC (.int 2)) tNil))) (tC (.int 1)))) (tRet (tOp (rI0 fun i j => .int (i - j)) (tC (.int 0)) (tVar 2))) tNext) (tRet (tVar 2)) { nx := fun _ H' => Q .non H', rt := Q } [some (.ref p), some (.int (b : Int)), some (.int m), v] H' := by
      intro i H' m v hi hk hp' m0 m1
      have m2 : m < 30 * 100000000 ^ b := Int.lt_of_lt_of_le m1 (Int.mul_le_mul_of_nonneg_left (pow_leb hi hb6) (by decide))
      refine ⟨_, rfl, p, 2, rfl, hp', by decide, by decide, fun H3 r k3 p3 _ _ => ⟨rfl, _, rfl, ?_⟩⟩
      refine ite2 (fun _ => ?_) (fun _ => ?_)
      · exact ⟨_, rfl, _, _, rfl, rfl, q _ _ (hk.trans k3) p3 (by omega) (by omega)⟩
      · exact ⟨_, rfl, q _ _ (hk.trans k3) p3 (by omega) (by omega)⟩
    refine ⟨r, rfl, by omega, by omega, for_range (lo := 0) (n := r.toNat) (fun i σ H' => ∃ (m : Int) (v : Option V), σ = [some (.ref p), some (.int (b : Int)), some (.int m), v] ∧ Kp p H H' ∧ PoolAt H' p ∧ 0 ≤ m ∧ m < 30 * 100000000 ^ i)
      ⟨n, none, rfl, k1.trans k2, p2, n0, by simpa using n1⟩ ?_ ?_⟩
    · rintro i σ H' hi ⟨m, v, rfl, hk, hp', m0, m1⟩
      refine ⟨_, rfl, _, _, rfl, rfl, .inl (.inr ⟨by decide, by decide⟩), _, rfl, p, _, rfl, hp', by decide, by decide, fun H3 r k3 p3 r0 r1 => ?_⟩
      have st := num_step m0 m1 r0 r1
      exact ⟨_, _, rfl, rfl, _, _, rfl, hk.trans k3, p3, st.1, st.2⟩
    · rintro σ H' ⟨m, v, rfl, hk, hp', m0, m1⟩
      exact fin _ H' m v (by omega) hk hp' m0 m1
theorem ok_Ldivisor {f : Addr} {fd : FuncData} (F : Fun K "_law_divisor" "_law_divisor" s_Ldivisor f fd) (T : Txt K mg C_Ratio C_BadRatio)  :
    FnOk P w K mg base CX0 1 f fd ["_law_one", "_law_two"] sp_Ldivisor := by
  refine F.ok sc_Ldivisor (fun vs H Q E h => ?_) (fun cdv A outer s H vs Q E hr h => ?_)
  · obtain ⟨a, b, rfl, _⟩ := h
    rfl
  · obtain ⟨a, b, rfl, a0, b0, a1, b1, q⟩ := h
    refine ⟨_, (pss_cons (ps_for PassesOwn.never rfl (pi_range1 (by rfl) T.n_range (pa_cons pe_int pa_nil)) (pg_name (i := 2) sc_Ldivisor.nd rfl (Or.inl rfl))
        (pss_cons (ps_if (pt_cmpR op_eq (pv 1) pe_int (nomark _)) (pss_one ps_break) pss_nil)
      (pss_cons (ps_set (i := 3) sc_Ldivisor.nd rfl (Or.inl rfl) (pe_op op_mod (pe_callTy call_int1 (by rfl) T.n_int (by decide +kernel) (pa_cons (pv 0) pa_nil)) (pv 1)))
      (pss_cons (ps_set (i := 0) sc_Ldivisor.nd rfl (Or.inl rfl) (pv 1))
      (pss_one (ps_set (i := 1) sc_Ldivisor.nd rfl (Or.inl rfl) (pv 3)))))))
      (pss_one (ps_ret (pv 0)))), ?_⟩
    refine ⟨700, rfl, by decide, by decide, for_range (lo := 0) (n := 700) (fun i σ H' => ∃ (a' b' : Int) (v u : Option V), σ = [some (.int a'), some (.int b'), v, u] ∧ H' = H ∧ Euc (Nat.gcd a.natAbs b.natAbs) i a' b')
      ⟨a, b, none, none, rfl, rfl, a0, b0, rfl, .inr (.inl ⟨rfl, a1, b1⟩)⟩ ?_ ?_⟩
    · rintro i σ H' hi ⟨a', b', v, u, rfl, rfl, eu⟩
      refine ⟨_, rfl, rfl, _, rfl, ?_⟩
      refine ite2 (fun hb => ?_) (fun hb => ?_)
      · have hb0 : b' = 0 := V.int.inj (of_decide_eq_true hb)
        subst hb0
        have e := eu.end_
        subst e
        exact ⟨_, rfl, q⟩
      · have hb0 : b' ≠ 0 := fun z => hb (by rw [z]; rfl)
        refine ⟨_, rfl, .inl ⟨_, rfl, _, rfl, _, _, rfl, rfl, (by show (0 : Int) < b'; have := eu.b0; omega), ?_⟩⟩
        exact ⟨_, rfl, _, rfl, _, _, _, _, rfl, rfl, eu.step hb0⟩
    · rintro σ H' ⟨a', b', v, u, rfl, rfl, eu⟩
      have hb0 := eu.done (by decide)
      subst hb0
      have e := eu.end_
      subst e
      exact ⟨_, rfl, q⟩
theorem ok_Lshort {f : Addr} {fd : FuncData} (F : Fun K "_law_short" "_law_short" s_Lshort f fd) (T : Txt K mg C_Ratio C_BadRatio) (c_Lnumber : Cal CX0 P w K mg base 2 "_law_number" sp_Lnumber) (c_Ltake : Cal CX0 P w K mg base 1 "_law_take" sp_Ltake) :
    FnOk P w K mg base CX0 3 f fd ["_law_pool_here"] sp_Lshort := by
  refine F.ok sc_Lshort (fun vs H Q E h => ?_) (fun cdv A outer s H vs Q E hr h => ?_)
  · obtain ⟨p, rfl, _⟩ := h
    rfl
  · obtain ⟨p, rfl, hp, q⟩ := h
    refine ⟨_, (pss_cons (ps_set (i := 1) sc_Lshort.nd rfl (Or.inl rfl) (pc_c c_Lnumber hr (by decide) rfl pass0 (pa_cons (pv 0) (pa_cons pe_int pa_nil))))
      (pss_cons (ps_if (pt_cmpR op_eq (pc_c c_Ltake hr (by decide) rfl pass0 (pa_cons (pv 0) (pa_cons pe_int pa_nil))) pe_int (nomark _)) (pss_cons (ps_set (i := 1) sc_Lshort.nd rfl (Or.inl rfl) (pc_c c_Ltake hr (by decide) rfl pass0 (pa_cons (pv 0) (pa_cons (pe_op op_pow pe_int pe_int) pa_nil))))
      (pss_one (ps_if (pt_cmpR op_eq (pc_c c_Ltake hr (by decide) rfl pass0 (pa_cons (pv 0) (pa_cons pe_int pa_nil))) pe_int (nomark _)) (pss_one (ps_set (i := 1) sc_Lshort.nd rfl (Or.inl rfl) (pe_op op_sub pe_int (pv 1)))) pss_nil))) pss_nil)
      (pss_one (ps_ret (pv 1))))), ?_⟩
    refine ⟨_, rfl, p, 3, rfl, by decide, hp, fun H1 n k1 p1 n0 n1 => ?_⟩
    refine ⟨_, rfl, p, 3, rfl, p1, by decide, by decide, fun H2 r k2 p2 _ _ => ⟨rfl, _, rfl, ?_⟩⟩
    refine ite2 (fun _ => ?_) (fun _ => ?_)
    · refine ⟨_, rfl, _, _, rfl, rfl, ⟨by decide, by decide, by decide⟩, p, _, rfl, p2, by decide, by decide, fun H3 m k3 p3 m0 m1 => ?_⟩
      have m2 : m < 2 ^ 100 := Int.lt_of_lt_of_le m1 (by decide)
      refine ⟨_, rfl, p, 2, rfl, p3, by decide, by decide, fun H4 r k4 p4 _ _ => ⟨rfl, _, rfl, ?_⟩⟩
      have kk := ((k1.trans k2).trans k3).trans k4
      refine ite2 (fun _ => ?_) (fun _ => ?_)
      · exact ⟨_, rfl, _, _, rfl, rfl, _, rfl, q _ _ kk p4 (by show (0 - m).natAbs < 2 ^ 100; omega)⟩
      · exact ⟨_, rfl, q _ _ kk p4 (by show m.natAbs < 2 ^ 100; omega)⟩
    · exact ⟨_, rfl, q _ _ (k1.trans k2) p2 (by show n.natAbs < 2 ^ 100; omega)⟩
theorem ok_Lbelow {f : Addr} {fd : FuncData} (F : Fun K "_law_below" "_law_below" s_Lbelow f fd) (T : Txt K mg C_Ratio C_BadRatio) (c_Lshort : Cal CX0 P w K mg base 3 "_law_short" sp_Lshort) :
    FnOk P w K mg base CX0 4 f fd ["_law_pool_here"] sp_Lbelow := by
  refine F.ok sc_Lbelow (fun vs H Q E h => ?_) (fun cdv A outer s H vs Q E hr h => ?_)
  · obtain ⟨p, rfl, _⟩ := h
    rfl
  · obtain ⟨p, rfl, hp, q⟩ := h
    refine ⟨_, (pss_cons (ps_set (i := 1) sc_Lbelow.nd rfl (Or.inl rfl) (pe_callB call_abs (by rfl) T.n_abs (by decide +kernel) (pa_cons (pc_c c_Lshort hr (by decide) rfl pass0 (pa_cons (pv 0) pa_nil)) pa_nil)))
      (pss_cons (ps_if (pt_cmpR op_eq (pv 1) pe_int (nomark _)) (pss_one (ps_ret pe_int)) pss_nil)
      (pss_one (ps_ret (pv 1))))), ?_⟩
    refine ⟨_, rfl, p, rfl, hp, fun H1 n k1 p1 bn => ⟨_, rfl, ?_⟩⟩
    have ea : (if n < 0 then -n else n) = (n.natAbs : Int) := by split <;> omega
    have bn' : n.natAbs < 2 ^ 100 := bn
    rw [ea]
    refine ⟨_, rfl, rfl, _, rfl, ?_⟩
    refine ite2 (fun _ => ?_) (fun hz => ?_)
    · exact q _ _ k1 p1 (by decide) (by decide)
    · have nz : (n.natAbs : Int) ≠ 0 := fun z => hz (by rw [z]; rfl)
      exact ⟨_, rfl, q _ _ k1 p1 (by show ((n.natAbs : Int)).natAbs < 2 ^ 100; omega) (by omega)⟩
theorem ok_Lwhole {f : Addr} {fd : FuncData} (F : Fun K "_law_whole" "_law_whole" s_Lwhole f fd) (T : Txt K mg C_Ratio C_BadRatio)  :
    FnOk P w K mg base CX0 1 f fd ["_law_told"] sp_Lwhole := by
  refine F.ok sc_Lwhole (fun vs H Q E h => ?_) (fun cdv A outer s H vs Q E hr h => ?_)
  · obtain ⟨a, rfl, _⟩ := h
    rfl
  · obtain ⟨a, rfl, q⟩ := h
    refine ⟨_, (pss_one (ps_ret (pe_and (pe_callB call_isi (by rfl) T.n_isinstance (by decide +kernel) (pa_cons (pv 0) (pa_cons (pe_bltn (v := .ty "int") (by rfl) T.n_int (by decide +kernel) rfl) pa_nil))) (pe_one (pe_not (pe_callB call_isi (by rfl) T.n_isinstance (by decide +kernel) (pa_cons (pv 0) (pa_cons (pe_bltn (v := .ty "bool") (by rfl) T.n_bool (by decide +kernel) rfl) pa_nil)))))))), ?_⟩
    refine ⟨_, rfl, _, _, _, .type "int", true, rfl, .ty "int", .base (.int a), kit_ty (by decide +kernel), true, rfl, iteT ?_⟩
    exact ⟨_, rfl, _, _, _, .type "bool", false, rfl, .ty "bool", .base (.int a), kit_ty (by decide +kernel), false, rfl, q⟩
theorem ok_Lis {f : Addr} {fd : FuncData} (F : Fun K "_law_is" "_law_is" s_Lis f fd) (T : Txt K mg C_Ratio C_BadRatio) (c_Lwhole : Cal CX0 P w K mg base 1 "_law_whole" sp_Lwhole) (c_Ldivisor : Cal CX0 P w K mg base 1 "_law_divisor" sp_Ldivisor) :
    FnOk P w K mg base CX0 2 f fd ["_law_told", "_law_top", "_law_bottom"] (sp_Lis C_Ratio) := by
  refine F.ok sc_Lis (fun vs H Q E h => ?_) (fun cdv A outer s H vs Q E hr h => ?_)
  · obtain ⟨x, n, d, rfl, _⟩ := h
    rfl
  · obtain ⟨x, n, d, rfl, ⟨dx, hx⟩, d0, hn, hd, q⟩ := h
    refine ⟨_, (pss_cons (ps_if (PW.pt (pw_or (pt_not (pt_val (pe_callB (C8.call_isC T.i_Ratio) (by rfl) T.n_isinstance (by decide +kernel) (pa_cons (pv 0) (pa_cons (pe_glob (v := .ref C_Ratio) rfl T.g_Ratio rfl) pa_nil))))) (pw_or (pt_not (pt_val (pc_c c_Lwhole hr (by decide) rfl pass0 (pa_cons (pe_fld (pv 0) rfl) pa_nil)))) (pw_or1 (pt_not (pt_val (pc_c c_Lwhole hr (by decide) rfl pass0 (pa_cons (pe_fld (pv 0) rfl) pa_nil)))))))) (pss_one (ps_ret pe_bl)) pss_nil)
      (pss_cons (ps_if (PW.pt (pw_or (pt_cmpR op_lt (pe_fld (pv 0) rfl) pe_int (nomark _)) (pw_or1 (pt_cmpR op_ne (pe_op op_mulA (pe_fld (pv 0) rfl) (pv 2)) (pe_op op_mulA (pv 1) (pe_fld (pv 0) rfl)) (nomark _))))) (pss_one (ps_ret pe_bl)) pss_nil)
      (pss_one (ps_ret (pe_cmpR op_eq (pc_c c_Ldivisor hr (by decide) rfl pass0 (pa_cons (pe_callB call_abs (by rfl) T.n_abs (by decide +kernel) (pa_cons (pe_fld (pv 0) rfl) pa_nil)) (pa_cons (pe_fld (pv 0) rfl) pa_nil))) pe_int (nomark _)))))), ?_⟩
    have r1 : (rN n d).natAbs < 2 ^ 210 := hn.n d0
    have r2 : (rD n d).natAbs < 2 ^ 210 := hd.d d0
    have r3 := rD_pos (n := n) d0
    have r4 := r_cross n d
    have r5 := r_cop (n := n) d0
    refine ⟨_, rfl, x, dx, _, rfl, hx, true, rfl, iteF ?_⟩
    refine ⟨_, rfl, x, C_Ratio, dx, _, _, rfl, hx, T.cl_Ratio, T.nf_Ratio_num, rfs_num _ _, _, rfl, true, rfl, iteF ?_⟩
    refine ⟨_, rfl, x, C_Ratio, dx, _, _, rfl, hx, T.cl_Ratio, T.nf_Ratio_den, rfs_den _ _, _, rfl, true, rfl, iteF ?_⟩
    refine ⟨_, rfl, x, C_Ratio, dx, _, _, rfl, hx, T.cl_Ratio, T.nf_Ratio_den, rfs_den _ _, _, _, rfl, rfl, _, rfl, ?_⟩
    rw [decide_eq_false (show ¬ rD n d < 1 by omega)]
    refine iteF ?_
    refine ⟨_, rfl, x, C_Ratio, dx, _, _, rfl, hx, T.cl_Ratio, T.nf_Ratio_num, rfs_num _ _, _, rfl, _, _, rfl, rfl, .inr (wide_mul r1 hd (by decide) (by decide) (by decide)), ?_⟩
    refine ⟨_, rfl, _, rfl, x, C_Ratio, dx, _, _, rfl, hx, T.cl_Ratio, T.nf_Ratio_den, rfs_den _ _, _, _, rfl, rfl, .inr (wide_mul hn r2 (by decide) (by decide) (by decide)), rfl, _, rfl, ?_⟩
    rw [decide_eq_true (show V.int (rN n d * d) = V.int (n * rD n d) by rw [r4])]
    refine iteF ?_
    refine ⟨_, rfl, x, C_Ratio, dx, _, _, rfl, hx, T.cl_Ratio, T.nf_Ratio_num, rfs_num _ _, _, rfl, _, rfl, x, C_Ratio, dx, _, _, rfl, hx, T.cl_Ratio, T.nf_Ratio_den, rfs_den _ _, ?_⟩
    have ea : (if rN n d < 0 then -rN n d else rN n d) = ((rN n d).natAbs : Int) := by split <;> omega
    rw [ea]
    refine ⟨_, _, rfl, by omega, by omega, by omega, by omega, rfl, ?_⟩
    rw [Int.natAbs_natCast, r5]
    exact q
theorem bd_add {a b : Int} {k : Nat} (h : Bd a k) (g : Bd b k) : Bd (a + b) (k + 1) := Bd.add h g
theorem bd_sub {a b : Int} {k : Nat} (h : Bd a k) (g : Bd b k) : Bd (a - b) (k + 1) := by rw [Int.sub_eq_add_neg]; exact Bd.add h g.neg
theorem bd_abs {a : Int} {k : Nat} (h : Bd a k) : Bd (if a < 0 then -a else a) k := by split; exact h.neg; exact h
theorem own2_R {C a b : Addr} {sp : Sp} {E : XK} {H : Hp} {Q : VK} {T B U D : Int} (r : RV C H a T B) (r2 : RV C H b U D) (h : sp [.ref a, .ref b] H Q E) : rOwn2 C sp E (.ref a) (.ref b) H Q := by
  obtain ⟨dx, e⟩ := r
  obtain ⟨dy, e2⟩ := r2
  exact ⟨a, b, dx, dy, _, _, rfl, rfl, e, e2, h⟩
theorem ownI_R {C a : Addr} {sp : Sp} {E : XK} {H : Hp} {Q : VK} {T B i : Int} (r : RV C H a T B) (h : sp [.ref a, .int i] H Q E) : rOwnI C sp E (.ref a) (.int i) H Q := by
  obtain ⟨dx, e⟩ := r
  exact ⟨a, dx, _, i, rfl, rfl, e, h⟩
theorem Iown_R {C a : Addr} {sp : Sp} {E : XK} {H : Hp} {Q : VK} {T B i : Int} (r : RV C H a T B) (h : sp [.ref a, .int i] H Q E) : rIOwn C sp E (.int i) (.ref a) H Q := by
  obtain ⟨dx, e⟩ := r
  exact ⟨a, dx, _, i, rfl, rfl, e, h⟩
theorem own1_R {C a : Addr} {sp : Sp} {E : XK} {H : Hp} {Q : VK} {T B : Int} (r : RV C H a T B) (h : sp [.ref a] H Q E) : rOwn1 C sp E (.ref a) H Q := by
  obtain ⟨dx, e⟩ := r
  exact ⟨a, dx, _, rfl, e, h⟩
def RowOk (C : Addr) (H : Hp) (x : V) : Prop := ∃ (l p : Addr) (t b : Int), x = .ref l ∧ H l = some (.lst [.ref p, .int t, .int b]) ∧ RV C H p t b ∧ b ≠ 0 ∧ Bd t 210 ∧ Bd b 210
def RowsOk (C : Addr) (H : Hp) (xs : List V) : Prop := ∀ x ∈ xs, RowOk C H x
theorem RowOk.same {C : Addr} {H H' : Hp} {x : V} (h : RowOk C H x) (s : Same H H') : RowOk C H' x := by
  obtain ⟨l, p, t, b, e, hl, r, q⟩ := h
  exact ⟨l, p, t, b, e, s _ _ hl, r.same s, q⟩
theorem RowsOk.same {C : Addr} {H H' : Hp} {xs : List V} (h : RowsOk C H xs) (s : Same H H') : RowsOk C H' xs := fun x m => (h x m).same s
theorem RowsOk.nil {C : Addr} {H : Hp} : RowsOk C H [] := fun x m => nomatch m
theorem RowsOk.snoc {C : Addr} {H : Hp} {xs : List V} {x : V} (h : RowsOk C H xs) (r : RowOk C H x) : RowsOk C H (xs ++ [x]) := fun y m => by
  rcases List.mem_append.mp m with m | m
  · exact h y m
  · rw [List.mem_singleton] at m
    rw [m]
    exact r
theorem ok_law {f : Addr} {fd : FuncData} (F : Fun K "law" "law" s_law f fd) (T : Txt K mg C_Ratio C_BadRatio) (c_Lshort : Cal CX0 P w K mg base 3 "_law_short" sp_Lshort) (c_Lpool : Cal CX0 P w K mg base 1 "_law_pool" sp_Lpool) (c_Lcell : Cal CX0 P w K mg base 1 "_law_cell" (sp_Lcell K)) (c_Lbelow : Cal CX0 P w K mg base 4 "_law_below" sp_Lbelow) (c_Ratio : Mak (L2.CX P w) P w K mg base 1 "Ratio" C_Ratio (sp_Ratio_init C_Ratio C_BadRatio)) (c_Ratio_add : Met CX0 P w K mg base 4 C_Ratio "__add__" (sp_R2 C_Ratio fAdd fDen)) (c_Ratio_sub : Met CX0 P w K mg base 5 C_Ratio "__sub__" (sp_R2 C_Ratio fSub fDen)) (c_Ratio_mul : Met CX0 P w K mg base 4 C_Ratio "__mul__" (sp_R2 C_Ratio fMul fDen)) (c_Ratio_radd : Met CX0 P w K mg base 5 C_Ratio "__radd__" (sp_R2i C_Ratio fAdd fDen)) (c_Ratio_rsub : Met CX0 P w K mg base 5 C_Ratio "__rsub__" (sp_R2i C_Ratio fRsub fDen)) (c_Ratio_rmul : Met CX0 P w K mg base 5 C_Ratio "__rmul__" (sp_R2i C_Ratio fMul fDen)) (c_Ratio_neg : Met CX0 P w K mg base 3 C_Ratio "__neg__" (sp_Rneg C_Ratio)) (c_Ratio_abs : Met CX0 P w K mg base 3 C_Ratio "__abs__" (sp_Rabs C_Ratio)) (c_Lis : Cal CX0 P w K mg base 2 "_law_is" (sp_Lis C_Ratio)) :
    FnOk P w K mg base CX0 6 f fd ["_law_script"] (sp_law K) := by
  refine F.ok sc_law (fun vs H Q E h => ?_) (fun cdv A outer s H vs Q E hr h => ?_)
  · obtain ⟨a, ns, rfl, _⟩ := h
    rfl
  · obtain ⟨a, ns, rfl, hS, hlen, q⟩ := h
    refine ⟨_, (pss_cons (ps_set (i := 1) sc_law.nd rfl (Or.inl rfl) (pc_c c_Lshort hr (by decide) rfl pass0 (pa_cons (pc_c c_Lpool hr (by decide) rfl pass0 (pa_cons (pc_c c_Lcell hr (by decide) rfl pass0 (pa_cons (pv 0) (pa_cons pe_int pa_nil))) pa_nil)) pa_nil)))
      (pss_cons (ps_set (i := 2) sc_law.nd rfl (Or.inl rfl) (pc_c c_Lbelow hr (by decide) rfl pass0 (pa_cons (pc_c c_Lpool hr (by decide) rfl pass0 (pa_cons (pc_c c_Lcell hr (by decide) rfl pass0 (pa_cons (pv 0) (pa_cons pe_int pa_nil))) pa_nil)) pa_nil)))
      (pss_cons (ps_set (i := 3) sc_law.nd rfl (Or.inl rfl) (pc_c c_Lshort hr (by decide) rfl pass0 (pa_cons (pc_c c_Lpool hr (by decide) rfl pass0 (pa_cons (pc_c c_Lcell hr (by decide) rfl pass0 (pa_cons (pv 0) (pa_cons pe_int pa_nil))) pa_nil)) pa_nil)))
      (pss_cons (ps_set (i := 4) sc_law.nd rfl (Or.inl rfl) (pc_c c_Lbelow hr (by decide) rfl pass0 (pa_cons (pc_c c_Lpool hr (by decide) rfl pass0 (pa_cons (pc_c c_Lcell hr (by decide) rfl pass0 (pa_cons (pv 0) (pa_cons pe_int pa_nil))) pa_nil)) pa_nil)))
      (pss_cons (ps_set (i := 5) sc_law.nd rfl (Or.inl rfl) (pc_c c_Lshort hr (by decide) rfl pass0 (pa_cons (pc_c c_Lpool hr (by decide) rfl pass0 (pa_cons (pc_c c_Lcell hr (by decide) rfl pass0 (pa_cons (pv 0) (pa_cons pe_int pa_nil))) pa_nil)) pa_nil)))
      (pss_cons (ps_set (i := 6) sc_law.nd rfl (Or.inl rfl) (pe_op op_mod (pe_callTy call_int1 (by rfl) T.n_int (by decide +kernel) (pa_cons (pc_c c_Lcell hr (by decide) rfl pass0 (pa_cons (pv 0) (pa_cons pe_int pa_nil))) pa_nil)) pe_int))
      (C8.pss_cut (ps_if (pt_cmpR op_gt (pv 6) pe_int (nomark _)) (pss_one (ps_set (i := 4) sc_law.nd rfl (Or.inl rfl) (pv 2))) pss_nil)
      (C8.pss_cut (ps_if (pt_cmpR op_eq (pv 6) pe_int (nomark _)) (pss_one (ps_set (i := 3) sc_law.nd rfl (Or.inl rfl) (pe_op op_sub pe_int (pv 1)))) pss_nil)
      (pss_cons (ps_set (i := 7) sc_law.nd rfl (Or.inl rfl) (pc_mk c_Ratio hr (by decide) rfl passL (pa_cons (pv 1) (pa_cons (pv 2) pa_nil))))
      (pss_cons (ps_set (i := 8) sc_law.nd rfl (Or.inl rfl) (pc_mk c_Ratio hr (by decide) rfl passL (pa_cons (pv 3) (pa_cons (pv 4) pa_nil))))
      (pss_cons (ps_set (i := 9) sc_law.nd rfl (Or.inl rfl) (pe_lst (pa_cons (pe_lst (pa_cons (pe_op (op_own c_Ratio_add hr (by decide) pass0 T.sf_Ratio) (pv 7) (pv 8)) (pa_cons (pe_op op_add (pe_op op_mulA (pv 1) (pv 4)) (pe_op op_mulA (pv 3) (pv 2))) (pa_cons (pe_op op_mulA (pv 2) (pv 4)) pa_nil)))) (pa_cons (pe_lst (pa_cons (pe_op (op_own c_Ratio_add hr (by decide) pass0 T.sf_Ratio) (pv 8) (pv 7)) (pa_cons (pe_op op_add (pe_op op_mulA (pv 1) (pv 4)) (pe_op op_mulA (pv 3) (pv 2))) (pa_cons (pe_op op_mulA (pv 2) (pv 4)) pa_nil)))) (pa_cons (pe_lst (pa_cons (pe_op (op_own c_Ratio_sub hr (by decide) pass0 T.sf_Ratio) (pv 7) (pv 8)) (pa_cons (pe_op op_sub (pe_op op_mulA (pv 1) (pv 4)) (pe_op op_mulA (pv 3) (pv 2))) (pa_cons (pe_op op_mulA (pv 2) (pv 4)) pa_nil)))) (pa_cons (pe_lst (pa_cons (pe_op (op_own c_Ratio_sub hr (by decide) pass0 T.sf_Ratio) (pv 8) (pv 7)) (pa_cons (pe_op op_sub (pe_op op_mulA (pv 3) (pv 2)) (pe_op op_mulA (pv 1) (pv 4))) (pa_cons (pe_op op_mulA (pv 2) (pv 4)) pa_nil)))) (pa_cons (pe_lst (pa_cons (pe_op (op_own c_Ratio_mul hr (by decide) pass0 T.sf_Ratio) (pv 7) (pv 8)) (pa_cons (pe_op op_mulA (pv 1) (pv 3)) (pa_cons (pe_op op_mulA (pv 2) (pv 4)) pa_nil)))) (pa_cons (pe_lst (pa_cons (pe_op (op_own c_Ratio_add hr (by decide) pass0 T.sf_Ratio) (pv 7) (pv 7)) (pa_cons (pe_op op_mulA pe_int (pv 1)) (pa_cons (pv 2) pa_nil)))) (pa_cons (pe_lst (pa_cons (pe_op (op_own c_Ratio_sub hr (by decide) pass0 T.sf_Ratio) (pv 7) (pv 7)) (pa_cons pe_int (pa_cons (pv 2) pa_nil)))) (pa_cons (pe_lst (pa_cons (pe_op (op_own c_Ratio_mul hr (by decide) pass0 T.sf_Ratio) (pv 7) (pv 7)) (pa_cons (pe_op op_mulA (pv 1) (pv 1)) (pa_cons (pe_op op_mulA (pv 2) (pv 2)) pa_nil)))) (pa_cons (pe_lst (pa_cons (pe_op (op_ownI c_Ratio_add hr (by decide) pass0 T.sf_Ratio T.rc_Ratio_add T.fi_add T.fr_add T.su_Ratio) (pv 7) (pv 5)) (pa_cons (pe_op op_add (pv 1) (pe_op op_mulA (pv 5) (pv 2))) (pa_cons (pv 2) pa_nil)))) (pa_cons (pe_lst (pa_cons (pe_op (op_Iown rfl PySem.F.slot_int_add PySem.F.entry_int_add (fun _ _ _ => PySem.F.args_int_add_2 _ _) PySem.F.fills_int_add c_Ratio_radd hr (by decide) pass0 T.sf_Ratio T.at_Ratio_add T.us_Ratio) (pv 5) (pv 7)) (pa_cons (pe_op op_add (pv 1) (pe_op op_mulA (pv 5) (pv 2))) (pa_cons (pv 2) pa_nil)))) (pa_cons (pe_lst (pa_cons (pe_op (op_ownI c_Ratio_sub hr (by decide) pass0 T.sf_Ratio T.rc_Ratio_sub T.fi_sub T.fr_sub T.su_Ratio) (pv 7) (pv 5)) (pa_cons (pe_op op_sub (pv 1) (pe_op op_mulA (pv 5) (pv 2))) (pa_cons (pv 2) pa_nil)))) (pa_cons (pe_lst (pa_cons (pe_op (op_Iown rfl PySem.F.slot_int_sub PySem.F.entry_int_sub (fun _ _ _ => PySem.F.args_int_sub_2 _ _) PySem.F.fills_int_sub c_Ratio_rsub hr (by decide) pass0 T.sf_Ratio T.at_Ratio_sub T.us_Ratio) (pv 5) (pv 7)) (pa_cons (pe_op op_sub (pe_op op_mulA (pv 5) (pv 2)) (pv 1)) (pa_cons (pv 2) pa_nil)))) (pa_cons (pe_lst (pa_cons (pe_op (op_ownI c_Ratio_mul hr (by decide) pass0 T.sf_Ratio T.rc_Ratio_mul T.fi_mul T.fr_mul T.su_Ratio) (pv 7) (pv 5)) (pa_cons (pe_op op_mulA (pv 1) (pv 5)) (pa_cons (pv 2) pa_nil)))) (pa_cons (pe_lst (pa_cons (pe_op (op_Iown rfl PySem.F.slot_int_mul PySem.F.entry_int_mul (fun _ _ _ => PySem.F.args_int_mul_2 _ _) PySem.F.fills_int_mul c_Ratio_rmul hr (by decide) pass0 T.sf_Ratio T.at_Ratio_mul T.us_Ratio) (pv 5) (pv 7)) (pa_cons (pe_op op_mulA (pv 1) (pv 5)) (pa_cons (pv 2) pa_nil)))) (pa_cons (pe_lst (pa_cons (pe_un (un_own c_Ratio_neg hr (by decide) pass0) (pv 7)) (pa_cons (pe_op op_sub pe_int (pv 1)) (pa_cons (pv 2) pa_nil)))) (pa_cons (pe_lst (pa_cons (pe_un (un_own c_Ratio_neg hr (by decide) pass0) (pv 8)) (pa_cons (pe_op op_sub pe_int (pv 3)) (pa_cons (pv 4) pa_nil)))) (pa_cons (pe_lst (pa_cons (pe_callB (call_absO c_Ratio_abs hr (by decide) pass0) (by rfl) T.n_abs (by decide +kernel) (pa_cons (pv 7) pa_nil)) (pa_cons (pe_callB call_abs (by rfl) T.n_abs (by decide +kernel) (pa_cons (pv 1) pa_nil)) (pa_cons (pv 2) pa_nil)))) (pa_cons (pe_lst (pa_cons (pe_callB (call_absO c_Ratio_abs hr (by decide) pass0) (by rfl) T.n_abs (by decide +kernel) (pa_cons (pv 8) pa_nil)) (pa_cons (pe_callB call_abs (by rfl) T.n_abs (by decide +kernel) (pa_cons (pv 3) pa_nil)) (pa_cons (pv 4) pa_nil)))) (pa_cons (pe_lst (pa_cons (pv 7) (pa_cons (pv 1) (pa_cons (pv 2) pa_nil)))) (pa_cons (pe_lst (pa_cons (pv 8) (pa_cons (pv 3) (pa_cons (pv 4) pa_nil)))) pa_nil))))))))))))))))))))))
      (pss_cons (ps_for PassesOwn.never rfl (pi_list (pv 9)) (pg_name (i := 10) sc_law.nd rfl (Or.inl rfl))
        (pss_one (ps_if (pt_not (pt_val (pc_c c_Lis hr (by decide) rfl pass0 (pa_cons (pe_ix ix_list (pv 10) pe_int (fun _ _ => rfl)) (pa_cons (pe_ix ix_list (pv 10) pe_int (fun _ _ => rfl)) (pa_cons (pe_ix ix_list (pv 10) pe_int (fun _ _ => rfl)) pa_nil)))))) (pss_one (ps_ret pe_bl)) pss_nil)))
      (pss_one (ps_ret pe_bl)))))))))))))), ?_⟩
    refine ⟨_, rfl, a, ns, 0, rfl, hS, fun c0 _ => ⟨c0, rfl, fun z0 Ha0 m0 u0 P0 => ⟨z0, rfl, P0, fun Hb0 top k0 _ b_top => ?_⟩⟩⟩
    have S0 : Same H Hb0 := (Kp.same u0 k0 m0)
    refine ⟨_, rfl, a, ns, 1, rfl, (S0.seq hS), fun c1 _ => ⟨c1, rfl, fun z1 Ha1 m1 u1 P1 => ⟨z1, rfl, P1, fun Hb1 bot k1 _ b_bot g_bot => ?_⟩⟩⟩
    have S1 : Same H Hb1 := S0.trans (Kp.same u1 k1 m1)
    refine ⟨_, rfl, a, ns, 2, rfl, (S1.seq hS), fun c2 _ => ⟨c2, rfl, fun z2 Ha2 m2 u2 P2 => ⟨z2, rfl, P2, fun Hb2 hi0 k2 _ b_hi0 => ?_⟩⟩⟩
    have S2 : Same H Hb2 := S1.trans (Kp.same u2 k2 m2)
    refine ⟨_, rfl, a, ns, 3, rfl, (S2.seq hS), fun c3 _ => ⟨c3, rfl, fun z3 Ha3 m3 u3 P3 => ⟨z3, rfl, P3, fun Hb3 lo0 k3 _ b_lo0 g_lo0 => ?_⟩⟩⟩
    have S3 : Same H Hb3 := S2.trans (Kp.same u3 k3 m3)
    refine ⟨_, rfl, a, ns, 4, rfl, (S3.seq hS), fun c4 _ => ⟨c4, rfl, fun z4 Ha4 m4 u4 P4 => ⟨z4, rfl, P4, fun Hb4 many k4 _ b_many => ?_⟩⟩⟩
    have S4 : Same H Hb4 := S3.trans (Kp.same u4 k4 m4)
    refine ⟨_, rfl, a, ns, 5, rfl, S4.seq hS, fun c5 _ => .inl ⟨_, rfl, _, _, rfl, rfl, (by show (0 : Int) < 3; decide), ?_⟩⟩
    refine ⟨fun σ' H' => ∃ lo : Int, σ' = [some (.ref a), some (.int top), some (.int bot), some (.int hi0), some (.int lo), some (.int many), some (.int (c5 % 3)), none, none, none, none] ∧ H' = Hb4 ∧ Bd lo 100 ∧ 1 ≤ lo, ?_, ?_⟩
    · refine ⟨_, rfl, _, _, rfl, rfl, _, rfl, ?_⟩
      refine ite2 (fun _ => ?_) (fun _ => ?_)
      · exact ⟨_, rfl, _, rfl, rfl, b_bot, g_bot⟩
      · exact ⟨_, rfl, rfl, b_lo0, g_lo0⟩
    rintro σ' H' ⟨lo, rfl, rfl, b_lo, g_lo⟩
    refine ⟨fun σ' J => ∃ hi : Int, σ' = [some (.ref a), some (.int top), some (.int bot), some (.int hi), some (.int lo), some (.int many), some (.int (c5 % 3)), none, none, none, none] ∧ J = H' ∧ Bd hi 100, ?_, ?_⟩
    · refine ⟨_, rfl, rfl, _, rfl, ?_⟩
      refine ite2 (fun _ => ?_) (fun _ => ?_)
      · exact ⟨_, rfl, _, _, rfl, rfl, _, rfl, rfl, by rw [Int.zero_sub]; exact b_top.neg⟩
      · exact ⟨_, rfl, rfl, b_hi0⟩
    rintro σ' J ⟨hi, rfl, rfl, b_hi⟩
    have n_bot : bot ≠ 0 := by omega
    have n_lo : lo ≠ 0 := by omega
    have p_bot : 0 < bot := by omega
    have p_lo : 0 < lo := by omega
    refine ⟨_, rfl, _, rfl, fun x dx nx ndx nex => ⟨x, dx, top, bot, rfl, upd_same, Bd.le b_bot (by decide), fun z => absurd z n_bot, fun _ J1 h1 k1 => ⟨rfl, ?_⟩⟩⟩
    have r1 : RV C_Ratio J1 x top bot := ⟨dx, h1⟩
    refine ⟨_, rfl, _, rfl, fun y dy ny ndy ney => ⟨y, dy, hi, lo, rfl, upd_same, Bd.le b_lo (by decide), fun z => absurd z n_lo, fun _ J2 h2 k2 => ⟨rfl, ?_⟩⟩⟩
    have r2 : RV C_Ratio J2 y hi lo := ⟨dy, h2⟩
    replace r1 := r1.same (mk_same ny ndy k2)
    refine ⟨_, rfl, _, rfl, own2_R r1 r2 ⟨x, _, top, bot, hi, lo, rfl, r1, .inl ⟨_, rfl, r2⟩, n_bot, n_lo, b_top.le (by decide), b_bot.le (by decide), b_hi.le (by decide), b_lo.le (by decide), fun J0 p0 s0 q0 => ?_⟩⟩
    refine ⟨_, rfl, _, rfl, _, _, rfl, rfl, .inr (wide_mul b_top b_lo (by decide) (by decide) (by decide)), _, rfl, _, rfl, _, _, rfl, rfl, .inr (wide_mul b_hi b_bot (by decide) (by decide) (by decide)), _, _, rfl, rfl, _, rfl, _, rfl, _, _, rfl, rfl, .inr (wide_mul b_bot b_lo (by decide) (by decide) (by decide)), (by show 3 ≤ sizeLine; decide), fun l0 hl0 => ?_⟩
    have t0 := s0.trans (same_upd (o := .lst [.ref p0, .int ((top * lo) + (hi * bot)), .int (bot * lo)]) hl0)
    have n0 : (bot * lo) ≠ 0 := by first | exact (Int.mul_ne_zero n_bot n_lo) | (have := (Int.mul_ne_zero n_bot n_lo); grind) | (exact n_bot) | (exact n_lo) | exact Int.mul_ne_zero n_bot n_lo | exact Int.mul_ne_zero n_bot n_bot
    have w0 : RowOk C_Ratio _ (.ref l0) := ⟨l0, p0, ((top * lo) + (hi * bot)), (bot * lo), rfl, upd_same, RV.eq (q0.same (same_upd hl0)) (Int.mul_ne_zero n_bot n_lo) n0 (by show (fAdd top bot hi lo) * (bot * lo) = ((top * lo) + (hi * bot)) * (bot * lo); grind), n0, Bd.le (show Bd ((top * lo) + (hi * bot)) 201 from bd_add (Bd.le (Bd.mul b_top b_lo) (by decide)) (Bd.le (Bd.mul b_hi b_bot) (by decide))) (by decide), Bd.le (Bd.mul b_bot b_lo) (by decide)⟩
    have A0 : RowsOk C_Ratio _ [.ref l0] := RowsOk.nil.snoc w0
    replace r1 := r1.same t0
    replace r2 := r2.same t0
    refine ⟨_, rfl, _, rfl, own2_R r2 r1 ⟨y, _, hi, lo, top, bot, rfl, r2, .inl ⟨_, rfl, r1⟩, n_lo, n_bot, b_hi.le (by decide), b_lo.le (by decide), b_top.le (by decide), b_bot.le (by decide), fun J1 p1 s1 q1 => ?_⟩⟩
    refine ⟨_, rfl, _, rfl, _, _, rfl, rfl, .inr (wide_mul b_top b_lo (by decide) (by decide) (by decide)), _, rfl, _, rfl, _, _, rfl, rfl, .inr (wide_mul b_hi b_bot (by decide) (by decide) (by decide)), _, _, rfl, rfl, _, rfl, _, rfl, _, _, rfl, rfl, .inr (wide_mul b_bot b_lo (by decide) (by decide) (by decide)), (by show 3 ≤ sizeLine; decide), fun l1 hl1 => ?_⟩
    have t1 := s1.trans (same_upd (o := .lst [.ref p1, .int ((top * lo) + (hi * bot)), .int (bot * lo)]) hl1)
    have n1 : (bot * lo) ≠ 0 := by first | exact (Int.mul_ne_zero n_lo n_bot) | (have := (Int.mul_ne_zero n_lo n_bot); grind) | (exact n_bot) | (exact n_lo) | exact Int.mul_ne_zero n_bot n_lo | exact Int.mul_ne_zero n_bot n_bot
    have w1 : RowOk C_Ratio _ (.ref l1) := ⟨l1, p1, ((top * lo) + (hi * bot)), (bot * lo), rfl, upd_same, RV.eq (q1.same (same_upd hl1)) (Int.mul_ne_zero n_lo n_bot) n1 (by show (fAdd hi lo top bot) * (bot * lo) = ((top * lo) + (hi * bot)) * (lo * bot); grind), n1, Bd.le (show Bd ((top * lo) + (hi * bot)) 201 from bd_add (Bd.le (Bd.mul b_top b_lo) (by decide)) (Bd.le (Bd.mul b_hi b_bot) (by decide))) (by decide), Bd.le (Bd.mul b_bot b_lo) (by decide)⟩
    have A1 : RowsOk C_Ratio _ [.ref l0, .ref l1] := (A0.same t1).snoc w1
    replace r1 := r1.same t1
    replace r2 := r2.same t1
    refine ⟨_, rfl, _, rfl, own2_R r1 r2 ⟨x, _, top, bot, hi, lo, rfl, r1, .inl ⟨_, rfl, r2⟩, n_bot, n_lo, b_top.le (by decide), b_bot.le (by decide), b_hi.le (by decide), b_lo.le (by decide), fun J2 p2 s2 q2 => ?_⟩⟩
    refine ⟨_, rfl, _, rfl, _, _, rfl, rfl, .inr (wide_mul b_top b_lo (by decide) (by decide) (by decide)), _, rfl, _, rfl, _, _, rfl, rfl, .inr (wide_mul b_hi b_bot (by decide) (by decide) (by decide)), _, _, rfl, rfl, _, rfl, _, rfl, _, _, rfl, rfl, .inr (wide_mul b_bot b_lo (by decide) (by decide) (by decide)), (by show 3 ≤ sizeLine; decide), fun l2 hl2 => ?_⟩
    have t2 := s2.trans (same_upd (o := .lst [.ref p2, .int ((top * lo) - (hi * bot)), .int (bot * lo)]) hl2)
    have n2 : (bot * lo) ≠ 0 := by first | exact (Int.mul_ne_zero n_bot n_lo) | (have := (Int.mul_ne_zero n_bot n_lo); grind) | (exact n_bot) | (exact n_lo) | exact Int.mul_ne_zero n_bot n_lo | exact Int.mul_ne_zero n_bot n_bot
    have w2 : RowOk C_Ratio _ (.ref l2) := ⟨l2, p2, ((top * lo) - (hi * bot)), (bot * lo), rfl, upd_same, RV.eq (q2.same (same_upd hl2)) (Int.mul_ne_zero n_bot n_lo) n2 (by show (fSub top bot hi lo) * (bot * lo) = ((top * lo) - (hi * bot)) * (bot * lo); grind), n2, Bd.le (show Bd ((top * lo) - (hi * bot)) 201 from bd_sub (Bd.le (Bd.mul b_top b_lo) (by decide)) (Bd.le (Bd.mul b_hi b_bot) (by decide))) (by decide), Bd.le (Bd.mul b_bot b_lo) (by decide)⟩
    have A2 : RowsOk C_Ratio _ [.ref l0, .ref l1, .ref l2] := (A1.same t2).snoc w2
    replace r1 := r1.same t2
    replace r2 := r2.same t2
    refine ⟨_, rfl, _, rfl, own2_R r2 r1 ⟨y, _, hi, lo, top, bot, rfl, r2, .inl ⟨_, rfl, r1⟩, n_lo, n_bot, b_hi.le (by decide), b_lo.le (by decide), b_top.le (by decide), b_bot.le (by decide), fun J3 p3 s3 q3 => ?_⟩⟩
    refine ⟨_, rfl, _, rfl, _, _, rfl, rfl, .inr (wide_mul b_hi b_bot (by decide) (by decide) (by decide)), _, rfl, _, rfl, _, _, rfl, rfl, .inr (wide_mul b_top b_lo (by decide) (by decide) (by decide)), _, _, rfl, rfl, _, rfl, _, rfl, _, _, rfl, rfl, .inr (wide_mul b_bot b_lo (by decide) (by decide) (by decide)), (by show 3 ≤ sizeLine; decide), fun l3 hl3 => ?_⟩
    have t3 := s3.trans (same_upd (o := .lst [.ref p3, .int ((hi * bot) - (top * lo)), .int (bot * lo)]) hl3)
    have n3 : (bot * lo) ≠ 0 := by first | exact (Int.mul_ne_zero n_lo n_bot) | (have := (Int.mul_ne_zero n_lo n_bot); grind) | (exact n_bot) | (exact n_lo) | exact Int.mul_ne_zero n_bot n_lo | exact Int.mul_ne_zero n_bot n_bot
    have w3 : RowOk C_Ratio _ (.ref l3) := ⟨l3, p3, ((hi * bot) - (top * lo)), (bot * lo), rfl, upd_same, RV.eq (q3.same (same_upd hl3)) (Int.mul_ne_zero n_lo n_bot) n3 (by show (fSub hi lo top bot) * (bot * lo) = ((hi * bot) - (top * lo)) * (lo * bot); grind), n3, Bd.le (show Bd ((hi * bot) - (top * lo)) 201 from bd_sub (Bd.le (Bd.mul b_hi b_bot) (by decide)) (Bd.le (Bd.mul b_top b_lo) (by decide))) (by decide), Bd.le (Bd.mul b_bot b_lo) (by decide)⟩
    have A3 : RowsOk C_Ratio _ [.ref l0, .ref l1, .ref l2, .ref l3] := (A2.same t3).snoc w3
    replace r1 := r1.same t3
    replace r2 := r2.same t3
    refine ⟨_, rfl, _, rfl, own2_R r1 r2 ⟨x, _, top, bot, hi, lo, rfl, r1, .inl ⟨_, rfl, r2⟩, n_bot, n_lo, b_top.le (by decide), b_bot.le (by decide), b_hi.le (by decide), b_lo.le (by decide), fun J4 p4 s4 q4 => ?_⟩⟩
    refine ⟨_, rfl, _, rfl, _, _, rfl, rfl, .inr (wide_mul b_top b_hi (by decide) (by decide) (by decide)), _, rfl, _, rfl, _, _, rfl, rfl, .inr (wide_mul b_bot b_lo (by decide) (by decide) (by decide)), (by show 3 ≤ sizeLine; decide), fun l4 hl4 => ?_⟩
    have t4 := s4.trans (same_upd (o := .lst [.ref p4, .int (top * hi), .int (bot * lo)]) hl4)
    have n4 : (bot * lo) ≠ 0 := by first | exact (Int.mul_ne_zero n_bot n_lo) | (have := (Int.mul_ne_zero n_bot n_lo); grind) | (exact n_bot) | (exact n_lo) | exact Int.mul_ne_zero n_bot n_lo | exact Int.mul_ne_zero n_bot n_bot
    have w4 : RowOk C_Ratio _ (.ref l4) := ⟨l4, p4, (top * hi), (bot * lo), rfl, upd_same, RV.eq (q4.same (same_upd hl4)) (Int.mul_ne_zero n_bot n_lo) n4 (by show (fMul top bot hi lo) * (bot * lo) = (top * hi) * (bot * lo); grind), n4, Bd.le (Bd.mul b_top b_hi) (by decide), Bd.le (Bd.mul b_bot b_lo) (by decide)⟩
    have A4 : RowsOk C_Ratio _ [.ref l0, .ref l1, .ref l2, .ref l3, .ref l4] := (A3.same t4).snoc w4
    replace r1 := r1.same t4
    replace r2 := r2.same t4
    refine ⟨_, rfl, _, rfl, own2_R r1 r1 ⟨x, _, top, bot, top, bot, rfl, r1, .inl ⟨_, rfl, r1⟩, n_bot, n_bot, b_top.le (by decide), b_bot.le (by decide), b_top.le (by decide), b_bot.le (by decide), fun J5 p5 s5 q5 => ?_⟩⟩
    refine ⟨_, rfl, _, _, rfl, rfl, .inl (.inl ⟨by decide, by decide⟩), _, rfl, (by show 3 ≤ sizeLine; decide), fun l5 hl5 => ?_⟩
    have t5 := s5.trans (same_upd (o := .lst [.ref p5, .int (2 * top), .int bot]) hl5)
    have n5 : bot ≠ 0 := by first | exact (Int.mul_ne_zero n_bot n_bot) | (have := (Int.mul_ne_zero n_bot n_bot); grind) | (exact n_bot) | (exact n_lo) | exact Int.mul_ne_zero n_bot n_lo | exact Int.mul_ne_zero n_bot n_bot
    have w5 : RowOk C_Ratio _ (.ref l5) := ⟨l5, p5, (2 * top), bot, rfl, upd_same, RV.eq (q5.same (same_upd hl5)) (Int.mul_ne_zero n_bot n_bot) n5 (by show (fAdd top bot top bot) * bot = (2 * top) * (bot * bot); grind), n5, Bd.le (Bd.mul (show Bd 2 2 by decide) b_top) (by decide), Bd.le b_bot (by decide)⟩
    have A5 : RowsOk C_Ratio _ [.ref l0, .ref l1, .ref l2, .ref l3, .ref l4, .ref l5] := (A4.same t5).snoc w5
    replace r1 := r1.same t5
    replace r2 := r2.same t5
    refine ⟨_, rfl, _, rfl, own2_R r1 r1 ⟨x, _, top, bot, top, bot, rfl, r1, .inl ⟨_, rfl, r1⟩, n_bot, n_bot, b_top.le (by decide), b_bot.le (by decide), b_top.le (by decide), b_bot.le (by decide), fun J6 p6 s6 q6 => ?_⟩⟩
    refine ⟨_, rfl, (by show 3 ≤ sizeLine; decide), fun l6 hl6 => ?_⟩
    have t6 := s6.trans (same_upd (o := .lst [.ref p6, .int 0, .int bot]) hl6)
    have n6 : bot ≠ 0 := by first | exact (Int.mul_ne_zero n_bot n_bot) | (have := (Int.mul_ne_zero n_bot n_bot); grind) | (exact n_bot) | (exact n_lo) | exact Int.mul_ne_zero n_bot n_lo | exact Int.mul_ne_zero n_bot n_bot
    have w6 : RowOk C_Ratio _ (.ref l6) := ⟨l6, p6, 0, bot, rfl, upd_same, RV.eq (q6.same (same_upd hl6)) (Int.mul_ne_zero n_bot n_bot) n6 (by show (fSub top bot top bot) * bot = 0 * (bot * bot); grind), n6, Bd.le (show Bd 0 2 by decide) (by decide), Bd.le b_bot (by decide)⟩
    have A6 : RowsOk C_Ratio _ [.ref l0, .ref l1, .ref l2, .ref l3, .ref l4, .ref l5, .ref l6] := (A5.same t6).snoc w6
    replace r1 := r1.same t6
    replace r2 := r2.same t6
    refine ⟨_, rfl, _, rfl, own2_R r1 r1 ⟨x, _, top, bot, top, bot, rfl, r1, .inl ⟨_, rfl, r1⟩, n_bot, n_bot, b_top.le (by decide), b_bot.le (by decide), b_top.le (by decide), b_bot.le (by decide), fun J7 p7 s7 q7 => ?_⟩⟩
    refine ⟨_, rfl, _, rfl, _, _, rfl, rfl, .inr (wide_mul b_top b_top (by decide) (by decide) (by decide)), _, rfl, _, rfl, _, _, rfl, rfl, .inr (wide_mul b_bot b_bot (by decide) (by decide) (by decide)), (by show 3 ≤ sizeLine; decide), fun l7 hl7 => ?_⟩
    have t7 := s7.trans (same_upd (o := .lst [.ref p7, .int (top * top), .int (bot * bot)]) hl7)
    have n7 : (bot * bot) ≠ 0 := by first | exact (Int.mul_ne_zero n_bot n_bot) | (have := (Int.mul_ne_zero n_bot n_bot); grind) | (exact n_bot) | (exact n_lo) | exact Int.mul_ne_zero n_bot n_lo | exact Int.mul_ne_zero n_bot n_bot
    have w7 : RowOk C_Ratio _ (.ref l7) := ⟨l7, p7, (top * top), (bot * bot), rfl, upd_same, RV.eq (q7.same (same_upd hl7)) (Int.mul_ne_zero n_bot n_bot) n7 (by show (fMul top bot top bot) * (bot * bot) = (top * top) * (bot * bot); grind), n7, Bd.le (Bd.mul b_top b_top) (by decide), Bd.le (Bd.mul b_bot b_bot) (by decide)⟩
    have A7 : RowsOk C_Ratio _ [.ref l0, .ref l1, .ref l2, .ref l3, .ref l4, .ref l5, .ref l6, .ref l7] := (A6.same t7).snoc w7
    replace r1 := r1.same t7
    replace r2 := r2.same t7
    refine ⟨_, rfl, _, rfl, ownI_R r1 ⟨x, _, top, bot, many, 1, rfl, r1, .inr ⟨rfl, rfl⟩, n_bot, by decide, b_top.le (by decide), b_bot.le (by decide), b_many.le (by decide), by decide, fun J8 p8 s8 q8 => ?_⟩⟩
    refine ⟨_, rfl, _, rfl, _, rfl, _, _, rfl, rfl, .inr (wide_mul b_many b_bot (by decide) (by decide) (by decide)), _, _, rfl, rfl, _, rfl, (by show 3 ≤ sizeLine; decide), fun l8 hl8 => ?_⟩
    have t8 := s8.trans (same_upd (o := .lst [.ref p8, .int (top + (many * bot)), .int bot]) hl8)
    have n8 : bot ≠ 0 := by first | exact (Int.mul_ne_zero n_bot (by decide)) | (have := (Int.mul_ne_zero n_bot (by decide)); grind) | (exact n_bot) | (exact n_lo) | exact Int.mul_ne_zero n_bot n_lo | exact Int.mul_ne_zero n_bot n_bot
    have w8 : RowOk C_Ratio _ (.ref l8) := ⟨l8, p8, (top + (many * bot)), bot, rfl, upd_same, RV.eq (q8.same (same_upd hl8)) (Int.mul_ne_zero n_bot (by decide)) n8 (by show (fAdd top bot many 1) * bot = (top + (many * bot)) * (bot * 1); grind), n8, Bd.le (show Bd (top + (many * bot)) 201 from bd_add (Bd.le b_top (by decide)) (Bd.le (Bd.mul b_many b_bot) (by decide))) (by decide), Bd.le b_bot (by decide)⟩
    have A8 : RowsOk C_Ratio _ [.ref l0, .ref l1, .ref l2, .ref l3, .ref l4, .ref l5, .ref l6, .ref l7, .ref l8] := (A7.same t8).snoc w8
    replace r1 := r1.same t8
    replace r2 := r2.same t8
    refine ⟨_, rfl, _, rfl, Iown_R r1 ⟨x, _, top, bot, many, 1, rfl, r1, ⟨many, rfl⟩, .inr ⟨rfl, rfl⟩, n_bot, by decide, b_top.le (by decide), b_bot.le (by decide), b_many.le (by decide), by decide, fun J9 p9 s9 q9 => ?_⟩⟩
    refine ⟨_, rfl, _, rfl, _, rfl, _, _, rfl, rfl, .inr (wide_mul b_many b_bot (by decide) (by decide) (by decide)), _, _, rfl, rfl, _, rfl, (by show 3 ≤ sizeLine; decide), fun l9 hl9 => ?_⟩
    have t9 := s9.trans (same_upd (o := .lst [.ref p9, .int (top + (many * bot)), .int bot]) hl9)
    have n9 : bot ≠ 0 := by first | exact (Int.mul_ne_zero n_bot (by decide)) | (have := (Int.mul_ne_zero n_bot (by decide)); grind) | (exact n_bot) | (exact n_lo) | exact Int.mul_ne_zero n_bot n_lo | exact Int.mul_ne_zero n_bot n_bot
    have w9 : RowOk C_Ratio _ (.ref l9) := ⟨l9, p9, (top + (many * bot)), bot, rfl, upd_same, RV.eq (q9.same (same_upd hl9)) (Int.mul_ne_zero n_bot (by decide)) n9 (by show (fAdd top bot many 1) * bot = (top + (many * bot)) * (bot * 1); grind), n9, Bd.le (show Bd (top + (many * bot)) 201 from bd_add (Bd.le b_top (by decide)) (Bd.le (Bd.mul b_many b_bot) (by decide))) (by decide), Bd.le b_bot (by decide)⟩
    have A9 : RowsOk C_Ratio _ [.ref l0, .ref l1, .ref l2, .ref l3, .ref l4, .ref l5, .ref l6, .ref l7, .ref l8, .ref l9] := (A8.same t9).snoc w9
    replace r1 := r1.same t9
    replace r2 := r2.same t9
    refine ⟨_, rfl, _, rfl, ownI_R r1 ⟨x, _, top, bot, many, 1, rfl, r1, .inr ⟨rfl, rfl⟩, n_bot, by decide, b_top.le (by decide), b_bot.le (by decide), b_many.le (by decide), by decide, fun J10 p10 s10 q10 => ?_⟩⟩
    refine ⟨_, rfl, _, rfl, _, rfl, _, _, rfl, rfl, .inr (wide_mul b_many b_bot (by decide) (by decide) (by decide)), _, _, rfl, rfl, _, rfl, (by show 3 ≤ sizeLine; decide), fun l10 hl10 => ?_⟩
    have t10 := s10.trans (same_upd (o := .lst [.ref p10, .int (top - (many * bot)), .int bot]) hl10)
    have n10 : bot ≠ 0 := by first | exact (Int.mul_ne_zero n_bot (by decide)) | (have := (Int.mul_ne_zero n_bot (by decide)); grind) | (exact n_bot) | (exact n_lo) | exact Int.mul_ne_zero n_bot n_lo | exact Int.mul_ne_zero n_bot n_bot
    have w10 : RowOk C_Ratio _ (.ref l10) := ⟨l10, p10, (top - (many * bot)), bot, rfl, upd_same, RV.eq (q10.same (same_upd hl10)) (Int.mul_ne_zero n_bot (by decide)) n10 (by show (fSub top bot many 1) * bot = (top - (many * bot)) * (bot * 1); grind), n10, Bd.le (show Bd (top - (many * bot)) 201 from bd_sub (Bd.le b_top (by decide)) (Bd.le (Bd.mul b_many b_bot) (by decide))) (by decide), Bd.le b_bot (by decide)⟩
    have A10 : RowsOk C_Ratio _ [.ref l0, .ref l1, .ref l2, .ref l3, .ref l4, .ref l5, .ref l6, .ref l7, .ref l8, .ref l9, .ref l10] := (A9.same t10).snoc w10
    replace r1 := r1.same t10
    replace r2 := r2.same t10
    refine ⟨_, rfl, _, rfl, Iown_R r1 ⟨x, _, top, bot, many, 1, rfl, r1, ⟨many, rfl⟩, .inr ⟨rfl, rfl⟩, n_bot, by decide, b_top.le (by decide), b_bot.le (by decide), b_many.le (by decide), by decide, fun J11 p11 s11 q11 => ?_⟩⟩
    refine ⟨_, rfl, _, rfl, _, _, rfl, rfl, .inr (wide_mul b_many b_bot (by decide) (by decide) (by decide)), _, rfl, _, _, rfl, rfl, _, rfl, (by show 3 ≤ sizeLine; decide), fun l11 hl11 => ?_⟩
    have t11 := s11.trans (same_upd (o := .lst [.ref p11, .int ((many * bot) - top), .int bot]) hl11)
    have n11 : bot ≠ 0 := by first | exact (Int.mul_ne_zero n_bot (by decide)) | (have := (Int.mul_ne_zero n_bot (by decide)); grind) | (exact n_bot) | (exact n_lo) | exact Int.mul_ne_zero n_bot n_lo | exact Int.mul_ne_zero n_bot n_bot
    have w11 : RowOk C_Ratio _ (.ref l11) := ⟨l11, p11, ((many * bot) - top), bot, rfl, upd_same, RV.eq (q11.same (same_upd hl11)) (Int.mul_ne_zero n_bot (by decide)) n11 (by show (fRsub top bot many 1) * bot = ((many * bot) - top) * (bot * 1); grind), n11, Bd.le (show Bd ((many * bot) - top) 201 from bd_sub (Bd.le (Bd.mul b_many b_bot) (by decide)) (Bd.le b_top (by decide))) (by decide), Bd.le b_bot (by decide)⟩
    have A11 : RowsOk C_Ratio _ [.ref l0, .ref l1, .ref l2, .ref l3, .ref l4, .ref l5, .ref l6, .ref l7, .ref l8, .ref l9, .ref l10, .ref l11] := (A10.same t11).snoc w11
    replace r1 := r1.same t11
    replace r2 := r2.same t11
    refine ⟨_, rfl, _, rfl, ownI_R r1 ⟨x, _, top, bot, many, 1, rfl, r1, .inr ⟨rfl, rfl⟩, n_bot, by decide, b_top.le (by decide), b_bot.le (by decide), b_many.le (by decide), by decide, fun J12 p12 s12 q12 => ?_⟩⟩
    refine ⟨_, rfl, _, rfl, _, _, rfl, rfl, .inr (wide_mul b_top b_many (by decide) (by decide) (by decide)), _, rfl, (by show 3 ≤ sizeLine; decide), fun l12 hl12 => ?_⟩
    have t12 := s12.trans (same_upd (o := .lst [.ref p12, .int (top * many), .int bot]) hl12)
    have n12 : bot ≠ 0 := by first | exact (Int.mul_ne_zero n_bot (by decide)) | (have := (Int.mul_ne_zero n_bot (by decide)); grind) | (exact n_bot) | (exact n_lo) | exact Int.mul_ne_zero n_bot n_lo | exact Int.mul_ne_zero n_bot n_bot
    have w12 : RowOk C_Ratio _ (.ref l12) := ⟨l12, p12, (top * many), bot, rfl, upd_same, RV.eq (q12.same (same_upd hl12)) (Int.mul_ne_zero n_bot (by decide)) n12 (by show (fMul top bot many 1) * bot = (top * many) * (bot * 1); grind), n12, Bd.le (Bd.mul b_top b_many) (by decide), Bd.le b_bot (by decide)⟩
    have A12 : RowsOk C_Ratio _ [.ref l0, .ref l1, .ref l2, .ref l3, .ref l4, .ref l5, .ref l6, .ref l7, .ref l8, .ref l9, .ref l10, .ref l11, .ref l12] := (A11.same t12).snoc w12
    replace r1 := r1.same t12
    replace r2 := r2.same t12
    refine ⟨_, rfl, _, rfl, Iown_R r1 ⟨x, _, top, bot, many, 1, rfl, r1, ⟨many, rfl⟩, .inr ⟨rfl, rfl⟩, n_bot, by decide, b_top.le (by decide), b_bot.le (by decide), b_many.le (by decide), by decide, fun J13 p13 s13 q13 => ?_⟩⟩
    refine ⟨_, rfl, _, rfl, _, _, rfl, rfl, .inr (wide_mul b_top b_many (by decide) (by decide) (by decide)), _, rfl, (by show 3 ≤ sizeLine; decide), fun l13 hl13 => ?_⟩
    have t13 := s13.trans (same_upd (o := .lst [.ref p13, .int (top * many), .int bot]) hl13)
    have n13 : bot ≠ 0 := by first | exact (Int.mul_ne_zero n_bot (by decide)) | (have := (Int.mul_ne_zero n_bot (by decide)); grind) | (exact n_bot) | (exact n_lo) | exact Int.mul_ne_zero n_bot n_lo | exact Int.mul_ne_zero n_bot n_bot
    have w13 : RowOk C_Ratio _ (.ref l13) := ⟨l13, p13, (top * many), bot, rfl, upd_same, RV.eq (q13.same (same_upd hl13)) (Int.mul_ne_zero n_bot (by decide)) n13 (by show (fMul top bot many 1) * bot = (top * many) * (bot * 1); grind), n13, Bd.le (Bd.mul b_top b_many) (by decide), Bd.le b_bot (by decide)⟩
    have A13 : RowsOk C_Ratio _ [.ref l0, .ref l1, .ref l2, .ref l3, .ref l4, .ref l5, .ref l6, .ref l7, .ref l8, .ref l9, .ref l10, .ref l11, .ref l12, .ref l13] := (A12.same t13).snoc w13
    replace r1 := r1.same t13
    replace r2 := r2.same t13
    refine ⟨_, rfl, own1_R r1 ⟨x, top, bot, rfl, r1, n_bot, b_bot.le (by decide), fun J14 p14 s14 q14 => ?_⟩⟩
    refine ⟨_, rfl, _, _, rfl, rfl, _, rfl, (by show 3 ≤ sizeLine; decide), fun l14 hl14 => ?_⟩
    have t14 := s14.trans (same_upd (o := .lst [.ref p14, .int (0 - top), .int bot]) hl14)
    have n14 : bot ≠ 0 := by first | exact n_bot | (have := n_bot; grind) | (exact n_bot) | (exact n_lo) | exact Int.mul_ne_zero n_bot n_lo | exact Int.mul_ne_zero n_bot n_bot
    have w14 : RowOk C_Ratio _ (.ref l14) := ⟨l14, p14, (0 - top), bot, rfl, upd_same, RV.eq (q14.same (same_upd hl14)) n_bot n14 (by show (-top) * bot = (0 - top) * bot; grind), n14, Bd.le (show Bd (0 - top) 101 from bd_sub (Bd.le (show Bd 0 2 by decide) (by decide)) (Bd.le b_top (by decide))) (by decide), Bd.le b_bot (by decide)⟩
    have A14 : RowsOk C_Ratio _ [.ref l0, .ref l1, .ref l2, .ref l3, .ref l4, .ref l5, .ref l6, .ref l7, .ref l8, .ref l9, .ref l10, .ref l11, .ref l12, .ref l13, .ref l14] := (A13.same t14).snoc w14
    replace r1 := r1.same t14
    replace r2 := r2.same t14
    refine ⟨_, rfl, own1_R r2 ⟨y, hi, lo, rfl, r2, n_lo, b_lo.le (by decide), fun J15 p15 s15 q15 => ?_⟩⟩
    refine ⟨_, rfl, _, _, rfl, rfl, _, rfl, (by show 3 ≤ sizeLine; decide), fun l15 hl15 => ?_⟩
    have t15 := s15.trans (same_upd (o := .lst [.ref p15, .int (0 - hi), .int lo]) hl15)
    have n15 : lo ≠ 0 := by first | exact n_lo | (have := n_lo; grind) | (exact n_bot) | (exact n_lo) | exact Int.mul_ne_zero n_bot n_lo | exact Int.mul_ne_zero n_bot n_bot
    have w15 : RowOk C_Ratio _ (.ref l15) := ⟨l15, p15, (0 - hi), lo, rfl, upd_same, RV.eq (q15.same (same_upd hl15)) n_lo n15 (by show (-hi) * lo = (0 - hi) * lo; grind), n15, Bd.le (show Bd (0 - hi) 101 from bd_sub (Bd.le (show Bd 0 2 by decide) (by decide)) (Bd.le b_hi (by decide))) (by decide), Bd.le b_lo (by decide)⟩
    have A15 : RowsOk C_Ratio _ [.ref l0, .ref l1, .ref l2, .ref l3, .ref l4, .ref l5, .ref l6, .ref l7, .ref l8, .ref l9, .ref l10, .ref l11, .ref l12, .ref l13, .ref l14, .ref l15] := (A14.same t15).snoc w15
    replace r1 := r1.same t15
    replace r2 := r2.same t15
    refine ⟨_, rfl, _, rfl, own1_R r1 ⟨x, top, bot, rfl, r1, p_bot, b_bot.le (by decide), fun J16 p16 s16 q16 => ?_⟩⟩
    refine ⟨_, rfl, _, rfl, _, rfl, (by show 3 ≤ sizeLine; decide), fun l16 hl16 => ?_⟩
    have t16 := s16.trans (same_upd (o := .lst [.ref p16, .int (if top < 0 then -top else top), .int bot]) hl16)
    have n16 : bot ≠ 0 := by first | exact n_bot | (have := n_bot; grind) | (exact n_bot) | (exact n_lo) | exact Int.mul_ne_zero n_bot n_lo | exact Int.mul_ne_zero n_bot n_bot
    have w16 : RowOk C_Ratio _ (.ref l16) := ⟨l16, p16, (if top < 0 then -top else top), bot, rfl, upd_same, RV.eq (q16.same (same_upd hl16)) n_bot n16 (by show (if top < 0 then -top else top) * bot = (if top < 0 then -top else top) * bot; grind), n16, Bd.le (bd_abs b_top) (by decide), Bd.le b_bot (by decide)⟩
    have A16 : RowsOk C_Ratio _ [.ref l0, .ref l1, .ref l2, .ref l3, .ref l4, .ref l5, .ref l6, .ref l7, .ref l8, .ref l9, .ref l10, .ref l11, .ref l12, .ref l13, .ref l14, .ref l15, .ref l16] := (A15.same t16).snoc w16
    replace r1 := r1.same t16
    replace r2 := r2.same t16
    refine ⟨_, rfl, _, rfl, own1_R r2 ⟨y, hi, lo, rfl, r2, p_lo, b_lo.le (by decide), fun J17 p17 s17 q17 => ?_⟩⟩
    refine ⟨_, rfl, _, rfl, _, rfl, (by show 3 ≤ sizeLine; decide), fun l17 hl17 => ?_⟩
    have t17 := s17.trans (same_upd (o := .lst [.ref p17, .int (if hi < 0 then -hi else hi), .int lo]) hl17)
    have n17 : lo ≠ 0 := by first | exact n_lo | (have := n_lo; grind) | (exact n_bot) | (exact n_lo) | exact Int.mul_ne_zero n_bot n_lo | exact Int.mul_ne_zero n_bot n_bot
    have w17 : RowOk C_Ratio _ (.ref l17) := ⟨l17, p17, (if hi < 0 then -hi else hi), lo, rfl, upd_same, RV.eq (q17.same (same_upd hl17)) n_lo n17 (by show (if hi < 0 then -hi else hi) * lo = (if hi < 0 then -hi else hi) * lo; grind), n17, Bd.le (bd_abs b_hi) (by decide), Bd.le b_lo (by decide)⟩
    have A17 : RowsOk C_Ratio _ [.ref l0, .ref l1, .ref l2, .ref l3, .ref l4, .ref l5, .ref l6, .ref l7, .ref l8, .ref l9, .ref l10, .ref l11, .ref l12, .ref l13, .ref l14, .ref l15, .ref l16, .ref l17] := (A16.same t17).snoc w17
    replace r1 := r1.same t17
    replace r2 := r2.same t17
    refine ⟨_, rfl, _, rfl, _, rfl, (by show 3 ≤ sizeLine; decide), fun l18 hl18 => ?_⟩
    have t18 := (same_upd (o := .lst [.ref x, .int top, .int bot]) hl18)
    have n18 : bot ≠ 0 := by first | exact n_bot | (have := n_bot; grind) | (exact n_bot) | (exact n_lo) | exact Int.mul_ne_zero n_bot n_lo | exact Int.mul_ne_zero n_bot n_bot
    have w18 : RowOk C_Ratio _ (.ref l18) := ⟨l18, x, top, bot, rfl, upd_same, RV.eq (r1.same (same_upd hl18)) n_bot n18 (by show top * bot = top * bot; grind), n18, Bd.le b_top (by decide), Bd.le b_bot (by decide)⟩
    have A18 : RowsOk C_Ratio _ [.ref l0, .ref l1, .ref l2, .ref l3, .ref l4, .ref l5, .ref l6, .ref l7, .ref l8, .ref l9, .ref l10, .ref l11, .ref l12, .ref l13, .ref l14, .ref l15, .ref l16, .ref l17, .ref l18] := (A17.same t18).snoc w18
    replace r1 := r1.same t18
    replace r2 := r2.same t18
    refine ⟨_, rfl, _, rfl, _, rfl, (by show 3 ≤ sizeLine; decide), fun l19 hl19 => ?_⟩
    have t19 := (same_upd (o := .lst [.ref y, .int hi, .int lo]) hl19)
    have n19 : lo ≠ 0 := by first | exact n_lo | (have := n_lo; grind) | (exact n_bot) | (exact n_lo) | exact Int.mul_ne_zero n_bot n_lo | exact Int.mul_ne_zero n_bot n_bot
    have w19 : RowOk C_Ratio _ (.ref l19) := ⟨l19, y, hi, lo, rfl, upd_same, RV.eq (r2.same (same_upd hl19)) n_lo n19 (by show hi * lo = hi * lo; grind), n19, Bd.le b_hi (by decide), Bd.le b_lo (by decide)⟩
    have A19 : RowsOk C_Ratio _ [.ref l0, .ref l1, .ref l2, .ref l3, .ref l4, .ref l5, .ref l6, .ref l7, .ref l8, .ref l9, .ref l10, .ref l11, .ref l12, .ref l13, .ref l14, .ref l15, .ref l16, .ref l17, .ref l18, .ref l19] := (A18.same t19).snoc w19
    replace r1 := r1.same t19
    replace r2 := r2.same t19
    refine ⟨(by show 20 ≤ sizeLine; decide), fun lr hlr => ?_⟩
    have AA := A19.same (same_upd (o := .lst [V.ref l0, V.ref l1, V.ref l2, V.ref l3, V.ref l4, V.ref l5, V.ref l6, V.ref l7, V.ref l8, V.ref l9, V.ref l10, V.ref l11, V.ref l12, V.ref l13, V.ref l14, V.ref l15, V.ref l16, V.ref l17, V.ref l18, V.ref l19]) hlr)
    refine ⟨_, rfl, lr, rfl, ⟨_, SqL.of upd_same⟩, for_list (K := K) (a := lr) (xs := [V.ref l0, V.ref l1, V.ref l2, V.ref l3, V.ref l4, V.ref l5, V.ref l6, V.ref l7, V.ref l8, V.ref l9, V.ref l10, V.ref l11, V.ref l12, V.ref l13, V.ref l14, V.ref l15, V.ref l16, V.ref l17, V.ref l18, V.ref l19])
      (fun i σ H'' => H'' = upd _ lr (.lst [V.ref l0, V.ref l1, V.ref l2, V.ref l3, V.ref l4, V.ref l5, V.ref l6, V.ref l7, V.ref l8, V.ref l9, V.ref l10, V.ref l11, V.ref l12, V.ref l13, V.ref l14, V.ref l15, V.ref l16, V.ref l17, V.ref l18, V.ref l19]) ∧ ∃ v : Option V, σ = [some (.ref a), some (.int top), some (.int bot), some (.int hi), some (.int lo), some (.int many), some (.int (c5 % 3)), some (.ref x), some (.ref y), some (.ref lr), v])
      ⟨rfl, none, rfl⟩ (fun i σ H'' _ ⟨e, _⟩ => by rw [e]; exact SqL.of upd_same) ?_ ?_⟩
    · rintro i z σ H'' hi' ⟨rfl, v, rfl⟩
      obtain ⟨l, p, t, b, rfl, hl, rv, nb, bt, bb⟩ := AA z (List.mem_of_getElem? hi')
      refine ⟨_, rfl, l, _, _, _, rfl, rfl, SqL.of hl, at0, _, rfl, l, _, _, _, rfl, rfl, SqL.of hl, at1, _, rfl, l, _, _, _, rfl, rfl, SqL.of hl, at2, p, t, b, rfl, rv, nb, bt, bb, true, rfl, iteF ?_⟩
      exact ⟨rfl, _, rfl⟩
    · rintro σ H'' ⟨rfl, v, rfl⟩
      exact q _
end
theorem all_mk {l : PySem.W.OpenLaw} {w : World} {K : PySem.W.Frag} {h : Heap} {mg : Str → Option Value} {fa C_Ratio C_BadRatio : Addr} {f_Ratio_init : Addr} {od_Ratio_init an_Ratio_init : Option Addr} {sl_Ratio_init : Array (Option Value)} {oc_Ratio_init kV_Ratio_init dc_Ratio_init pm_Ratio_init cd_Ratio_init ct_Ratio_init : Value} {f_uratio_of : Addr} {od_uratio_of an_uratio_of : Option Addr} {sl_uratio_of : Array (Option Value)} {oc_uratio_of kV_uratio_of dc_uratio_of pm_uratio_of cd_uratio_of ct_uratio_of : Value} {f_Ratio_neg : Addr} {od_Ratio_neg an_Ratio_neg : Option Addr} {sl_Ratio_neg : Array (Option Value)} {oc_Ratio_neg kV_Ratio_neg dc_Ratio_neg pm_Ratio_neg cd_Ratio_neg ct_Ratio_neg : Value} {f_Ratio_abs : Addr} {od_Ratio_abs an_Ratio_abs : Option Addr} {sl_Ratio_abs : Array (Option Value)} {oc_Ratio_abs kV_Ratio_abs dc_Ratio_abs pm_Ratio_abs cd_Ratio_abs ct_Ratio_abs : Value} {f_Ratio_add : Addr} {od_Ratio_add an_Ratio_add : Option Addr} {sl_Ratio_add : Array (Option Value)} {oc_Ratio_add kV_Ratio_add dc_Ratio_add pm_Ratio_add cd_Ratio_add ct_Ratio_add : Value} {f_Ratio_radd : Addr} {od_Ratio_radd an_Ratio_radd : Option Addr} {sl_Ratio_radd : Array (Option Value)} {oc_Ratio_radd kV_Ratio_radd dc_Ratio_radd pm_Ratio_radd cd_Ratio_radd ct_Ratio_radd : Value} {f_Ratio_sub : Addr} {od_Ratio_sub an_Ratio_sub : Option Addr} {sl_Ratio_sub : Array (Option Value)} {oc_Ratio_sub kV_Ratio_sub dc_Ratio_sub pm_Ratio_sub cd_Ratio_sub ct_Ratio_sub : Value} {f_Ratio_rsub : Addr} {od_Ratio_rsub an_Ratio_rsub : Option Addr} {sl_Ratio_rsub : Array (Option Value)} {oc_Ratio_rsub kV_Ratio_rsub dc_Ratio_rsub pm_Ratio_rsub cd_Ratio_rsub ct_Ratio_rsub : Value} {f_Ratio_mul : Addr} {od_Ratio_mul an_Ratio_mul : Option Addr} {sl_Ratio_mul : Array (Option Value)} {oc_Ratio_mul kV_Ratio_mul dc_Ratio_mul pm_Ratio_mul cd_Ratio_mul ct_Ratio_mul : Value} {f_Ratio_rmul : Addr} {od_Ratio_rmul an_Ratio_rmul : Option Addr} {sl_Ratio_rmul : Array (Option Value)} {oc_Ratio_rmul kV_Ratio_rmul dc_Ratio_rmul pm_Ratio_rmul cd_Ratio_rmul ct_Ratio_rmul : Value} {f_Lcell : Addr} {od_Lcell an_Lcell : Option Addr} {sl_Lcell : Array (Option Value)} {oc_Lcell kV_Lcell dc_Lcell pm_Lcell cd_Lcell ct_Lcell : Value} {f_Lpool : Addr} {od_Lpool an_Lpool : Option Addr} {sl_Lpool : Array (Option Value)} {oc_Lpool kV_Lpool dc_Lpool pm_Lpool cd_Lpool ct_Lpool : Value} {f_Ltake : Addr} {od_Ltake an_Ltake : Option Addr} {sl_Ltake : Array (Option Value)} {oc_Ltake kV_Ltake dc_Ltake pm_Ltake cd_Ltake ct_Ltake : Value} {f_Lnumber : Addr} {od_Lnumber an_Lnumber : Option Addr} {sl_Lnumber : Array (Option Value)} {oc_Lnumber kV_Lnumber dc_Lnumber pm_Lnumber cd_Lnumber ct_Lnumber : Value} {f_Ldivisor : Addr} {od_Ldivisor an_Ldivisor : Option Addr} {sl_Ldivisor : Array (Option Value)} {oc_Ldivisor kV_Ldivisor dc_Ldivisor pm_Ldivisor cd_Ldivisor ct_Ldivisor : Value} {f_Lshort : Addr} {od_Lshort an_Lshort : Option Addr} {sl_Lshort : Array (Option Value)} {oc_Lshort kV_Lshort dc_Lshort pm_Lshort cd_Lshort ct_Lshort : Value} {f_Lbelow : Addr} {od_Lbelow an_Lbelow : Option Addr} {sl_Lbelow : Array (Option Value)} {oc_Lbelow kV_Lbelow dc_Lbelow pm_Lbelow cd_Lbelow ct_Lbelow : Value} {f_Lwhole : Addr} {od_Lwhole an_Lwhole : Option Addr} {sl_Lwhole : Array (Option Value)} {oc_Lwhole kV_Lwhole dc_Lwhole pm_Lwhole cd_Lwhole ct_Lwhole : Value} {f_Lis : Addr} {od_Lis an_Lis : Option Addr} {sl_Lis : Array (Option Value)} {oc_Lis kV_Lis dc_Lis pm_Lis cd_Lis ct_Lis : Value} {f_law : Addr} {od_law an_law : Option Addr} {sl_law : Array (Option Value)} {oc_law kV_law dc_law pm_law cd_law ct_law : Value}
    (X : K.In h) (G : h.Ns mainGlobals mg) (hfa : mg "law" = some (.ref fa))
    (g_Ratio : PySem.W.nsIn K mainGlobals "Ratio" = some (some (.ref C_Ratio)))
    (pg_Ratio : PySem.W.plainGet K C_Ratio Str.empty = true)
    (hd_Ratio : PySem.W.hasDictIn K C_Ratio = true)
    (po_Ratio : PySem.W.plainOver K C_Ratio = true)
    (sa_Ratio : PySem.W.findIn K (.ref C_Ratio) "__setattr__" = some (some (.builtin "object.__setattr__")))
    (nf_Ratio_num : PySem.W.findIn K (.ref C_Ratio) "num" = some none)
    (nf_Ratio_den : PySem.W.findIn K (.ref C_Ratio) "den" = some none)
    (ha_Ratio : PySem.W.findIn K (.ref C_Ratio) "__class__" = some (some (.builtin "object.__class__")))
    (hn_Ratio : PySem.W.specialIn K (.builtin "object.__class__") "__get__" = some (some (.builtin "getset_descriptor.__get__")))
    (ht_Ratio : PySem.W.takesIn K (.builtin "object.__class__") = some true)
    (hm_Ratio : PySem.W.mroIn K C_Ratio (.type "object") = some true)
    (me_Ratio : PySem.W.kitOne K (.ref C_Ratio) (.ref C_Ratio) = some true)
    (g_BadRatio : PySem.W.nsIn K mainGlobals "BadRatio" = some (some (.ref C_BadRatio)))
    (x_BadRatio : PySem.W.excIn K C_BadRatio [.type "ValueError", .type "Exception", .type "BaseException", .type "object"] "ValueError.__new__" = true)
    (k_BadRatio : PySem.W.keepIn K (.ref C_BadRatio) = true)
    (b_BadRatio : PySem.W.subIn K (.ref C_BadRatio) (.type "BaseException") = some true)
    (t_BadRatio : PySem.W.typeIn K (.ref C_BadRatio) = some (.type "type"))
    (ic_BadRatio : PySem.W.isClsIn K C_BadRatio = true)
    (s_BadRatio : PySem.W.subIn K (.ref C_BadRatio) (.ref C_BadRatio) = some true)
    (sf_Ratio : PySem.W.selfFirst K C_Ratio = true)
    (su_Ratio : PySem.W.subIn K (.type "int") (.ref C_Ratio) = some false)
    (us_Ratio : PySem.W.subIn K (.ref C_Ratio) (.type "int") = some false)
    (fi0_add : PySem.W.findIn K (.type "int") "__add__" = some (some (.builtin "int.__add__")))
    (fr0_add : PySem.W.findIn K (.type "int") "__radd__" = some (some (.builtin "int.__radd__")))
    (fi0_mul : PySem.W.findIn K (.type "int") "__mul__" = some (some (.builtin "int.__mul__")))
    (fr0_mul : PySem.W.findIn K (.type "int") "__rmul__" = some (some (.builtin "int.__rmul__")))
    (fi0_sub : PySem.W.findIn K (.type "int") "__sub__" = some (some (.builtin "int.__sub__")))
    (fr0_sub : PySem.W.findIn K (.type "int") "__rsub__" = some (some (.builtin "int.__rsub__")))
    (n_isinstance : PySem.W.nsIn K mainGlobals "isinstance" = some none)
    (n_abs : PySem.W.nsIn K mainGlobals "abs" = some none)
    (n_len : PySem.W.nsIn K mainGlobals "len" = some none)
    (n_int : PySem.W.nsIn K mainGlobals "int" = some none)
    (n_range : PySem.W.nsIn K mainGlobals "range" = some none)
    (n_bool : PySem.W.nsIn K mainGlobals "bool" = some none)
    (gi_gcd : PySem.W.nsIn K mainGlobals "gcd" = some (some (.builtin "math.gcd")))
    (ki_int : PySem.W.kitOne K (.type "int") (.ref C_Ratio) = some false)
    (mk_Ratio : PySem.W.makesIn K C_Ratio = true)
    (mkk_Ratio : PySem.W.keepIn K (.ref C_Ratio) = true)
    (a_Ratio_init : PySem.W.findIn K (.ref C_Ratio) "__init__" = some (some (.ref f_Ratio_init)))
    (j_Ratio_init : PySem.W.isFn K (.ref f_Ratio_init) = true)
    (l_Ratio_init : K.lookup f_Ratio_init = some ⟨oc_Ratio_init, od_Ratio_init, .func (PySem.W.fnOf "__init__" "Ratio.__init__" (defArgs s_Ratio_init) (defBody s_Ratio_init) (defScope s_Ratio_init) .none kV_Ratio_init dc_Ratio_init pm_Ratio_init an_Ratio_init cd_Ratio_init ct_Ratio_init), sl_Ratio_init⟩)
    (q_Ratio_init : PySem.W.codeIn K cd_Ratio_init "Ratio.__init__" = true)
    (k_Ratio_init : PySem.W.keepIn K (.ref f_Ratio_init) = true)
    (a_uratio_of : PySem.W.nsIn K mainGlobals "_ratio_of" = some (some (.ref f_uratio_of)))
    (l_uratio_of : K.lookup f_uratio_of = some ⟨oc_uratio_of, od_uratio_of, .func (PySem.W.fnOf "_ratio_of" "_ratio_of" (defArgs s_uratio_of) (defBody s_uratio_of) (defScope s_uratio_of) .none kV_uratio_of dc_uratio_of pm_uratio_of an_uratio_of cd_uratio_of ct_uratio_of), sl_uratio_of⟩)
    (q_uratio_of : PySem.W.codeIn K cd_uratio_of "_ratio_of" = true)
    (k_uratio_of : PySem.W.keepIn K (.ref f_uratio_of) = true)
    (a_Ratio_neg : PySem.W.findIn K (.ref C_Ratio) "__neg__" = some (some (.ref f_Ratio_neg)))
    (j_Ratio_neg : PySem.W.isFn K (.ref f_Ratio_neg) = true)
    (l_Ratio_neg : K.lookup f_Ratio_neg = some ⟨oc_Ratio_neg, od_Ratio_neg, .func (PySem.W.fnOf "__neg__" "Ratio.__neg__" (defArgs s_Ratio_neg) (defBody s_Ratio_neg) (defScope s_Ratio_neg) .none kV_Ratio_neg dc_Ratio_neg pm_Ratio_neg an_Ratio_neg cd_Ratio_neg ct_Ratio_neg), sl_Ratio_neg⟩)
    (q_Ratio_neg : PySem.W.codeIn K cd_Ratio_neg "Ratio.__neg__" = true)
    (k_Ratio_neg : PySem.W.keepIn K (.ref f_Ratio_neg) = true)
    (a_Ratio_abs : PySem.W.findIn K (.ref C_Ratio) "__abs__" = some (some (.ref f_Ratio_abs)))
    (j_Ratio_abs : PySem.W.isFn K (.ref f_Ratio_abs) = true)
    (l_Ratio_abs : K.lookup f_Ratio_abs = some ⟨oc_Ratio_abs, od_Ratio_abs, .func (PySem.W.fnOf "__abs__" "Ratio.__abs__" (defArgs s_Ratio_abs) (defBody s_Ratio_abs) (defScope s_Ratio_abs) .none kV_Ratio_abs dc_Ratio_abs pm_Ratio_abs an_Ratio_abs cd_Ratio_abs ct_Ratio_abs), sl_Ratio_abs⟩)
    (q_Ratio_abs : PySem.W.codeIn K cd_Ratio_abs "Ratio.__abs__" = true)
    (k_Ratio_abs : PySem.W.keepIn K (.ref f_Ratio_abs) = true)
    (a_Ratio_add : PySem.W.findIn K (.ref C_Ratio) "__add__" = some (some (.ref f_Ratio_add)))
    (j_Ratio_add : PySem.W.isFn K (.ref f_Ratio_add) = true)
    (l_Ratio_add : K.lookup f_Ratio_add = some ⟨oc_Ratio_add, od_Ratio_add, .func (PySem.W.fnOf "__add__" "Ratio.__add__" (defArgs s_Ratio_add) (defBody s_Ratio_add) (defScope s_Ratio_add) .none kV_Ratio_add dc_Ratio_add pm_Ratio_add an_Ratio_add cd_Ratio_add ct_Ratio_add), sl_Ratio_add⟩)
    (q_Ratio_add : PySem.W.codeIn K cd_Ratio_add "Ratio.__add__" = true)
    (k_Ratio_add : PySem.W.keepIn K (.ref f_Ratio_add) = true)
    (a_Ratio_radd : PySem.W.findIn K (.ref C_Ratio) "__radd__" = some (some (.ref f_Ratio_radd)))
    (j_Ratio_radd : PySem.W.isFn K (.ref f_Ratio_radd) = true)
    (l_Ratio_radd : K.lookup f_Ratio_radd = some ⟨oc_Ratio_radd, od_Ratio_radd, .func (PySem.W.fnOf "__radd__" "Ratio.__radd__" (defArgs s_Ratio_radd) (defBody s_Ratio_radd) (defScope s_Ratio_radd) .none kV_Ratio_radd dc_Ratio_radd pm_Ratio_radd an_Ratio_radd cd_Ratio_radd ct_Ratio_radd), sl_Ratio_radd⟩)
    (q_Ratio_radd : PySem.W.codeIn K cd_Ratio_radd "Ratio.__radd__" = true)
    (k_Ratio_radd : PySem.W.keepIn K (.ref f_Ratio_radd) = true)
    (a_Ratio_sub : PySem.W.findIn K (.ref C_Ratio) "__sub__" = some (some (.ref f_Ratio_sub)))
    (j_Ratio_sub : PySem.W.isFn K (.ref f_Ratio_sub) = true)
    (l_Ratio_sub : K.lookup f_Ratio_sub = some ⟨oc_Ratio_sub, od_Ratio_sub, .func (PySem.W.fnOf "__sub__" "Ratio.__sub__" (defArgs s_Ratio_sub) (defBody s_Ratio_sub) (defScope s_Ratio_sub) .none kV_Ratio_sub dc_Ratio_sub pm_Ratio_sub an_Ratio_sub cd_Ratio_sub ct_Ratio_sub), sl_Ratio_sub⟩)
    (q_Ratio_sub : PySem.W.codeIn K cd_Ratio_sub "Ratio.__sub__" = true)
    (k_Ratio_sub : PySem.W.keepIn K (.ref f_Ratio_sub) = true)
    (a_Ratio_rsub : PySem.W.findIn K (.ref C_Ratio) "__rsub__" = some (some (.ref f_Ratio_rsub)))
    (j_Ratio_rsub : PySem.W.isFn K (.ref f_Ratio_rsub) = true)
    (l_Ratio_rsub : K.lookup f_Ratio_rsub = some ⟨oc_Ratio_rsub, od_Ratio_rsub, .func (PySem.W.fnOf "__rsub__" "Ratio.__rsub__" (defArgs s_Ratio_rsub) (defBody s_Ratio_rsub) (defScope s_Ratio_rsub) .none kV_Ratio_rsub dc_Ratio_rsub pm_Ratio_rsub an_Ratio_rsub cd_Ratio_rsub ct_Ratio_rsub), sl_Ratio_rsub⟩)
    (q_Ratio_rsub : PySem.W.codeIn K cd_Ratio_rsub "Ratio.__rsub__" = true)
    (k_Ratio_rsub : PySem.W.keepIn K (.ref f_Ratio_rsub) = true)
    (a_Ratio_mul : PySem.W.findIn K (.ref C_Ratio) "__mul__" = some (some (.ref f_Ratio_mul)))
    (j_Ratio_mul : PySem.W.isFn K (.ref f_Ratio_mul) = true)
    (l_Ratio_mul : K.lookup f_Ratio_mul = some ⟨oc_Ratio_mul, od_Ratio_mul, .func (PySem.W.fnOf "__mul__" "Ratio.__mul__" (defArgs s_Ratio_mul) (defBody s_Ratio_mul) (defScope s_Ratio_mul) .none kV_Ratio_mul dc_Ratio_mul pm_Ratio_mul an_Ratio_mul cd_Ratio_mul ct_Ratio_mul), sl_Ratio_mul⟩)
    (q_Ratio_mul : PySem.W.codeIn K cd_Ratio_mul "Ratio.__mul__" = true)
    (k_Ratio_mul : PySem.W.keepIn K (.ref f_Ratio_mul) = true)
    (a_Ratio_rmul : PySem.W.findIn K (.ref C_Ratio) "__rmul__" = some (some (.ref f_Ratio_rmul)))
    (j_Ratio_rmul : PySem.W.isFn K (.ref f_Ratio_rmul) = true)
    (l_Ratio_rmul : K.lookup f_Ratio_rmul = some ⟨oc_Ratio_rmul, od_Ratio_rmul, .func (PySem.W.fnOf "__rmul__" "Ratio.__rmul__" (defArgs s_Ratio_rmul) (defBody s_Ratio_rmul) (defScope s_Ratio_rmul) .none kV_Ratio_rmul dc_Ratio_rmul pm_Ratio_rmul an_Ratio_rmul cd_Ratio_rmul ct_Ratio_rmul), sl_Ratio_rmul⟩)
    (q_Ratio_rmul : PySem.W.codeIn K cd_Ratio_rmul "Ratio.__rmul__" = true)
    (k_Ratio_rmul : PySem.W.keepIn K (.ref f_Ratio_rmul) = true)
    (a_Lcell : PySem.W.nsIn K mainGlobals "_law_cell" = some (some (.ref f_Lcell)))
    (l_Lcell : K.lookup f_Lcell = some ⟨oc_Lcell, od_Lcell, .func (PySem.W.fnOf "_law_cell" "_law_cell" (defArgs s_Lcell) (defBody s_Lcell) (defScope s_Lcell) .none kV_Lcell dc_Lcell pm_Lcell an_Lcell cd_Lcell ct_Lcell), sl_Lcell⟩)
    (q_Lcell : PySem.W.codeIn K cd_Lcell "_law_cell" = true)
    (k_Lcell : PySem.W.keepIn K (.ref f_Lcell) = true)
    (a_Lpool : PySem.W.nsIn K mainGlobals "_law_pool" = some (some (.ref f_Lpool)))
    (l_Lpool : K.lookup f_Lpool = some ⟨oc_Lpool, od_Lpool, .func (PySem.W.fnOf "_law_pool" "_law_pool" (defArgs s_Lpool) (defBody s_Lpool) (defScope s_Lpool) .none kV_Lpool dc_Lpool pm_Lpool an_Lpool cd_Lpool ct_Lpool), sl_Lpool⟩)
    (q_Lpool : PySem.W.codeIn K cd_Lpool "_law_pool" = true)
    (k_Lpool : PySem.W.keepIn K (.ref f_Lpool) = true)
    (a_Ltake : PySem.W.nsIn K mainGlobals "_law_take" = some (some (.ref f_Ltake)))
    (l_Ltake : K.lookup f_Ltake = some ⟨oc_Ltake, od_Ltake, .func (PySem.W.fnOf "_law_take" "_law_take" (defArgs s_Ltake) (defBody s_Ltake) (defScope s_Ltake) .none kV_Ltake dc_Ltake pm_Ltake an_Ltake cd_Ltake ct_Ltake), sl_Ltake⟩)
    (q_Ltake : PySem.W.codeIn K cd_Ltake "_law_take" = true)
    (k_Ltake : PySem.W.keepIn K (.ref f_Ltake) = true)
    (a_Lnumber : PySem.W.nsIn K mainGlobals "_law_number" = some (some (.ref f_Lnumber)))
    (l_Lnumber : K.lookup f_Lnumber = some ⟨oc_Lnumber, od_Lnumber, .func (PySem.W.fnOf "_law_number" "_law_number" (defArgs s_Lnumber) (defBody s_Lnumber) (defScope s_Lnumber) .none kV_Lnumber dc_Lnumber pm_Lnumber an_Lnumber cd_Lnumber ct_Lnumber), sl_Lnumber⟩)
    (q_Lnumber : PySem.W.codeIn K cd_Lnumber "_law_number" = true)
    (k_Lnumber : PySem.W.keepIn K (.ref f_Lnumber) = true)
    (a_Ldivisor : PySem.W.nsIn K mainGlobals "_law_divisor" = some (some (.ref f_Ldivisor)))
    (l_Ldivisor : K.lookup f_Ldivisor = some ⟨oc_Ldivisor, od_Ldivisor, .func (PySem.W.fnOf "_law_divisor" "_law_divisor" (defArgs s_Ldivisor) (defBody s_Ldivisor) (defScope s_Ldivisor) .none kV_Ldivisor dc_Ldivisor pm_Ldivisor an_Ldivisor cd_Ldivisor ct_Ldivisor), sl_Ldivisor⟩)
    (q_Ldivisor : PySem.W.codeIn K cd_Ldivisor "_law_divisor" = true)
    (k_Ldivisor : PySem.W.keepIn K (.ref f_Ldivisor) = true)
    (a_Lshort : PySem.W.nsIn K mainGlobals "_law_short" = some (some (.ref f_Lshort)))
    (l_Lshort : K.lookup f_Lshort = some ⟨oc_Lshort, od_Lshort, .func (PySem.W.fnOf "_law_short" "_law_short" (defArgs s_Lshort) (defBody s_Lshort) (defScope s_Lshort) .none kV_Lshort dc_Lshort pm_Lshort an_Lshort cd_Lshort ct_Lshort), sl_Lshort⟩)
    (q_Lshort : PySem.W.codeIn K cd_Lshort "_law_short" = true)
    (k_Lshort : PySem.W.keepIn K (.ref f_Lshort) = true)
    (a_Lbelow : PySem.W.nsIn K mainGlobals "_law_below" = some (some (.ref f_Lbelow)))
    (l_Lbelow : K.lookup f_Lbelow = some ⟨oc_Lbelow, od_Lbelow, .func (PySem.W.fnOf "_law_below" "_law_below" (defArgs s_Lbelow) (defBody s_Lbelow) (defScope s_Lbelow) .none kV_Lbelow dc_Lbelow pm_Lbelow an_Lbelow cd_Lbelow ct_Lbelow), sl_Lbelow⟩)
    (q_Lbelow : PySem.W.codeIn K cd_Lbelow "_law_below" = true)
    (k_Lbelow : PySem.W.keepIn K (.ref f_Lbelow) = true)
    (a_Lwhole : PySem.W.nsIn K mainGlobals "_law_whole" = some (some (.ref f_Lwhole)))
    (l_Lwhole : K.lookup f_Lwhole = some ⟨oc_Lwhole, od_Lwhole, .func (PySem.W.fnOf "_law_whole" "_law_whole" (defArgs s_Lwhole) (defBody s_Lwhole) (defScope s_Lwhole) .none kV_Lwhole dc_Lwhole pm_Lwhole an_Lwhole cd_Lwhole ct_Lwhole), sl_Lwhole⟩)
    (q_Lwhole : PySem.W.codeIn K cd_Lwhole "_law_whole" = true)
    (k_Lwhole : PySem.W.keepIn K (.ref f_Lwhole) = true)
    (a_Lis : PySem.W.nsIn K mainGlobals "_law_is" = some (some (.ref f_Lis)))
    (l_Lis : K.lookup f_Lis = some ⟨oc_Lis, od_Lis, .func (PySem.W.fnOf "_law_is" "_law_is" (defArgs s_Lis) (defBody s_Lis) (defScope s_Lis) .none kV_Lis dc_Lis pm_Lis an_Lis cd_Lis ct_Lis), sl_Lis⟩)
    (q_Lis : PySem.W.codeIn K cd_Lis "_law_is" = true)
    (k_Lis : PySem.W.keepIn K (.ref f_Lis) = true)
    (a_law : PySem.W.nsIn K mainGlobals "law" = some (some (.ref f_law)))
    (l_law : K.lookup f_law = some ⟨oc_law, od_law, .func (PySem.W.fnOf "law" "law" (defArgs s_law) (defBody s_law) (defScope s_law) .none kV_law dc_law pm_law an_law cd_law ct_law), sl_law⟩)
    (q_law : PySem.W.codeIn K cd_law "law" = true)
    (k_law : PySem.W.keepIn K (.ref f_law) = true) :
    ∃ fd : FuncData, (∀ (s : Shared) (v : Value), BindsTo s fd ⟨[v], []⟩ [("_law_script", v)]) ∧ ∀ base : Heap, K.In base → base.Ns mainGlobals mg → FnOk l.prog w K mg base CX0 6 fa fd ["_law_script"] (sp_law K) := by
  have e := hfa.symm.trans (PySem.W.mg_of X G a_law)
  cases e
  have T : Txt K mg C_Ratio C_BadRatio := ⟨PySem.W.mg_of X G g_Ratio, ⟨pg_Ratio, hd_Ratio, po_Ratio, sa_Ratio⟩, nf_Ratio_num, nf_Ratio_den, ⟨⟨pg_Ratio, hd_Ratio, po_Ratio, sa_Ratio⟩, ha_Ratio, hn_Ratio, ht_Ratio, hm_Ratio, me_Ratio⟩, PySem.W.mg_of X G g_BadRatio, x_BadRatio, k_BadRatio, b_BadRatio, t_BadRatio, ic_BadRatio, s_BadRatio, sf_Ratio, su_Ratio, us_Ratio, ⟨_, a_Ratio_add⟩, ⟨_, a_Ratio_radd, .inr ⟨_, rfl⟩⟩, ⟨_, a_Ratio_sub⟩, ⟨_, a_Ratio_rsub, .inr ⟨_, rfl⟩⟩, ⟨_, a_Ratio_mul⟩, ⟨_, a_Ratio_rmul, .inr ⟨_, rfl⟩⟩, fi0_add, ⟨_, fi0_add⟩, fr0_add, ⟨_, fr0_add⟩, fi0_mul, ⟨_, fi0_mul⟩, fr0_mul, ⟨_, fr0_mul⟩, fi0_sub, ⟨_, fi0_sub⟩, fr0_sub, ⟨_, fr0_sub⟩, PySem.W.mg_none_of X G n_isinstance, PySem.W.mg_none_of X G n_abs, PySem.W.mg_none_of X G n_len, PySem.W.mg_none_of X G n_int, PySem.W.mg_none_of X G n_range, PySem.W.mg_none_of X G n_bool, PySem.W.mg_of X G gi_gcd, ki_int⟩
  have F_Ratio_init := fun_mk (st := s_Ratio_init) l_Ratio_init q_Ratio_init k_Ratio_init
  have b_Ratio_init := F_Ratio_init.binds (ps := ["self", "num", "den"]) fun _ _ _ _ _ _ us hl => match us, hl with | [_, _, _], _ => rfl
  have F_uratio_of := fun_mk (st := s_uratio_of) l_uratio_of q_uratio_of k_uratio_of
  have b_uratio_of := F_uratio_of.binds (ps := ["number"]) fun _ _ _ _ _ _ us hl => match us, hl with | [_], _ => rfl
  have F_Ratio_neg := fun_mk (st := s_Ratio_neg) l_Ratio_neg q_Ratio_neg k_Ratio_neg
  have b_Ratio_neg := F_Ratio_neg.binds (ps := ["self"]) fun _ _ _ _ _ _ us hl => match us, hl with | [_], _ => rfl
  have F_Ratio_abs := fun_mk (st := s_Ratio_abs) l_Ratio_abs q_Ratio_abs k_Ratio_abs
  have b_Ratio_abs := F_Ratio_abs.binds (ps := ["self"]) fun _ _ _ _ _ _ us hl => match us, hl with | [_], _ => rfl
  have F_Ratio_add := fun_mk (st := s_Ratio_add) l_Ratio_add q_Ratio_add k_Ratio_add
  have b_Ratio_add := F_Ratio_add.binds (ps := ["self", "other"]) fun _ _ _ _ _ _ us hl => match us, hl with | [_, _], _ => rfl
  have F_Ratio_radd := fun_mk (st := s_Ratio_radd) l_Ratio_radd q_Ratio_radd k_Ratio_radd
  have b_Ratio_radd := F_Ratio_radd.binds (ps := ["self", "other"]) fun _ _ _ _ _ _ us hl => match us, hl with | [_, _], _ => rfl
  have F_Ratio_sub := fun_mk (st := s_Ratio_sub) l_Ratio_sub q_Ratio_sub k_Ratio_sub
  have b_Ratio_sub := F_Ratio_sub.binds (ps := ["self", "other"]) fun _ _ _ _ _ _ us hl => match us, hl with | [_, _], _ => rfl
  have F_Ratio_rsub := fun_mk (st := s_Ratio_rsub) l_Ratio_rsub q_Ratio_rsub k_Ratio_rsub
  have b_Ratio_rsub := F_Ratio_rsub.binds (ps := ["self", "other"]) fun _ _ _ _ _ _ us hl => match us, hl with | [_, _], _ => rfl
  have F_Ratio_mul := fun_mk (st := s_Ratio_mul) l_Ratio_mul q_Ratio_mul k_Ratio_mul
  have b_Ratio_mul := F_Ratio_mul.binds (ps := ["self", "other"]) fun _ _ _ _ _ _ us hl => match us, hl with | [_, _], _ => rfl
  have F_Ratio_rmul := fun_mk (st := s_Ratio_rmul) l_Ratio_rmul q_Ratio_rmul k_Ratio_rmul
  have b_Ratio_rmul := F_Ratio_rmul.binds (ps := ["self", "other"]) fun _ _ _ _ _ _ us hl => match us, hl with | [_, _], _ => rfl
  have F_Lcell := fun_mk (st := s_Lcell) l_Lcell q_Lcell k_Lcell
  have b_Lcell := F_Lcell.binds (ps := ["_law_script", "_law_at"]) fun _ _ _ _ _ _ us hl => match us, hl with | [_, _], _ => rfl
  have F_Lpool := fun_mk (st := s_Lpool) l_Lpool q_Lpool k_Lpool
  have b_Lpool := F_Lpool.binds (ps := ["_law_cell_here"]) fun _ _ _ _ _ _ us hl => match us, hl with | [_], _ => rfl
  have F_Ltake := fun_mk (st := s_Ltake) l_Ltake q_Ltake k_Ltake
  have b_Ltake := F_Ltake.binds (ps := ["_law_pool_here", "_law_many"]) fun _ _ _ _ _ _ us hl => match us, hl with | [_, _], _ => rfl
  have F_Lnumber := fun_mk (st := s_Lnumber) l_Lnumber q_Lnumber k_Lnumber
  have b_Lnumber := F_Lnumber.binds (ps := ["_law_pool_here", "_law_blocks"]) fun _ _ _ _ _ _ us hl => match us, hl with | [_, _], _ => rfl
  have F_Ldivisor := fun_mk (st := s_Ldivisor) l_Ldivisor q_Ldivisor k_Ldivisor
  have b_Ldivisor := F_Ldivisor.binds (ps := ["_law_one", "_law_two"]) fun _ _ _ _ _ _ us hl => match us, hl with | [_, _], _ => rfl
  have F_Lshort := fun_mk (st := s_Lshort) l_Lshort q_Lshort k_Lshort
  have b_Lshort := F_Lshort.binds (ps := ["_law_pool_here"]) fun _ _ _ _ _ _ us hl => match us, hl with | [_], _ => rfl
  have F_Lbelow := fun_mk (st := s_Lbelow) l_Lbelow q_Lbelow k_Lbelow
  have b_Lbelow := F_Lbelow.binds (ps := ["_law_pool_here"]) fun _ _ _ _ _ _ us hl => match us, hl with | [_], _ => rfl
  have F_Lwhole := fun_mk (st := s_Lwhole) l_Lwhole q_Lwhole k_Lwhole
  have b_Lwhole := F_Lwhole.binds (ps := ["_law_told"]) fun _ _ _ _ _ _ us hl => match us, hl with | [_], _ => rfl
  have F_Lis := fun_mk (st := s_Lis) l_Lis q_Lis k_Lis
  have b_Lis := F_Lis.binds (ps := ["_law_told", "_law_top", "_law_bottom"]) fun _ _ _ _ _ _ us hl => match us, hl with | [_, _, _], _ => rfl
  refine ⟨PySem.W.fnOf "law" "law" (defArgs s_law) (defBody s_law) (defScope s_law) .none kV_law dc_law pm_law an_law cd_law ct_law, fun s v => .of_eq rfl, fun base _ _ => ?_⟩
  have c_Ratio := mak_mk (ok_Ratio_init (P := l.prog) (w := w) (base := base) F_Ratio_init T ) (T.g_Ratio) ⟨mk_Ratio, a_Ratio_init, j_Ratio_init, mkk_Ratio⟩ b_Ratio_init
  have c_uratio_of := cal_mk (ok_uratio_of (P := l.prog) (w := w) (base := base) F_uratio_of T c_Ratio) (PySem.W.mg_of X G a_uratio_of) k_uratio_of b_uratio_of
  have c_Ratio_neg := met_mk (ok_Ratio_neg (P := l.prog) (w := w) (base := base) F_Ratio_neg T c_Ratio) T.cl_Ratio ⟨a_Ratio_neg, j_Ratio_neg, k_Ratio_neg⟩ b_Ratio_neg
  have c_Ratio_abs := met_mk (ok_Ratio_abs (P := l.prog) (w := w) (base := base) F_Ratio_abs T c_Ratio) T.cl_Ratio ⟨a_Ratio_abs, j_Ratio_abs, k_Ratio_abs⟩ b_Ratio_abs
  have c_Ratio_add := met_mk (ok_Ratio_add (P := l.prog) (w := w) (base := base) F_Ratio_add T c_uratio_of c_Ratio) T.cl_Ratio ⟨a_Ratio_add, j_Ratio_add, k_Ratio_add⟩ b_Ratio_add
  have c_Ratio_radd := met_mk (ok_Ratio_radd (P := l.prog) (w := w) (base := base) F_Ratio_radd T c_Ratio_add) T.cl_Ratio ⟨a_Ratio_radd, j_Ratio_radd, k_Ratio_radd⟩ b_Ratio_radd
  have c_Ratio_sub := met_mk (ok_Ratio_sub (P := l.prog) (w := w) (base := base) F_Ratio_sub T c_Ratio_add c_Ratio_neg) T.cl_Ratio ⟨a_Ratio_sub, j_Ratio_sub, k_Ratio_sub⟩ b_Ratio_sub
  have c_Ratio_rsub := met_mk (ok_Ratio_rsub (P := l.prog) (w := w) (base := base) F_Ratio_rsub T c_Ratio_add c_Ratio_neg) T.cl_Ratio ⟨a_Ratio_rsub, j_Ratio_rsub, k_Ratio_rsub⟩ b_Ratio_rsub
  have c_Ratio_mul := met_mk (ok_Ratio_mul (P := l.prog) (w := w) (base := base) F_Ratio_mul T c_uratio_of c_Ratio) T.cl_Ratio ⟨a_Ratio_mul, j_Ratio_mul, k_Ratio_mul⟩ b_Ratio_mul
  have c_Ratio_rmul := met_mk (ok_Ratio_rmul (P := l.prog) (w := w) (base := base) F_Ratio_rmul T c_Ratio_mul) T.cl_Ratio ⟨a_Ratio_rmul, j_Ratio_rmul, k_Ratio_rmul⟩ b_Ratio_rmul
  have c_Lcell := cal_mk (ok_Lcell (P := l.prog) (w := w) (base := base) F_Lcell T ) (PySem.W.mg_of X G a_Lcell) k_Lcell b_Lcell
  have c_Lpool := cal_mk (ok_Lpool (P := l.prog) (w := w) (base := base) F_Lpool T ) (PySem.W.mg_of X G a_Lpool) k_Lpool b_Lpool
  have c_Ltake := cal_mk (ok_Ltake (P := l.prog) (w := w) (base := base) F_Ltake T ) (PySem.W.mg_of X G a_Ltake) k_Ltake b_Ltake
  have c_Lnumber := cal_mk (ok_Lnumber (P := l.prog) (w := w) (base := base) F_Lnumber T c_Ltake) (PySem.W.mg_of X G a_Lnumber) k_Lnumber b_Lnumber
  have c_Ldivisor := cal_mk (ok_Ldivisor (P := l.prog) (w := w) (base := base) F_Ldivisor T ) (PySem.W.mg_of X G a_Ldivisor) k_Ldivisor b_Ldivisor
  have c_Lshort := cal_mk (ok_Lshort (P := l.prog) (w := w) (base := base) F_Lshort T c_Lnumber c_Ltake) (PySem.W.mg_of X G a_Lshort) k_Lshort b_Lshort
  have c_Lbelow := cal_mk (ok_Lbelow (P := l.prog) (w := w) (base := base) F_Lbelow T c_Lshort) (PySem.W.mg_of X G a_Lbelow) k_Lbelow b_Lbelow
  have c_Lwhole := cal_mk (ok_Lwhole (P := l.prog) (w := w) (base := base) F_Lwhole T ) (PySem.W.mg_of X G a_Lwhole) k_Lwhole b_Lwhole
  have c_Lis := cal_mk (ok_Lis (P := l.prog) (w := w) (base := base) F_Lis T c_Lwhole c_Ldivisor) (PySem.W.mg_of X G a_Lis) k_Lis b_Lis
  exact ok_law (fun_mk (st := s_law) l_law q_law k_law) T c_Lshort c_Lpool c_Lcell c_Lbelow c_Ratio c_Ratio_add c_Ratio_sub c_Ratio_mul c_Ratio_radd c_Ratio_rsub c_Ratio_rmul c_Ratio_neg c_Ratio_abs c_Lis

theorem walk {l : PySem.W.OpenLaw} {q : Program} {loose : List Str} {XP : (Str → Option Value) → Heap → Prop} {YP : World → Heap → Prop} {d : DefRec} {K : Params → PySem.W.Frag} (hn : l.most = some 63) (hdf : d.params.defaults = [])
    (hY : ∀ (w : World) (h : Heap), YP w h → (K w.params).In h)
    (F : ∀ (w : World) (mg : Str → Option Value) (fa : Addr) (h : Heap), (K w.params).In h → h.Ns mainGlobals mg → mg d.name = some (.ref fa) →
      ∃ fd : FuncData, (∀ (s : Shared) (u : Value), BindsTo s fd ⟨[u], []⟩ [("_law_script", u)]) ∧ ∀ base : Heap, (K w.params).In base → base.Ns mainGlobals mg → FnOk l.prog w (K w.params) mg base CX0 6 fa fd ["_law_script"] (sp_law (K w.params))) :
    PySem.W.WalkO q loose XP YP l.row.toRowW d [] (fun f vs => PySem.call f vs) :=
  L2.walk_of (n := 63) (k := 6) (x := "_law_script") (CX := fun _ => CX0) (sp := fun w => sp_law (K w.params)) hn (by decide) hdf ⟨rfl, by decide, by decide⟩ hY F (fun _ _ a ns hl _ hS => ⟨a, ns, rfl, hS, hl, fun _ => rfl⟩) fun _ _ _ _ _ z => z
end My

open PySem PySem.W PyProof.Rows in
set_option maxRecDepth 100000 in
set_option maxHeartbeats 0 in
theorem PySem.Challenge.cw_onecable_k02_ratio_sums_holds : PySem.Challenge.rw_onecable_k02_ratio_sums.Holds := by
  w_on; o_law; k_head; (case hw => w_witness2)
  k_fill
  refine My.walk (l := PySem.Challenge.rw_onecable_k02_ratio_sums) rfl rfl (fun w h Y => PySem.W.kIn_of Y) ?F
  case F =>
    intro w mg fa h KX G hmg
    refine' My.all_mk KX G hmg ?g_Ratio ?pg_Ratio ?hd_Ratio ?po_Ratio ?sa_Ratio ?nf_Ratio_num ?nf_Ratio_den ?ha_Ratio ?hn_Ratio ?ht_Ratio ?hm_Ratio ?me_Ratio ?g_BadRatio ?x_BadRatio ?k_BadRatio ?b_BadRatio ?t_BadRatio ?ic_BadRatio ?s_BadRatio ?sf_Ratio ?su_Ratio ?us_Ratio ?fi0_add ?fr0_add ?fi0_mul ?fr0_mul ?fi0_sub ?fr0_sub ?n_isinstance ?n_abs ?n_len ?n_int ?n_range ?n_bool ?gi_gcd ?ki_int ?mk_Ratio ?mkk_Ratio ?a_Ratio_init ?j_Ratio_init ?l_Ratio_init ?q_Ratio_init ?k_Ratio_init ?a_uratio_of ?l_uratio_of ?q_uratio_of ?k_uratio_of ?a_Ratio_neg ?j_Ratio_neg ?l_Ratio_neg ?q_Ratio_neg ?k_Ratio_neg ?a_Ratio_abs ?j_Ratio_abs ?l_Ratio_abs ?q_Ratio_abs ?k_Ratio_abs ?a_Ratio_add ?j_Ratio_add ?l_Ratio_add ?q_Ratio_add ?k_Ratio_add ?a_Ratio_radd ?j_Ratio_radd ?l_Ratio_radd ?q_Ratio_radd ?k_Ratio_radd ?a_Ratio_sub ?j_Ratio_sub ?l_Ratio_sub ?q_Ratio_sub ?k_Ratio_sub ?a_Ratio_rsub ?j_Ratio_rsub ?l_Ratio_rsub ?q_Ratio_rsub ?k_Ratio_rsub ?a_Ratio_mul ?j_Ratio_mul ?l_Ratio_mul ?q_Ratio_mul ?k_Ratio_mul ?a_Ratio_rmul ?j_Ratio_rmul ?l_Ratio_rmul ?q_Ratio_rmul ?k_Ratio_rmul ?a_Lcell ?l_Lcell ?q_Lcell ?k_Lcell ?a_Lpool ?l_Lpool ?q_Lpool ?k_Lpool ?a_Ltake ?l_Ltake ?q_Ltake ?k_Ltake ?a_Lnumber ?l_Lnumber ?q_Lnumber ?k_Lnumber ?a_Ldivisor ?l_Ldivisor ?q_Ldivisor ?k_Ldivisor ?a_Lshort ?l_Lshort ?q_Lshort ?k_Lshort ?a_Lbelow ?l_Lbelow ?q_Lbelow ?k_Lbelow ?a_Lwhole ?l_Lwhole ?q_Lwhole ?k_Lwhole ?a_Lis ?l_Lis ?q_Lis ?k_Lis ?a_law ?l_law ?q_law ?k_law
    (case g_Ratio => k_is)
    (case pg_Ratio => k_is)
    (case hd_Ratio => k_is)
    (case po_Ratio => k_is)
    (case sa_Ratio => k_is)
    (case nf_Ratio_num => k_is)
    (case nf_Ratio_den => k_is)
    (case ha_Ratio => k_is)
    (case hn_Ratio => k_is)
    (case ht_Ratio => k_is)
    (case hm_Ratio => k_is)
    (case me_Ratio => kit_is)
    (case g_BadRatio => k_is)
    (case x_BadRatio => k_exc)
    (case k_BadRatio => k_is)
    (case b_BadRatio => k_is)
    (case t_BadRatio => k_is)
    (case ic_BadRatio => k_is)
    (case s_BadRatio => first | rfl | k_is)
    (case sf_Ratio => k_is)
    (case su_Ratio => k_is)
    (case us_Ratio => k_is)
    (case fi0_add => k_is)
    (case fr0_add => k_is)
    (case fi0_mul => k_is)
    (case fr0_mul => k_is)
    (case fi0_sub => k_is)
    (case fr0_sub => k_is)
    (case n_isinstance => k_is)
    (case n_abs => k_is)
    (case n_len => k_is)
    (case n_int => k_is)
    (case n_range => k_is)
    (case n_bool => k_is)
    (case gi_gcd => k_is)
    (case ki_int => kit_is)
    (case mk_Ratio => k_is)
    (case mkk_Ratio => k_is)
    (case a_Ratio_init => k_is)
    (case j_Ratio_init => k_is)
    (case l_Ratio_init => k_is)
    (case q_Ratio_init => k_is)
    (case k_Ratio_init => k_is)
    (case a_uratio_of => k_is)
    (case l_uratio_of => k_is)
    (case q_uratio_of => k_is)
    (case k_uratio_of => k_is)
    (case a_Ratio_neg => k_is)
    (case j_Ratio_neg => k_is)
    (case l_Ratio_neg => k_is)
    (case q_Ratio_neg => k_is)
    (case k_Ratio_neg => k_is)
    (case a_Ratio_abs => k_is)
    (case j_Ratio_abs => k_is)
    (case l_Ratio_abs => k_is)
    (case q_Ratio_abs => k_is)
    (case k_Ratio_abs => k_is)
    (case a_Ratio_add => k_is)
    (case j_Ratio_add => k_is)
    (case l_Ratio_add => k_is)
    (case q_Ratio_add => k_is)
    (case k_Ratio_add => k_is)
    (case a_Ratio_radd => k_is)
    (case j_Ratio_radd => k_is)
    (case l_Ratio_radd => k_is)
    (case q_Ratio_radd => k_is)
    (case k_Ratio_radd => k_is)
    (case a_Ratio_sub => k_is)
    (case j_Ratio_sub => k_is)
    (case l_Ratio_sub => k_is)
    (case q_Ratio_sub => k_is)
    (case k_Ratio_sub => k_is)
    (case a_Ratio_rsub => k_is)
    (case j_Ratio_rsub => k_is)
    (case l_Ratio_rsub => k_is)
    (case q_Ratio_rsub => k_is)
    (case k_Ratio_rsub => k_is)
    (case a_Ratio_mul => k_is)
    (case j_Ratio_mul => k_is)
    (case l_Ratio_mul => k_is)
    (case q_Ratio_mul => k_is)
    (case k_Ratio_mul => k_is)
    (case a_Ratio_rmul => k_is)
    (case j_Ratio_rmul => k_is)
    (case l_Ratio_rmul => k_is)
    (case q_Ratio_rmul => k_is)
    (case k_Ratio_rmul => k_is)
    (case a_Lcell => k_is)
    (case l_Lcell => k_is)
    (case q_Lcell => k_is)
    (case k_Lcell => k_is)
    (case a_Lpool => k_is)
    (case l_Lpool => k_is)
    (case q_Lpool => k_is)
    (case k_Lpool => k_is)
    (case a_Ltake => k_is)
    (case l_Ltake => k_is)
    (case q_Ltake => k_is)
    (case k_Ltake => k_is)
    (case a_Lnumber => k_is)
    (case l_Lnumber => k_is)
    (case q_Lnumber => k_is)
    (case k_Lnumber => k_is)
    (case a_Ldivisor => k_is)
    (case l_Ldivisor => k_is)
    (case q_Ldivisor => k_is)
    (case k_Ldivisor => k_is)
    (case a_Lshort => k_is)
    (case l_Lshort => k_is)
    (case q_Lshort => k_is)
    (case k_Lshort => k_is)
    (case a_Lbelow => k_is)
    (case l_Lbelow => k_is)
    (case q_Lbelow => k_is)
    (case k_Lbelow => k_is)
    (case a_Lwhole => k_is)
    (case l_Lwhole => k_is)
    (case q_Lwhole => k_is)
    (case k_Lwhole => k_is)
    (case a_Lis => k_is)
    (case l_Lis => k_is)
    (case q_Lis => k_is)
    (case k_Lis => k_is)
    (case a_law => k_is)
    (case l_law => k_is)
    (case q_law => k_is)
    (case k_law => k_is)

