import PyProof.Rows.All
import Wide.All
import OpenK.AllK
import Wide.FinOn
import HandS.ForMost
import HandS.Exc
import HandS.TryOnly
import HandS.ExcOwn
import HandS.WordsExc
import HandS.Wide
import HandS.Codes
import HandS.IsInst
import HandS.ExcIs
import HandS.More
import HandS.Star
import KE.RegKIsAll
import HandS.OwnEq
import PySem.Challenge.RW_onecable_k09_rule_numbers
set_option Elab.async false
set_option maxRecDepth 100000
set_option maxHeartbeats 4000000
set_option linter.all false
namespace My
open PySem PySem.Spec PyProof.Rows L2
/-! ### callables of the text: a def by its name, a method, a class -/
structure Cal (CX : CXT) (P : Program) (w : World) (K : PySem.W.Frag) (mg : Str → Option Value) (base : Heap) (k : Nat) (x : Str) (sp : Sp) : Prop where
  ex : ∃ (f : Addr) (fd : FuncData) (ps : List Str), FnOk P w K mg base CX k f fd ps sp ∧ mg x = some (.ref f) ∧ PySem.W.keepIn K (.ref f) = true ∧ Binds K fd ps []
structure Met (CX : CXT) (P : Program) (w : World) (K : PySem.W.Frag) (mg : Str → Option Value) (base : Heap) (k : Nat) (C : Addr) (m : Str) (sp : Sp) : Prop where
  ex : ∃ (f : Addr) (fd : FuncData) (ps : List Str), Cls K C ∧ Meth K C m f ∧ FnOk P w K mg base CX k f fd ps sp ∧ Binds K fd ps []
  fi : ∀ f, PySem.W.findIn K (.ref C) m = some (some (.ref f)) → PySem.W.fnIn K f = true
structure Mak (CX : CXT) (P : Program) (w : World) (K : PySem.W.Frag) (mg : Str → Option Value) (base : Heap) (k : Nat) (x : Str) (C : Addr) (sp : Sp) : Prop where
  ex : ∃ (f : Addr) (fd : FuncData) (ps : List Str), Mk K C f ∧ FnOk P w K mg base CX k f fd ps sp ∧ mg x = some (.ref C) ∧ Binds K fd ps []
section
variable {CX : CXT} {P : Program} {w : World} {K : PySem.W.Frag} {mg : Str → Option Value} {base : Heap} {k : Nat} {x m : Str} {f C : Addr} {fd : FuncData} {ps : List Str} {sp : Sp}
theorem cal_mk (F : FnOk P w K mg base CX k f fd ps sp) (m : mg x = some (.ref f)) (kp : PySem.W.keepIn K (.ref f) = true) (b : Binds K fd ps []) : Cal CX P w K mg base k x sp := ⟨f, fd, ps, F, m, kp, b⟩
theorem met_mk (F : FnOk P w K mg base CX k f fd ps sp) (c : Cls K C) (me : Meth K C m f) (b : Binds K fd ps []) (fi : PySem.W.fnIn K f = true) : Met CX P w K mg base k C m sp := ⟨⟨f, fd, ps, c, me, F, b⟩, fun g h => by
  have z := me.at_.symm.trans h
  cases z
  exact fi⟩
theorem fn_in {oc : Value} {od : Option Addr} {fdx : FuncData} {sl : Array (Option Value)} (l : K.lookup f = some ⟨oc, od, .func fdx, sl⟩) : PySem.W.fnIn K f = true := by
  unfold PySem.W.fnIn
  rw [l]
theorem mak_mk (F : FnOk P w K mg base CX k f fd ps sp) (m : mg x = some (.ref C)) (M : Mk K C f) (b : Binds K fd ps []) : Mak CX P w K mg base k x C sp := ⟨f, fd, ps, M, F, m, b⟩
end
section
variable {X : Cx} {CX : CXT} {k j : Nat} {C : Addr} {x m : Str} {sp : Sp} {E : XK} {p pos apos : Pos} {e o : Expr} {es : List Expr} {ta : TE} {t : TA}
theorem pc_c (c : Cal CX X.prog X.w X.K X.mg X.base k x sp) (hr : Room j X.A) (hk : k ≤ j) (hg : Gl X x) (hx : Passes CX X E) (ha : PA X (e :: es) t)
    (hdb : (x == ("__debug__" : Str)) = false := by decide) (he : starEach (e :: es) X.env = (false, eval e X.env) :: starEach es X.env := by rfl) (hpl : (backTo pos (starEach es X.env)).any (·.1) = false := by rfl) :
    PE X (.Call (.Name x p) (e :: es) [] pos) (tCall sp [] E t) := by
  obtain ⟨f, fd, ps, F, hm, kp, b⟩ := c.ex
  exact pe_call F (hr.mono hk) hg hm kp b .nil hx ha hdb he hpl
theorem pc_cS {E : L2.St → XK} (c : Cal CX X.prog X.w X.K X.mg X.base k x sp) (hr : Room j X.A) (hk : k ≤ j) (hg : Gl X x) (hx : ∀ σ, PassesAt CX X σ (E σ)) (ha : PA X (e :: es) t)
    (hdb : (x == ("__debug__" : Str)) = false := by decide) (he : starEach (e :: es) X.env = (false, eval e X.env) :: starEach es X.env := by rfl) (hpl : (backTo pos (starEach es X.env)).any (·.1) = false := by rfl) :
    PE X (.Call (.Name x p) (e :: es) [] pos) (tCallS sp E t) := by
  obtain ⟨f, fd, ps, F, hm, kp, b⟩ := c.ex
  exact pe_callS F (hr.mono hk) hg hm kp b hx ha hdb he hpl
theorem pc_mk (c : Mak CX X.prog X.w X.K X.mg X.base k x C sp) (hr : Room j X.A) (hk : k + 1 ≤ j) (hg : Gl X x) (hx : Passes CX X E) (ha : PA X (e :: es) t)
    (hdb : (x == ("__debug__" : Str)) = false := by decide) (he : starEach (e :: es) X.env = (false, eval e X.env) :: starEach es X.env := by rfl) (hpl : (backTo pos (starEach es X.env)).any (·.1) = false := by rfl) :
    PE X (.Call (.Name x p) (e :: es) [] pos) (tMake C sp [] E t) := by
  obtain ⟨f, fd, ps, M, F, hm, b⟩ := c.ex
  exact pe_make M F (hr.mono hk) hg hm b .nil hx ha hdb he hpl
/-- a class made where a try stands around: what is raised is wished for at the slots -/
def tMakeS (C : Addr) (sp : Sp) (E : L2.St → XK) (t : TA) : TE := fun σ H Q => t σ H fun vs H1 => ∀ x dx, H1 x = none → H1 dx = none → dx ≠ x →
  sp (.ref x :: (vs ++ [])) (upd (upd H1 dx (.own x)) x (.ins C dx [])) (fun v H2 => v = .non ∧ Q (.ref x) H2) (E σ)
theorem run_mkS {f : Addr} {fd : FuncData} {ps : List Str} {ds : List Value} {dvs : List V} {pins : List (Addr × Obj)} {σ : L2.St} {H : Hp} {s : Shared} {Q : VK} {us : List Value} {vs : List V} (M : Mk X.K C f) (F : FnOk X.prog X.w X.K X.mg X.base CX k f fd ps sp) (hr : Room (k + 1) X.A) (hb : Binds X.K fd ps ds) (hd : Vals dvs ds)
    (hx : PassesAt CX X σ E) (I : Inv X pins σ H s) (r : Vals vs us)
    (h : ∀ x dx, H x = none → H dx = none → dx ≠ x → sp (.ref x :: (vs ++ dvs)) (upd (upd H dx (.own x)) x (.ins C dx [])) (fun v H2 => v = .non ∧ Q (.ref x) H2) E) :
    wpAny (model X.prog X.w) X.A (call (.ref C) us) (EP X pins σ Q) X.xe s := by
  have hq := h (s.heap.objs.size + 1) s.heap.objs.size (I.hok.fresh (Nat.le_succ _)) (I.hok.fresh (Nat.le_refl _)) (Nat.ne_of_lt (Nat.lt_succ_self _))
  have I2 := Inv.made (C := C) I
  have r2 : Vals (V.ref (s.heap.objs.size + 1) :: (vs ++ dvs)) (Value.ref (s.heap.objs.size + 1) :: (us ++ ds)) := .cons rfl (r.append hd)
  have hl : (Value.ref (s.heap.objs.size + 1) :: us ++ ds).length = ps.length := by
    have e := r2.length
    rw [F.len _ _ _ _ hq] at e
    exact e.symm
  refine wpAny_call (make_map (f := f) I.kIn M.makes M.init (beq_iff_eq.mp M.fn) (codeAny_mono (F.run _ X.stack _ _ ⟨Value.ref (s.heap.objs.size + 1) :: us, []⟩ (Value.ref (s.heap.objs.size + 1) :: (us ++ ds)) _ _ E (hr.make C us [])
    (I2.env0.make C us []) (hb _ (Value.ref (s.heap.objs.size + 1) :: us) I2.kIn hl) r2 hq) fun r s' hq' => ?_))
  cases r with
  | error e => exact hx pins _ _ e s' I2 hq'
  | ok fl =>
    cases fl with
    | ret u =>
      obtain ⟨v, H', I3, rv, ev, q3⟩ := I2.after hq'
      subst ev
      exact ⟨rv, ⟨V.ref (s.heap.objs.size + 1), H', I3, rfl, q3⟩⟩
    | next => exact False.elim hq'
    | brk => exact False.elim hq'
    | cont => exact False.elim hq'
theorem pc_mkS {E : L2.St → XK} (c : Mak CX X.prog X.w X.K X.mg X.base k x C sp) (hr : Room j X.A) (hk : k + 1 ≤ j) (hg : Gl X x) (hx : ∀ σ, PassesAt CX X σ (E σ)) (ha : PA X (e :: es) t)
    (hdb : (x == ("__debug__" : Str)) = false := by decide) (he : starEach (e :: es) X.env = (false, eval e X.env) :: starEach es X.env := by rfl) (hpl : (backTo pos (starEach es X.env)).any (·.1) = false := by rfl) :
    PE X (.Call (.Name x p) (e :: es) [] pos) (tMakeS C sp E t) := by
  obtain ⟨f, fd, ps, M, F, hm, b⟩ := c.ex
  refine ⟨fun pins s σ H Q I h => ?_⟩
  refine wpAny_Call_Name_kw (ld_glob I hg hm ?_ hdb)
  refine PySem.W.callWith_K (h₀ := X.base) I.ok.mod.kin M.kp (thn (ha.run pos pins s σ H _ I h) fun us s1 ⟨vs, H1, I1, r, q⟩ => ⟨I1.kIn, ?_⟩) he hpl
  exact run_mkS M F (hr.mono hk) b .nil (hx σ) I1 r q
theorem pc_mt {pl : Sem Bool} (c : Met CX X.prog X.w X.K X.mg X.base k C m sp) (hr : Room j X.A) (hk : k ≤ j) (hx : Passes CX X E) (he : PE X o ta) (ha : PA X (e :: es) t)
    (hst : starEach (e :: es) X.env = (false, eval e X.env) :: starEach es X.env := by rfl) (hpl : (backTo pos (starEach es X.env)).any (·.1) = false := by rfl)
    (ht : eval (.Call (.Attribute o m apos) (e :: es) [] pos) X.env = (do
      let ov ← eval o X.env
      standAt apos.atName
      let (f, first) ← holding [ov] (getMethod ov m pl)
      callWith pos f first (backTo pos (starEach (e :: es) X.env)) (backToKw pos (keywordEach [] X.env))) := by rfl) :
    PE X (.Call (.Attribute o m apos) (e :: es) [] pos) (tMeth C m sp [] E ta t) := by
  obtain ⟨f, fd, ps, hc, hm, F, b⟩ := c.ex
  exact pe_meth (pl := pl) he hc hm F (hr.mono hk) b .nil hx ha hst hpl ht
theorem pc_mt0 {pl : Sem Bool} (c : Met CX X.prog X.w X.K X.mg X.base k C m sp) (hr : Room j X.A) (hk : k ≤ j) (hx : Passes CX X E) (he : PE X o ta)
    (ht : eval (.Call (.Attribute o m apos) [] [] pos) X.env = (do
      let ov ← eval o X.env
      standAt apos.atName
      let (f, first) ← holding [ov] (getMethod ov m pl)
      callWith pos f first (backTo pos (starEach [] X.env)) (backToKw pos (keywordEach [] X.env))) := by rfl) :
    PE X (.Call (.Attribute o m apos) [] [] pos) (tMeth C m sp [] E ta tNil) := by
  obtain ⟨f, fd, ps, hc, hm, F, b⟩ := c.ex
  exact pe_meth0 (pl := pl) he hc hm F (hr.mono hk) b .nil hx ht
/-! ### further operators -/
/-- * : one factor small, or both below a million bits together -/
def CMulA (i j : Int) : Prop := CMul i j ∨ CMulW i j
theorem op_mulA : OpR X (binaryOp .Mult) (rI CMulA fun i j => .int (i * j)) := opI fun _ _ _ _ _ _ _ hc q => mul_int q (hc.elim CMul.ok CMulW.ok)
/-- // by any divisor but 0 that is no giant -/
def CDivA (_ j : Int) : Prop := j ≠ 0 ∧ j.natAbs.log2 < 9000
theorem op_fdivA : OpR X (binaryOp .FloorDiv) (rI CDivA fun i j => .int (i.fdiv j)) := opI fun _ _ _ _ _ _ _ hc q => floordiv_int hc.1 q (.inl (PyProof.noPylong_of_log2 hc.2))
theorem divA {i j : Int} {b : Nat} (h : j ≠ 0) (hb : j.natAbs < 2 ^ b) (h0 : 0 < b) (h9 : b ≤ 9000) : CDivA i j := ⟨h, Nat.lt_of_lt_of_le (PySem.Flt.log2_lt_of h0 hb) h9⟩
end
/-! ### heaps: all but what stands at p is kept -/
def Kp (p : Addr) (H H' : Hp) : Prop := ∀ b o, b ≠ p → H b = some o → H' b = some o
theorem Kp.refl {p : Addr} {H : Hp} : Kp p H H := fun _ _ _ h => h
theorem Kp.trans {p : Addr} {H H1 H2 : Hp} (a : Kp p H H1) (b : Kp p H1 H2) : Kp p H H2 := fun c o n h => b c o n (a c o n h)
theorem Kp.upd {p : Addr} {H : Hp} {o : HO} : Kp p H (upd H p o) := fun _ _ n h => by rw [upd_ne n]; exact h
theorem Kp.same {p : Addr} {H0 H H' : Hp} (s : Same H0 H) (k : Kp p H H') (n : H0 p = none) : Same H0 H' := fun b o h => k b o (fun e => by rw [e, n] at h; cases h) (s b o h)
theorem same_upd {H : Hp} {p : Addr} {o : HO} (n : H p = none) : Same H (upd H p o) := fun b u h => by rw [upd_ne (ne_of_none h n)]; exact h
theorem Same.of (H : Hp) : Same H H := fun _ _ h => h
/-- isinstance(e, c), e the exception that the suite holds; its class and its dict are told in the reading -/
theorem call_isE2 {X : Cx} {a D : Addr} {oe : Obj} {cls : Value} {d : Option Addr} {pn : List (Addr × Obj)} (C : ExcC X.K D) (hz : Zc cls d oe) (hf : ∃ vs, oe.data = .fields vs) :
    CallR (X.suite a ((a, oe) :: pn)) (.builtin "isinstance") (fun xs H Q => cls = .ref D ∧ d = none ∧ rIsE X.K D a xs H Q) := by
  intro pins s σ H xs us Q I r h
  obtain ⟨rfl, rfl, h⟩ := h
  exact call_isE C hz hf pins s σ H xs us Q I r h
/-- an error of the class at S is what «except S» names -/
theorem exm_self {K : PySem.W.Frag} {S : Addr} (h1 : PySem.W.subIn K (.ref S) (.type "BaseException") = some true) (h2 : PySem.W.isClsIn K S = true) (h3 : PySem.W.typeIn K (.ref S) = some (.type "type")) (h4 : PySem.W.subIn K (.ref S) (.ref S) = some true) :
    PySem.W.exmOne K (.ref S) (.ref S) = some true := by
  have e1 : (PySem.W.subIn K (.ref S) (.type "BaseException") == some true) = true := by rw [h1] <;> rfl
  have e2 : ((PySem.W.clsIn K S).isSome && PySem.W.typeIn K (.ref S) == some (.type "type")) = true := by
    have h2' : (PySem.W.clsIn K S).isSome = true := h2
    rw [h2', h3] <;> rfl
  show (if (PySem.W.subIn K (.ref S) (.type "BaseException") == some true) = true then (if ((PySem.W.clsIn K S).isSome && PySem.W.typeIn K (.ref S) == some (.type "type")) = true then PySem.W.subIn K (.ref S) (.ref S) else none) else none) = some true
  rw [if_pos e1, if_pos e2]
  exact h4
/-- x is True, x is False: whatever x is -/
theorem op_isB {X : Cx} : OpR X (compareOp .Is) (fun x y H Q => ∃ b, y = .bl b ∧ Q (.bl (decide (x = .bl b))) H) := by
  intro pins s σ H x y v u Q I rx ry h
  obtain ⟨b, rfl, q⟩ := h
  cases (show u = Value.bool b from ry)
  have fin : ∀ k : Bool, decide (x = .bl b) = k → EP X pins σ Q (.bool k) s := fun k e => ⟨.bl k, H, I, rfl, by rw [← e]; exact q⟩
  cases x with
  | non => cases (show v = Value.none from rx); exact wpAny_pure (fin _ (by simp))
  | bl c =>
    cases (show v = Value.bool c from rx)
    refine wpAny_pure (fin _ ?_)
    by_cases e : c = b
    · subst e; simp
    · simp [e]
  | int i => obtain ⟨t, e⟩ := (show ∃ t, v = Value.int i t from rx); subst e; exact wpAny_pure (fin _ (by simp))
  | str i => obtain ⟨t, e⟩ := (show ∃ t, v = Value.str i t from rx); subst e; exact wpAny_pure (fin _ (by simp))
  | byt i => obtain ⟨t, e⟩ := (show ∃ t, v = Value.bytes i t from rx); subst e; exact wpAny_pure (fin _ (by simp))
  | flt i => obtain ⟨t, e⟩ := (show ∃ t, v = Value.float i t from rx); subst e; exact wpAny_pure (fin _ (by simp))
  | ref a => cases (show v = Value.ref a from rx); exact wpAny_pure (fin _ (by simp))
  | ty n => cases (show v = Value.type n from rx); exact wpAny_pure (fin _ (by simp))
theorem iteDT {p A B : Prop} [Decidable p] (hp : p) (h : A) : if decide p = true then A else B := by
  rw [decide_eq_true hp]
  exact iteT h
theorem iteDF {p A B : Prop} [Decidable p] (hp : ¬ p) (h : B) : if decide p = true then A else B := by
  rw [decide_eq_false hp]
  exact iteF h
/-! ### operators of an own class, called by their signs -/
theorem inst_of {X : Cx} {pins : List (Addr × Obj)} {σ : L2.St} {H : Hp} {s : Shared} {a C dx : Addr} {fs : List (Str × V)} (I : Inv X pins σ H s) (h : H a = some (.ins C dx fs)) :
    ∃ (ox : Obj) (od : Option Obj), PySem.W.InstAt s.heap a ox C od ∧ ox.data = .plain := by
  obtain ⟨mA, O, _⟩ := ins_get I.hok h
  obtain ⟨od, J, _⟩ := O.look
  exact ⟨_, _, J, rfl⟩
theorem back_of {X : Cx} {pins : List (Addr × Obj)} {σ : L2.St} {Q : VK} {u : Value} {s : Shared} (h : EP X pins σ Q u s) : PySem.W.CmpBack (EP X pins σ Q) u s := by
  obtain ⟨v, H', I, r, q⟩ := id h
  cases u with
  | notImplemented =>
    cases v <;> first
      | exact (nomatch (show Value.notImplemented = _ from r))
      | (obtain ⟨t, e⟩ := (show ∃ t, Value.notImplemented = _ from r); cases e)
  | _ => exact h
/-- what the text has of an operator's method: run it on two values; A: where the call stands -/
theorem met_runA {X : Cx} {CX : CXT} {A : Around} {k j : Nat} {C : Addr} {m : Str} {sp : Sp} {E : XK} (c : Met CX X.prog X.w X.K X.mg X.base k C m sp) (hr : Room j A) (hk : k ≤ j) (hx : Passes CX X E)
    (hA : ∀ (s : Shared) (H : Hp), Env0 X.prog X.w X.K X.mg X.base X.A X.stack s H → Env0 X.prog X.w X.K X.mg X.base A X.stack s H) :
    ∃ f : Addr, PySem.W.findIn X.K (.ref C) m = some (some (.ref f)) ∧ PySem.W.isFn X.K (.ref f) = true ∧ PySem.W.keepIn X.K (.ref f) = true ∧
      ∀ (pins : List (Addr × Obj)) (s : Shared) (σ : L2.St) (H : Hp) (us : List Value) (vs : List V) (Q : VK), Inv X pins σ H s → Vals vs us → sp vs H Q E → wpAny (model X.prog X.w) A (call (.ref f) us) (EP X pins σ Q) X.xe s := by
  obtain ⟨f, fd, ps, hc, hm, F, b⟩ := c.ex
  refine ⟨f, hm.at_, hm.fn, hm.kp, fun pins s σ H us vs Q I r h => ?_⟩
  have hl : us.length = ps.length := by rw [← r.length]; exact F.len _ _ _ _ h
  have hb := b s us I.kIn (by rw [List.append_nil]; exact hl)
  rw [List.append_nil] at hb
  refine wpAny_call (codeAny_mono (F.run A X.stack s H ⟨us, []⟩ us vs Q E (hr.mono hk) (hA _ _ I.env0) hb r h) fun r s' hq => ?_)
  match r with
  | .error e => exact hx pins σ H s e s' I hq
  | .ok (.ret u) => exact I.after hq
  | .ok .next => exact False.elim hq
  | .ok .brk => exact False.elim hq
  | .ok .cont => exact False.elim hq
theorem met_run {X : Cx} {CX : CXT} {k j : Nat} {C : Addr} {m : Str} {sp : Sp} {E : XK} (c : Met CX X.prog X.w X.K X.mg X.base k C m sp) (hr : Room j X.A) (hk : k ≤ j) (hx : Passes CX X E) :
    ∃ f : Addr, PySem.W.findIn X.K (.ref C) m = some (some (.ref f)) ∧ PySem.W.isFn X.K (.ref f) = true ∧ PySem.W.keepIn X.K (.ref f) = true ∧
      ∀ (pins : List (Addr × Obj)) (s : Shared) (σ : L2.St) (H : Hp) (us : List Value) (vs : List V) (Q : VK), Inv X pins σ H s → Vals vs us → sp vs H Q E → wpAny (model X.prog X.w) X.A (call (.ref f) us) (EP X pins σ Q) X.xe s := met_runA c hr hk hx fun _ _ z => z
section
variable {X : Cx} {CX : CXT} {k j : Nat} {C : Addr} {m : Str} {sp : Sp} {E : XK}
def rOwn2 (C : Addr) (sp : Sp) (E : XK) : R2 := fun x y H Q => ∃ (a b dx dy : Addr) (fs gs : List (Str × V)), x = .ref a ∧ y = .ref b ∧ H a = some (.ins C dx fs) ∧ H b = some (.ins C dy gs) ∧ sp [x, y] H Q E
/-- x op y, both of one own class that has the method -/
theorem op_own {op : Operator} (c : Met CX X.prog X.w X.K X.mg X.base k C m sp) (hr : Room j X.A) (hk : k ≤ j) (hx : Passes CX X E) (sf : PySem.W.selfFirst X.K C = true) (hm : PySem.dunder op.info.2 = m := by decide +kernel) :
    OpR X (binaryOp op) (rOwn2 C sp E) := by
  intro pins s σ H x y v u Q I rx ry h
  obtain ⟨a, b, dx, dy, fs, gs, rfl, rfl, ha, hb, hs⟩ := h
  obtain ⟨f, hf, fn, kp, run⟩ := met_run c hr hk hx
  obtain ⟨mF, F⟩ := I.fr
  obtain ⟨ox, od, J, _⟩ := inst_of I ha
  obtain ⟨oy, oe, J2, _⟩ := inst_of I hb
  have r2 : Vals [V.ref a, V.ref b] [v, u] := .cons rx (.cons ry .nil)
  cases (show v = Value.ref a from rx)
  cases (show u = Value.ref b from ry)
  exact PySem.W.binop_K F I.ok.mod.kin J J2.type sf (by rw [hm]; exact hf) fn (wpAny_mono (run pins s σ H _ _ Q I r2 hs) (fun _ _ z => back_of z) fun _ _ z => z)
def rOwnI (C : Addr) (sp : Sp) (E : XK) : R2 := fun x y H Q => ∃ (a dx : Addr) (fs : List (Str × V)) (i : Int), x = .ref a ∧ y = .int i ∧ H a = some (.ins C dx fs) ∧ sp [x, y] H Q E
/-- x op i, i a whole number -/
theorem op_ownI {op : Operator} (c : Met CX X.prog X.w X.K X.mg X.base k C m sp) (hr : Room j X.A) (hk : k ≤ j) (hx : Passes CX X E) (sf : PySem.W.selfFirst X.K C = true)
    (hrc : ∃ rc, PySem.W.findIn X.K (.ref C) (dunderR op.info.2) = some rc ∧ (rc = none ∨ ∃ g : Addr, rc = some (.ref g)))
    (h1 : ∃ fo, PySem.W.findIn X.K (.type "int") (PySem.dunder op.info.2) = some fo) (h2 : ∃ ro, PySem.W.findIn X.K (.type "int") (dunderR op.info.2) = some ro) (hsub : PySem.W.subIn X.K (.type "int") (.ref C) = some false)
    (hm : PySem.dunder op.info.2 = m := by decide +kernel) : OpR X (binaryOp op) (rOwnI C sp E) := by
  intro pins s σ H x y v u Q I rx ry h
  obtain ⟨a, dx, fs, i, rfl, rfl, ha, hs⟩ := h
  obtain ⟨f, hf, fn, kp, run⟩ := met_run c hr hk hx
  obtain ⟨rc, hrc, hp⟩ := hrc
  obtain ⟨fo, h1⟩ := h1
  obtain ⟨ro, h2⟩ := h2
  obtain ⟨mF, F⟩ := I.fr
  obtain ⟨ox, od, J, _⟩ := inst_of I ha
  have r2 : Vals [V.ref a, V.int i] [v, u] := .cons rx (.cons ry .nil)
  cases (show v = Value.ref a from rx)
  obtain ⟨t, et⟩ := (show ∃ t, u = Value.int i t from ry)
  subst et
  exact PySem.W.ksp_binT (T := "int") F I.ok.mod.kin J rfl sf (by rw [hm]; exact hf) fn hrc hp h1 h2 hsub (wpAny_mono (run pins s σ H _ _ Q I r2 hs) (fun _ _ z => back_of z) fun _ _ z => z)
def rOwn1 (C : Addr) (sp : Sp) (E : XK) : V → Hp → VK → Prop := fun x H Q => ∃ (a dx : Addr) (fs : List (Str × V)), x = .ref a ∧ H a = some (.ins C dx fs) ∧ sp [x] H Q E
/-- -x -/
theorem un_own (c : Met CX X.prog X.w X.K X.mg X.base k C "__neg__" sp) (hr : Room j X.A) (hk : k ≤ j) (hx : Passes CX X E) : UnR X (unaryOp .USub) (rOwn1 C sp E) := by
  intro pins s σ H x v Q I rx h
  obtain ⟨a, dx, fs, rfl, ha, hs⟩ := h
  obtain ⟨f, hf, fn, kp, run⟩ := met_run c hr hk hx
  obtain ⟨mF, F⟩ := I.fr
  obtain ⟨ox, od, J, _⟩ := inst_of I ha
  have r1 : Vals [V.ref a] [v] := .cons rx .nil
  cases (show v = Value.ref a from rx)
  exact PySem.W.ksp_neg F I.ok.mod.kin J hf fn (run pins s σ H _ _ Q I r1 hs)
/-- int's method finds no int in an own instance -/
theorem int_declines {prog : Program} {w : World} {A : Around} {Er : Value → Shared → Prop} {s : Shared} {x D : Addr} {ox : Obj} {od : Option Obj} {i : Int} {t : Tok} {nm : String} {id : String} {nmB : String} {f : Int → Int → Sem Fin} {Q : Option Value → Shared → Prop}
    (J : PySem.W.InstAt s.heap x ox D od) (hd : ox.data = .plain) (slot : Slot "int" (PySem.dunder nm) id) (entry : entryFor table id = some (Builtin.Int.intBinary nmB f)) (args : argsOk id ⟨[.int i t, .ref x], []⟩) (h : Q none s) :
    wpAny (model prog w) A (tryMethod (.int i t) (PySem.dunder nm) (.ref x)) Q Er s := by
  refine wpAny_tryMethod_declines (typeIs_int s i t) slot ?_
  refine GQ.call_here slot (typeIs_int s i t) entry args ?_
  unfold Builtin.Int.intBinary
  obtain ⟨hp, g, d, tk, os⟩ := s
  obtain ⟨oc, odd, odt, osl⟩ := ox
  dsimp only at hd
  subst hd
  have hx : hp.get? x = some _ := J.1
  wp_walk using AutoSeq1.wpAny_loadPart' hx
  exact ⟨rfl, h⟩
end
def rIOwn (C : Addr) (sp : Sp) (E : XK) : R2 := fun x y H Q => ∃ (a dx : Addr) (fs : List (Str × V)) (i : Int), x = .int i ∧ y = .ref a ∧ H a = some (.ins C dx fs) ∧ sp [y, x] H Q E
/-- i op x, i a whole number: x's reflected method -/
theorem op_Iown {X : Cx} {CX : CXT} {k j : Nat} {C : Addr} {sp : Sp} {E : XK} {op : Operator} {nm id nmB : String} {f : Int → Int → Sem Fin} (hop : op.info.2 = nm)
    (slot : Slot "int" (PySem.dunder nm) id) (entry : entryFor table id = some (Builtin.Int.intBinary nmB f)) (args : ∀ (i : Int) (t : Tok) (x : Addr), argsOk id ⟨[.int i t, .ref x], []⟩) (fills : fillsNumberSlot (.type "int") nm = pure true)
    (c : Met CX X.prog X.w X.K X.mg X.base k C (dunderR nm) sp) (hr : Room j X.A) (hk : k ≤ j) (hx : Passes CX X E) (sf : PySem.W.selfFirst X.K C = true)
    (hs : ∃ g : Addr, PySem.W.findIn X.K (.ref C) (PySem.dunder nm) = some (some (.ref g))) (hsub : PySem.W.subIn X.K (.ref C) (.type "int") = some false) : OpR X (binaryOp op) (rIOwn C sp E) := by
  intro pins s σ H x y v u Q I rx ry h
  obtain ⟨a, dx, fs, i, rfl, rfl, ha, hsp⟩ := h
  obtain ⟨g, hs⟩ := hs
  obtain ⟨f, hf, fn, kp, run⟩ := met_run c hr hk hx
  obtain ⟨ox, od, J, hd⟩ := inst_of I ha
  have r2 : Vals [V.ref a, V.int i] [u, v] := .cons ry (.cons rx .nil)
  cases (show u = Value.ref a from ry)
  obtain ⟨t, et⟩ := (show ∃ t, v = Value.int i t from rx)
  subst et
  have one := PySem.W.ksp_try (M := model X.prog X.w) (A := X.A) (name := dunderR nm) (b := .int i t) I.kIn J hf fn (wpAny_mono (run pins s σ H _ _ Q I r2 hsp) (fun _ _ z => back_of z) fun _ _ z => z)
  obtain ⟨cd, rest, hcd, hmr⟩ := PySem.W.ksp_first sf
  have K1 : X.K.In s.heap := I.kIn
  rcases hi : op.info with ⟨sym, nm'⟩
  rw [hi] at hop
  dsimp only at hop
  subst hop
  have L2 : PySem.W.Looks (model X.prog X.w) s.heap (typeOf (.ref a)) (.ref C) := J.type
  have L4 : PySem.W.Looks (model X.prog X.w) s.heap (fillsNumberSlot (.ref C) nm') true := PySem.W.fills_K K1 hcd hmr hs
  have L5 : PySem.W.Looks (model X.prog X.w) s.heap (isSubtype (.ref C) (.type "int")) false := PySem.W.looks_subIn K1 hsub
  have hne : (Value.type "int" == Value.ref C) = false := Bool.eq_false_iff.mpr fun q => by cases beq_iff_eq.mp q
  have hpy : numberSlotInPython (.type "int") nm' = pure false := rfl
  simp only [binaryOp, hi]
  refine wpAny_holding (wpAny_bind ?_)
  unfold binaryOp1
  refine wpAny_bind (wpAny_typeOf (typeIs_int s i t) (wpAny_bind (L2.here (wpAny_bind (wpAny_of_eq fills ?_)))))
  simp only [hne, Bool.false_eq_true, if_false]
  refine wpAny_bind (L4.here ?_)
  simp only [Bool.and_self, if_true]
  refine wpAny_bind (L5.here ?_)
  simp only [Bool.false_eq_true, if_false, pure_bind, Bool.not_false, Bool.and_self, if_true, hpy]
  refine wpAny_bind (int_declines J hd slot entry (args i t a) ?_)
  dsimp only
  refine wpAny_bind (wpAny_mono one (fun r s' hr' => ?_) fun _ _ e => e)
  obtain ⟨v, rfl, hq⟩ := hr'
  exact wpAny_bind (wpAny_rule (wpAny_pure (wpAny_pure hq)))
/-- abs(x), x an own instance -/
theorem call_absO {X : Cx} {CX : CXT} {k j : Nat} {C : Addr} {sp : Sp} {E : XK} (c : Met CX X.prog X.w X.K X.mg X.base k C "__abs__" sp) (hr : Room j X.A) (hk : k + 1 ≤ j) (hx : Passes CX X E) :
    CallR X (.builtin "abs") (fun xs H Q => ∃ x, xs = [x] ∧ rOwn1 C sp E x H Q) := by
  intro pins s σ H xs us Q I r h
  obtain ⟨x, rfl, a, dx, fs, rfl, ha, hs⟩ := h
  obtain ⟨f, hf, fn, kp, run⟩ := met_runA c (hr.mono hk).in1 (Nat.le_refl _) hx (fun _ _ z => z.in1)
  obtain ⟨ox, od, J, _⟩ := inst_of I ha
  have r0 := r
  obtain ⟨u, rfl, ru⟩ := vals1 r
  cases (show u = Value.ref a from ru)
  have h1 := run pins s σ H _ _ Q I r0 hs
  refine PySem.Calls.call_function_entry PyProof.Rows.kind_abs PyProof.Rows.plain_abs PyProof.Rows.entry_abs (PyProof.Rows.args_abs _) ?_
  unfold Builtin.«abs»
  refine wpAny_bind (m := oneArg "abs" _) (wpAny_pure ?_)
  refine wpAny_bind (m := callSpecial? (.ref a) (Str.ofString "__abs__")) (PySem.W.special_fn I.kIn J hf (beq_iff_eq.mp fn) (wpAny_mono h1 (fun v s' hv => ?_) fun _ _ z => z))
  exact wpAny_pure ⟨_, rfl, hv⟩
theorem UnR.or {X : Cx} {f : Value → Sem Value} {r r' : V → Hp → VK → Prop} (h : UnR X f r) (h' : UnR X f r') : UnR X f (fun x H Q => r x H Q ∨ r' x H Q) := by
  intro pins s σ H x v Q I rx q
  rcases q with q | q
  · exact h pins s σ H x v Q I rx q
  · exact h' pins s σ H x v Q I rx q
theorem CallR.or {X : Cx} {f : Value} {r r' : List V → Hp → VK → Prop} (h : CallR X f r) (h' : CallR X f r') : CallR X f (fun x H Q => r x H Q ∨ r' x H Q) := by
  intro pins s σ H x v Q I rx q
  rcases q with q | q
  · exact h pins s σ H x v Q I rx q
  · exact h' pins s σ H x v Q I rx q
/-! ### the same operators where a try stands around: what is raised is wished for at the slots -/
theorem met_runS {X : Cx} {CX : CXT} {k j : Nat} {C : Addr} {m : Str} {sp : Sp} {E : L2.St → XK} (c : Met CX X.prog X.w X.K X.mg X.base k C m sp) (hr : Room j X.A) (hk : k ≤ j) (hx : ∀ σ, PassesAt CX X σ (E σ)) :
    ∃ f : Addr, PySem.W.findIn X.K (.ref C) m = some (some (.ref f)) ∧ PySem.W.isFn X.K (.ref f) = true ∧ PySem.W.keepIn X.K (.ref f) = true ∧
      ∀ (pins : List (Addr × Obj)) (s : Shared) (σ : L2.St) (H : Hp) (us : List Value) (vs : List V) (Q : VK), Inv X pins σ H s → Vals vs us → sp vs H Q (E σ) → wpAny (model X.prog X.w) X.A (call (.ref f) us) (EP X pins σ Q) X.xe s := by
  obtain ⟨f, fd, ps, hc, hm, F, b⟩ := c.ex
  refine ⟨f, hm.at_, hm.fn, hm.kp, fun pins s σ H us vs Q I r h => ?_⟩
  have hl : us.length = ps.length := by rw [← r.length]; exact F.len _ _ _ _ h
  have hb := b s us I.kIn (by rw [List.append_nil]; exact hl)
  rw [List.append_nil] at hb
  refine wpAny_call (codeAny_mono (F.run X.A X.stack s H ⟨us, []⟩ us vs Q (E σ) (hr.mono hk) I.env0 hb r h) fun r s' hq => ?_)
  match r with
  | .error e => exact hx σ pins H s e s' I hq
  | .ok (.ret u) => exact I.after hq
  | .ok .next => exact False.elim hq
  | .ok .brk => exact False.elim hq
  | .ok .cont => exact False.elim hq
def OpRS (X : Cx) (f : Value → Value → Sem Value) (r : L2.St → R2) : Prop :=
  ∀ (pins : List (Addr × Obj)) (s : Shared) (σ : L2.St) (H : Hp) (x y : V) (v u : Value) (Q : VK), Inv X pins σ H s → RelV x v → RelV y u → r σ x y H Q →
    wpAny (model X.prog X.w) X.A (f v u) (EP X pins σ Q) X.xe s
def tOpS (r : L2.St → R2) (ta tb : TE) : TE := fun σ H Q => ta σ H fun x H1 => tb σ H1 fun y H2 => r σ x y H2 Q
theorem pe_opS {X : Cx} {a b : Expr} {ta tb : TE} {pos : Pos} {op : Operator} {r : L2.St → R2} (ho : OpRS X (binaryOp op) r) (ha : PE X a ta) (hb : PE X b tb) : PE X (.BinOp a op b pos) (tOpS r ta tb) := by
  refine ⟨fun pins s σ H Q I h => ?_⟩
  exact wpAny_BinOp (binT (R := fun x y H2 => r σ x y H2 Q) ha hb I h fun v u s2 x y H2 I2 rx ry q => ho pins s2 σ H2 x y v u Q I2 rx ry q)
theorem OpRS.or {X : Cx} {f : Value → Value → Sem Value} {r r' : L2.St → R2} (h : OpRS X f r) (h' : OpRS X f r') : OpRS X f (fun σ x y H Q => r σ x y H Q ∨ r' σ x y H Q) := by
  intro pins s σ H x y v u Q I rx ry q
  rcases q with q | q
  · exact h pins s σ H x y v u Q I rx ry q
  · exact h' pins s σ H x y v u Q I rx ry q
section
variable {X : Cx} {CX : CXT} {k j : Nat} {C : Addr} {m : Str} {sp : Sp} {E : L2.St → XK}
theorem op_ownS {op : Operator} (c : Met CX X.prog X.w X.K X.mg X.base k C m sp) (hr : Room j X.A) (hk : k ≤ j) (hx : ∀ σ, PassesAt CX X σ (E σ)) (sf : PySem.W.selfFirst X.K C = true) (hm : PySem.dunder op.info.2 = m := by decide +kernel) :
    OpRS X (binaryOp op) (fun σ => rOwn2 C sp (E σ)) := by
  intro pins s σ H x y v u Q I rx ry h
  obtain ⟨a, b, dx, dy, fs, gs, rfl, rfl, ha, hb, hs⟩ := h
  obtain ⟨f, hf, fn, kp, run⟩ := met_runS c hr hk hx
  obtain ⟨mF, F⟩ := I.fr
  obtain ⟨ox, od, J, _⟩ := inst_of I ha
  obtain ⟨oy, oe, J2, _⟩ := inst_of I hb
  have r2 : Vals [V.ref a, V.ref b] [v, u] := .cons rx (.cons ry .nil)
  cases (show v = Value.ref a from rx)
  cases (show u = Value.ref b from ry)
  exact PySem.W.binop_K F I.ok.mod.kin J J2.type sf (by rw [hm]; exact hf) fn (wpAny_mono (run pins s σ H _ _ Q I r2 hs) (fun _ _ z => back_of z) fun _ _ z => z)
theorem op_ownIS {op : Operator} (c : Met CX X.prog X.w X.K X.mg X.base k C m sp) (hr : Room j X.A) (hk : k ≤ j) (hx : ∀ σ, PassesAt CX X σ (E σ)) (sf : PySem.W.selfFirst X.K C = true)
    (hrc : ∃ rc, PySem.W.findIn X.K (.ref C) (dunderR op.info.2) = some rc ∧ (rc = none ∨ ∃ g : Addr, rc = some (.ref g)))
    (h1 : ∃ fo, PySem.W.findIn X.K (.type "int") (PySem.dunder op.info.2) = some fo) (h2 : ∃ ro, PySem.W.findIn X.K (.type "int") (dunderR op.info.2) = some ro) (hsub : PySem.W.subIn X.K (.type "int") (.ref C) = some false)
    (hm : PySem.dunder op.info.2 = m := by decide +kernel) : OpRS X (binaryOp op) (fun σ => rOwnI C sp (E σ)) := by
  intro pins s σ H x y v u Q I rx ry h
  obtain ⟨a, dx, fs, i, rfl, rfl, ha, hs⟩ := h
  obtain ⟨f, hf, fn, kp, run⟩ := met_runS c hr hk hx
  obtain ⟨rc, hrc, hp⟩ := hrc
  obtain ⟨fo, h1⟩ := h1
  obtain ⟨ro, h2⟩ := h2
  obtain ⟨mF, F⟩ := I.fr
  obtain ⟨ox, od, J, _⟩ := inst_of I ha
  have r2 : Vals [V.ref a, V.int i] [v, u] := .cons rx (.cons ry .nil)
  cases (show v = Value.ref a from rx)
  obtain ⟨t, et⟩ := (show ∃ t, u = Value.int i t from ry)
  subst et
  exact PySem.W.ksp_binT (T := "int") F I.ok.mod.kin J rfl sf (by rw [hm]; exact hf) fn hrc hp h1 h2 hsub (wpAny_mono (run pins s σ H _ _ Q I r2 hs) (fun _ _ z => back_of z) fun _ _ z => z)
end
/-- x == y, x < y .., both of one own class that has the method -/
theorem op_cmpO {X : Cx} {CX : CXT} {k j : Nat} {C : Addr} {m : Str} {sp : Sp} {E : XK} {op : CmpOp} (c : Met CX X.prog X.w X.K X.mg X.base k C m sp) (hr : Room j X.A) (hk : k ≤ j) (hx : Passes CX X E)
    (hop : ∀ v u : Value, compareOp op v u = richCompare op v u := by intro _ _; rfl) (hm : (cmpInfo op).2.1 = m := by decide +kernel) : OpR X (compareOp op) (rOwn2 C sp E) := by
  intro pins s σ H x y v u Q I rx ry h
  obtain ⟨a, b, dx, dy, fs, gs, rfl, rfl, ha, hb, hs⟩ := h
  obtain ⟨f, hf, fn, kp, run⟩ := met_run c hr hk hx
  obtain ⟨mF, F⟩ := I.fr
  obtain ⟨ox, od, J, _⟩ := inst_of I ha
  obtain ⟨oy, oe, J2, _⟩ := inst_of I hb
  have r2 : Vals [V.ref a, V.ref b] [v, u] := .cons rx (.cons ry .nil)
  cases (show v = Value.ref a from rx)
  cases (show u = Value.ref b from ry)
  rw [hop]
  have hu : X.A.units < cLine := by have := hr.un; omega
  exact PySem.W.cmp_K hu F I.ok.mod.kin J J2.type (by unfold PySem.W.notFirst; simp) (by rw [hm]; exact hf) fn (wpAny_mono (run pins s σ H _ _ Q I r2 hs) (fun _ _ z => back_of z) fun _ _ z => z)
/-! ### a law's cells and pools: what is promised of them -/
def PoolAt (H : Hp) (p : Addr) : Prop := ∃ x y z : Int, H p = some (.lst [.int x, .int y, .int z])
theorem PoolAt.kp {H H' : Hp} {p q : Addr} (h : PoolAt H p) (k : Kp q H H') (n : p ≠ q) : PoolAt H' p := by
  obtain ⟨x, y, z, e⟩ := h
  exact ⟨x, y, z, k _ _ n e⟩
theorem PoolAt.same {H H' : Hp} {p : Addr} (h : PoolAt H p) (k : Same H H') : PoolAt H' p := by
  obtain ⟨x, y, z, e⟩ := h
  exact ⟨x, y, z, k _ _ e⟩
theorem at0 {α : Type} {a b c : α} : atI [a, b, c] (0 : Int) = some a := rfl
theorem at1 {α : Type} {a b c : α} : atI [a, b, c] (1 : Int) = some b := rfl
theorem at2 {α : Type} {a b c : α} : atI [a, b, c] (2 : Int) = some c := rfl
def sp_Lcell (K : PySem.W.Frag) : Sp := fun vs H Q _ => ∃ (l : Addr) (ns : List Int) (j : Nat), vs = [.ref l, .int (j : Int)] ∧ SqL K H l (ns.map V.int) ∧ ∀ c : Int, 0 ≤ c → Q (.int c) H
def sp_Lpool : Sp := fun vs H Q _ => ∃ c : Int, vs = [.int c] ∧ ∀ (p : Addr) (H' : Hp), H p = none → Same H H' → PoolAt H' p → Q (.ref p) H'
def sp_Ltake : Sp := fun vs H Q _ => ∃ (p : Addr) (many : Int), vs = [.ref p, .int many] ∧ PoolAt H p ∧ 0 < many ∧ many.natAbs < 2 ^ 300 ∧
  ∀ (H' : Hp) (r : Int), Kp p H H' → PoolAt H' p → 0 ≤ r → r < many → Q (.int r) H'
/-! ### told and due are the same data -/
def Pairs (R : V → V → Prop) (xs ys : List V) : Prop := xs.length = ys.length ∧ ∀ (i : Nat) (x y : V), xs[i]? = some x → ys[i]? = some y → R x y
def flatD : V → Bool
  | .non => true
  | .bl _ => true
  | .int _ => true
  | .str _ => true
  | _ => false
def SameV (K : PySem.W.Frag) (H : Hp) : Nat → V → V → Prop
  | 0, x, y => flatD x = true ∧ x = y
  | n + 1, x, y => (flatD x = true ∧ x = y) ∨
      (∃ (a b : Addr) (xs ys : List V), x = .ref a ∧ y = .ref b ∧ SqL K H a xs ∧ SqL K H b ys ∧ xs.length ≤ sizeLine ∧ Pairs (SameV K H n) xs ys) ∨
      (∃ (a b : Addr) (xs ys : List V), x = .ref a ∧ y = .ref b ∧ SqT K H a xs ∧ SqT K H b ys ∧ xs.length ≤ sizeLine ∧ Pairs (SameV K H n) xs ys)
def sp_Lsame (K : PySem.W.Frag) : Nat → Sp
  | 0 => fun _ _ _ _ => False
  | n + 1 => fun vs H Q _ => ∃ x y : V, vs = [x, y] ∧ SameV K H n x y ∧ Q (.bl true) H
theorem SameV.flat {K : PySem.W.Frag} {H : Hp} {n : Nat} {x : V} (h : flatD x = true) : SameV K H n x x := by
  cases n with
  | zero => exact ⟨h, rfl⟩
  | succ n => exact .inl ⟨h, rfl⟩
theorem Pairs.refl {R : V → V → Prop} {xs : List V} (h : ∀ x ∈ xs, R x x) : Pairs R xs xs := ⟨rfl, fun i x y h1 h2 => by
  rw [h1] at h2
  cases h2
  exact h x (List.mem_of_getElem? h1)⟩
theorem tyx_list {K : PySem.W.Frag} {H : Hp} {a : Addr} {xs : List V} (h : SqL K H a xs) : TyX K H (.ref a) (.type "list") := by
  rcases h with (h | ⟨o, h⟩) | ⟨o, its, n, h, c, _⟩
  · exact .base (.lst h)
  · exact .base (.frz h)
  · exact .kList h c
theorem tyx_tup {K : PySem.W.Frag} {H : Hp} {a : Addr} {xs : List V} (h : SqT K H a xs) : TyX K H (.ref a) (.type "tuple") := by
  rcases h with (h | ⟨o, h⟩) | ⟨o, its, n, h, c, _⟩
  · exact .base (.tup h)
  · exact .fTuple h
  · exact .kTuple h c
/-! ### written dicts, an instance called, enumerate -/
theorem op_notIn_kdE {X : Cx} {d : Addr} (D : ∃ (es : Array DictEntry) (n : Nat), KDict X.K X.w d es n) : OpR X (compareOp .NotIn) (fun x y H Q => ∃ (z : Str) (r : Option Value), x = .str z ∧ y = .ref d ∧ PySem.W.nsIn X.K d z = some r ∧ Q (.bl (!r.isSome)) H) := by
  obtain ⟨es, n, D⟩ := D
  exact op_notIn_kd D
theorem op_in_kdE {X : Cx} {d : Addr} (D : ∃ (es : Array DictEntry) (n : Nat), KDict X.K X.w d es n) : OpR X (compareOp .In) (fun x y H Q => ∃ (z : Str) (r : Option Value), x = .str z ∧ y = .ref d ∧ PySem.W.nsIn X.K d z = some r ∧ Q (.bl r.isSome) H) := by
  obtain ⟨es, n, D⟩ := D
  exact op_in_kd D
/-- x(e, ..), x an own instance -/
theorem pc_callO {X : Cx} {CX : CXT} {k j : Nat} {C : Addr} {sp : Sp} {E : XK} {fe e : Expr} {es : List Expr} {tf : TE} {t : TA} {pos : Pos} (c : Met CX X.prog X.w X.K X.mg X.base k C "__call__" sp) (hr : Room j X.A) (hk : k ≤ j) (hx : Passes CX X E) (hf : PE X fe tf) (ha : PA X (e :: es) t)
    (ht : eval (.Call fe (e :: es) [] pos) X.env = (do callWith pos (← eval fe X.env) [] (backTo pos (starEach (e :: es) X.env)) (backToKw pos (keywordEach [] X.env))) := by rfl)
    (he : starEach (e :: es) X.env = (false, eval e X.env) :: starEach es X.env := by rfl) (hpl : (backTo pos (starEach es X.env)).any (·.1) = false := by rfl) :
    PE X (.Call fe (e :: es) [] pos) (StX.tCallO X C (fun vs H Q E => sp (vs ++ []) H Q E) E tf t) := by
  obtain ⟨⟨f, fd, ps, hc, hm, F, b⟩, fi⟩ := c
  exact StX.pe_callO hf ⟨hm.at_, hm.fn, fi f hm.at_⟩ (F.raw b .nil) (hr.mono hk) hx ha ht he hpl
/-- for a, b in enumerate(list) -/
theorem for_enum {K : PySem.W.Frag} {a : Addr} {xs : List V} {g : TG} {tb : TS} {D : Ends} {σ : L2.St} {H : Hp} (Pv : Nat → L2.St → Hp → Prop) (h0 : Pv 0 σ H) (hl : ∀ i σ H, i ≤ xs.length → Pv i σ H → SqL K H a xs)
    (hs : ∀ i x σ H T, xs[i]? = some x → Pv i σ H → H T = none → g (.ref T) σ (upd H T (.tup [.int (i : Nat), x])) fun σ2 H2 => tb { D with nx := Pv (i + 1), ct := Pv (i + 1), bk := D.nx } σ2 H2) (hd : ∀ σ H, Pv xs.length σ H → D.nx σ H) :
    ∃ W : Nat → Nat → L2.St → Hp → Prop, (∃ m, W 0 m σ H) ∧ ∀ i m σ H, W i m σ H →
      ((Ite K a).stop i H ∧ D.nx σ H) ∨ ((Ite K a).go i H ∧ ∃ N : L2.St → Hp → Prop, (∀ σ' H', N σ' H' → ∃ m', m' < m ∧ W (i + 1) m' σ' H') ∧ ∀ x H', (Ite K a).yld i H x H' → g x σ H' fun σ2 H2 => tb { D with nx := N, ct := N, bk := D.nx } σ2 H2) := by
  refine ⟨fun i m σ H => m = xs.length - i ∧ i ≤ xs.length ∧ Pv i σ H, ⟨xs.length, by simp, Nat.zero_le _, h0⟩, ?_⟩
  rintro i m σ H ⟨rfl, hi, p⟩
  have q := hl i σ H hi p
  by_cases hlt : i < xs.length
  · refine .inr ⟨⟨xs, xs[i], q, by simp [hlt]⟩, Pv (i + 1), fun σ' H' p' => ⟨xs.length - (i + 1), by omega, rfl, hlt, p'⟩, fun x H' y => ?_⟩
    obtain ⟨T, z, e1, e2, e3, e4⟩ := y
    subst e1 e3
    exact hs i z σ H T (e4 xs q) p e2
  · have e : i = xs.length := by omega
    subst e
    exact .inl ⟨⟨xs, q, Nat.le_refl _⟩, hd σ H p⟩
theorem tyes {σ : L2.St} {H : Hp} {A B : Hp → Prop} (h : A H) : tYes σ H (fun b H3 => if b = true then A H3 else B H3) := by
  show (if true = true then A H else B H)
  rw [if_pos rfl]
  exact h
/-! ### terms -/
def sd (b : Bool) : Str := if b then "least" else "most"
def wd (k : Nat) : Str := (["stay", "need", "left", "want", "here", "got", "slack"] : List Str).getD k ""
/-- the measures of an open car (stay, need, left, want) -/
def ms (k : Nat) (s n l w : Int) : Int := match k with
  | 0 => s
  | 1 => n
  | 2 => l
  | 3 => w
  | 4 => s - l
  | 5 => n - w
  | _ => l - w
def kn (t : Bool × Nat) (s n l w : Int) : Int := if t.1 then ms t.2 s n l w else -(ms t.2 s n l w)
/-- x is the pair of a term -/
def TermV (K : PySem.W.Frag) (H : Hp) (x : V) (t : Bool × Nat) : Prop := t.2 < 7 ∧ ∃ p : Addr, x = .ref p ∧ SqT K H p [.str (sd t.1), .str (wd t.2)]
def TermsV (K : PySem.W.Frag) (H : Hp) (xs : List V) (ts : List (Bool × Nat)) : Prop := xs.length = ts.length ∧ ∀ (i : Nat) (x : V) (t : Bool × Nat), xs[i]? = some x → ts[i]? = some t → TermV K H x t
theorem sqt_same {K : PySem.W.Frag} {H H' : Hp} {a : Addr} {xs : List V} (h : SqT K H a xs) (e : Same H H') : SqT K H' a xs := by
  rcases h with (h | ⟨o, h⟩) | h
  · exact .inl (.inl (e _ _ h))
  · exact .inl (.inr ⟨o, e _ _ h⟩)
  · exact .inr h
theorem TermV.same {K : PySem.W.Frag} {H H' : Hp} {x : V} {t : Bool × Nat} (h : TermV K H x t) (e : Same H H') : TermV K H' x t := by
  obtain ⟨h7, p, ex, hp⟩ := h
  exact ⟨h7, p, ex, sqt_same hp e⟩
theorem TermsV.same {K : PySem.W.Frag} {H H' : Hp} {xs : List V} {ts : List (Bool × Nat)} (h : TermsV K H xs ts) (e : Same H H') : TermsV K H' xs ts := ⟨h.1, fun i x t h1 h2 => (h.2 i x t h1 h2).same e⟩
theorem TermsV.nil {K : PySem.W.Frag} {H : Hp} : TermsV K H [] [] := ⟨rfl, fun i x t h1 _ => by simp at h1⟩
theorem TermsV.snoc {K : PySem.W.Frag} {H : Hp} {xs : List V} {ts : List (Bool × Nat)} {x : V} {t : Bool × Nat} (h : TermsV K H xs ts) (r : TermV K H x t) : TermsV K H (xs ++ [x]) (ts ++ [t]) := by
  refine ⟨by rw [List.length_append, List.length_append, h.1] <;> rfl, fun i y u h1 h2 => ?_⟩
  by_cases hi : i < xs.length
  · rw [List.getElem?_append_left hi] at h1
    rw [List.getElem?_append_left (by rw [← h.1]; exact hi)] at h2
    exact h.2 i y u h1 h2
  · rw [List.getElem?_append_right (by omega)] at h1
    rw [List.getElem?_append_right (by rw [← h.1]; omega)] at h2
    rw [← h.1] at h2
    cases e : i - xs.length with
    | zero =>
      rw [e] at h1 h2
      simp at h1 h2
      subst h1
      subst h2
      exact r
    | succ m =>
      rw [e] at h1
      simp at h1
/-- a rule -/
def rlf (tp : Addr) : List (Str × V) := putF "terms" (.ref tp) []
theorem rlf_terms (tp : Addr) : (rlf tp).lookup ("terms" : Str) = some (.ref tp) := by
  unfold rlf
  rw [lookup_putF, if_pos rfl]
theorem rlf_no (tp : Addr) {m : Str} (h : ¬ m = "terms") : (rlf tp).lookup m = none := by
  unfold rlf
  rw [lookup_putF, if_neg h]
  all_goals rfl
def RuleAt (K : PySem.W.Frag) (C : Addr) (H : Hp) (a : Addr) (ts : List (Bool × Nat)) : Prop := ∃ (dx tp : Addr) (xs : List V), H a = some (.ins C dx (rlf tp)) ∧ H tp = some (.tup xs) ∧ TermsV K H xs ts
theorem RuleAt.same {K : PySem.W.Frag} {C : Addr} {H H' : Hp} {a : Addr} {ts : List (Bool × Nat)} (h : RuleAt K C H a ts) (e : Same H H') : RuleAt K C H' a ts := by
  obtain ⟨dx, tp, xs, h1, h2, h3⟩ := h
  exact ⟨dx, tp, xs, e _ _ h1, e _ _ h2, h3.same e⟩
def Okt (ts : List (Bool × Nat)) : Prop := (ts.map (·.2)).Nodup ∧ ∀ t ∈ ts, t.2 < 7
def sp_measures (K : PySem.W.Frag) : Sp := fun vs H Q _ => ∃ (a : Addr) (s n l w : Int), vs = [.ref a] ∧ SqT K H a [.int s, .int n, .int l, .int w] ∧
  ∀ (H' : Hp) (p : Addr) (M : List (Key × V)), Same H H' → H' p = some (.dK M) → (∀ k < 7, valV M (Sum.inr (wd k)) = some (.int (ms k s n l w))) → Q (.ref p) H'
def sp_numbers (K : PySem.W.Frag) : Sp := fun vs H Q _ => ∃ (tp a : Addr) (xs : List V) (ts : List (Bool × Nat)) (s n l w : Int), vs = [.ref tp, .ref a] ∧ SqT K H tp xs ∧ TermsV K H xs ts ∧ ts.length ≤ 1000 ∧ SqT K H a [.int s, .int n, .int l, .int w] ∧
  ∀ (H' : Hp) (p : Addr), Same H H' → H' p = some (.tup (ts.map fun t => .int (kn t s n l w))) → Q (.ref p) H'
def sp_Rule_call (K : PySem.W.Frag) (C : Addr) : Sp := fun vs H Q _ => ∃ (r a : Addr) (ts : List (Bool × Nat)) (s n l w : Int), vs = [.ref r, .ref a] ∧ RuleAt K C H r ts ∧ ts.length ≤ 1000 ∧ SqT K H a [.int s, .int n, .int l, .int w] ∧
  ∀ (H' : Hp) (p : Addr), Same H H' → H' p = some (.tup (ts.map fun t => .int (kn t s n l w))) → Q (.ref p) H'
/-- Rule(list of terms), all right -/
def sp_Rule_init (K : PySem.W.Frag) (C : Addr) : Sp := fun vs H Q _ => ∃ (x dx tp : Addr) (xs : List V) (ts : List (Bool × Nat)), vs = [.ref x, .ref tp] ∧ H x = some (.ins C dx []) ∧ SqL K H tp xs ∧ TermsV K H xs ts ∧ Okt ts ∧
  ∀ H', Kp x H H' → RuleAt K C H' x ts → Q .non H'
theorem mk_same {H J : Hp} {x dx C : Addr} (hx : H x = none) (hdx : H dx = none) (k : Kp x (upd (upd H dx (.own x)) x (.ins C dx [])) J) : Same H J := fun b o e => k b o (ne_of_none e hx) (by
  rw [upd_ne (ne_of_none e hx), upd_ne (ne_of_none e hdx)]
  exact e)
def topS (i : Nat) : Stmt := PySem.Challenge.pw_onecable_k09_rule_numbers.main.body.getD i (.Pass ⟨0, 0, 0, 0⟩)
abbrev s_umeasures : Stmt := topS 7
theorem sc_umeasures : FnScope ["car", "stay", "need", "left", "want"] ["car"] (defScope s_umeasures) := ⟨rfl, rfl, rfl, by decide +kernel, rfl, by decide +kernel, by decide +kernel⟩
abbrev s_unumbers : Stmt := topS 8
theorem sc_unumbers : FnScope ["terms", "car", "measures", "side", "word"] ["terms", "car"] (defScope s_unumbers) := ⟨rfl, rfl, rfl, by decide +kernel, rfl, by decide +kernel, by decide +kernel⟩
abbrev s_Rule_init : Stmt := inClass (topS 9) 0
theorem sc_Rule_init : FnScope ["self", "terms", "words", "place", "side", "word"] ["self", "terms"] (defScope s_Rule_init) := ⟨rfl, rfl, rfl, by decide +kernel, rfl, by decide +kernel, by decide +kernel⟩
abbrev s_Rule_call : Stmt := inClass (topS 9) 3
theorem sc_Rule_call : FnScope ["self", "car"] ["self", "car"] (defScope s_Rule_call) := ⟨rfl, rfl, rfl, by decide +kernel, rfl, by decide +kernel, by decide +kernel⟩
abbrev s_Lcell : Stmt := topS 11
theorem sc_Lcell : FnScope ["_law_script", "_law_at"] ["_law_script", "_law_at"] (defScope s_Lcell) := ⟨rfl, rfl, rfl, by decide +kernel, rfl, by decide +kernel, by decide +kernel⟩
abbrev s_Lpool : Stmt := topS 12
theorem sc_Lpool : FnScope ["_law_cell_here"] ["_law_cell_here"] (defScope s_Lpool) := ⟨rfl, rfl, rfl, by decide +kernel, rfl, by decide +kernel, by decide +kernel⟩
abbrev s_Ltake : Stmt := topS 13
theorem sc_Ltake : FnScope ["_law_pool_here", "_law_many", "_law_digit", "_law_mixed"] ["_law_pool_here", "_law_many"] (defScope s_Ltake) := ⟨rfl, rfl, rfl, by decide +kernel, rfl, by decide +kernel, by decide +kernel⟩
abbrev s_Lsame : Stmt := topS 14
theorem sc_Lsame : FnScope ["_law_told", "_law_due", "_law_k"] ["_law_told", "_law_due"] (defScope s_Lsame) := ⟨rfl, rfl, rfl, by decide +kernel, rfl, by decide +kernel, by decide +kernel⟩
abbrev s_Lterms : Stmt := topS 15
theorem sc_Lterms : FnScope ["_law_pool_here", "_law_most", "_law_words", "_law_terms_here", "_law_k", "_law_word"] ["_law_pool_here", "_law_most"] (defScope s_Lterms) := ⟨rfl, rfl, rfl, by decide +kernel, rfl, by decide +kernel, by decide +kernel⟩
abbrev s_Lmeasure : Stmt := topS 16
theorem sc_Lmeasure : FnScope ["_law_car_here", "_law_word"] ["_law_car_here", "_law_word"] (defScope s_Lmeasure) := ⟨rfl, rfl, rfl, by decide +kernel, rfl, by decide +kernel, by decide +kernel⟩
abbrev s_Lkey : Stmt := topS 17
theorem sc_Lkey : FnScope ["_law_terms_here", "_law_car_here", "_law_key_here", "_law_term", "_law_number"] ["_law_terms_here", "_law_car_here"] (defScope s_Lkey) := ⟨rfl, rfl, rfl, by decide +kernel, rfl, by decide +kernel, by decide +kernel⟩
abbrev s_Lcar : Stmt := topS 18
theorem sc_Lcar : FnScope ["_law_pool_here", "_law_longest", "_law_stay", "_law_need", "_law_left", "_law_most"] ["_law_pool_here", "_law_longest"] (defScope s_Lcar) := ⟨rfl, rfl, rfl, by decide +kernel, rfl, by decide +kernel, by decide +kernel⟩
abbrev s_law : Stmt := topS 19
theorem sc_law : FnScope ["_law_script", "_law_terms_here", "_law_one", "_law_two", "_law_others", "_law_rule", "_law_other"] ["_law_script"] (defScope s_law) := ⟨rfl, rfl, rfl, by decide +kernel, rfl, by decide +kernel, by decide +kernel⟩
def CarV (K : PySem.W.Frag) (H : Hp) (a : Addr) (s n l w : Int) : Prop := SqT K H a [.int s, .int n, .int l, .int w]
def sp_Lterms (K : PySem.W.Frag) : Sp := fun vs H Q _ => ∃ (p : Addr) (m : Nat), vs = [.ref p, .int (m : Int)] ∧ m ≤ 7 ∧ PoolAt H p ∧
  ∀ (H' : Hp) (q : Addr) (xs : List V) (ts : List (Bool × Nat)), Kp p H H' → PoolAt H' p → H q = none → H' q = some (.lst xs) → TermsV K H' xs ts → Okt ts → ts.length ≤ 7 → Q (.ref q) H'
def sp_Lmeasure (K : PySem.W.Frag) : Sp := fun vs H Q _ => ∃ (a : Addr) (k : Nat) (s n l w : Int), vs = [.ref a, .str (wd k)] ∧ k < 7 ∧ CarV K H a s n l w ∧ Q (.int (ms k s n l w)) H
def sp_Lkey (K : PySem.W.Frag) : Sp := fun vs H Q _ => ∃ (tl a : Addr) (xs : List V) (ts : List (Bool × Nat)) (s n l w : Int), vs = [.ref tl, .ref a] ∧ SqL K H tl xs ∧ TermsV K H xs ts ∧ ts.length ≤ 1000 ∧ CarV K H a s n l w ∧
  ∀ (H' : Hp) (q : Addr), Same H H' → H q = none → H' q = some (.lst (ts.map fun t => .int (kn t s n l w))) → Q (.ref q) H'
/-- an open car as the law draws it -/
structure CarOk (s n l w m : Int) : Prop where
  s1 : 1 ≤ s
  sm : s ≤ m
  n1 : 1 ≤ n
  ns : n ≤ s
  l1 : 1 ≤ l
  ls : l ≤ s
  w1 : 1 ≤ w
  wn : w ≤ n
def sp_Lcar (K : PySem.W.Frag) : Sp := fun vs H Q _ => ∃ (p : Addr) (m : Int), vs = [.ref p, .int m] ∧ 0 < m ∧ m < 2 ^ 60 ∧ PoolAt H p ∧
  ∀ (H' : Hp) (q : Addr) (s n l w : Int), Kp p H H' → PoolAt H' p → H q = none → H' q = some (.tup [.int s, .int n, .int l, .int w]) → CarOk s n l w m → Q (.ref q) H'
theorem sqt_kp {K : PySem.W.Frag} {H H' : Hp} {a b : Addr} {xs ys : List V} (h : SqT K H b xs) (k : Kp a H H') (hl : H a = some (.lst ys)) : SqT K H' b xs := by
  rcases h with (h | ⟨o, h⟩) | h
  · exact .inl (.inl (k _ _ (fun w => by rw [w, hl] at h; cases h) h))
  · exact .inl (.inr ⟨o, k _ _ (fun w => by rw [w, hl] at h; cases h) h⟩)
  · exact .inr h
theorem TermV.kp {K : PySem.W.Frag} {H H' : Hp} {a : Addr} {x : V} {t : Bool × Nat} {ys : List V} (h : TermV K H x t) (k : Kp a H H') (hl : H a = some (.lst ys)) : TermV K H' x t := by
  obtain ⟨h7, p, ex, hp⟩ := h
  exact ⟨h7, p, ex, sqt_kp hp k hl⟩
theorem TermsV.kp {K : PySem.W.Frag} {H H' : Hp} {a : Addr} {xs : List V} {ts : List (Bool × Nat)} {ys : List V} (h : TermsV K H xs ts) (k : Kp a H H') (hl : H a = some (.lst ys)) : TermsV K H' xs ts := ⟨h.1, fun i x t h1 h2 => (h.2 i x t h1 h2).kp k hl⟩
theorem seq_ix {i : Int} {n : Nat} (h0 : 0 ≤ i) (h1 : i < (n : Int)) : seqIndex? i n = some i.toNat := by
  unfold seqIndex?
  first
    | (simp only; split <;> first | (split <;> first | rfl | omega) | omega)
    | (have e : ¬ i < 0 := by omega
       simp [e, h1, h0])
theorem erase_map {α β : Type} (f : α → β) : ∀ (l : List α) (i : Nat), (l.map f).eraseIdx i = (l.eraseIdx i).map f
  | [], _ => rfl
  | _ :: _, 0 => rfl
  | a :: l, i + 1 => by
    show f a :: (l.map f).eraseIdx i = f a :: (l.eraseIdx i).map f
    rw [erase_map f l i]
theorem get_erase_perm {α : Type} : ∀ {l : List α} {i : Nat} (h : i < l.length), (l[i] :: l.eraseIdx i).Perm l
  | _ :: _, 0, _ => .refl _
  | a :: l, i + 1, h => by
    have h' : i < l.length := Nat.lt_of_succ_lt_succ h
    show (l[i] :: a :: l.eraseIdx i).Perm (a :: l)
    exact (List.Perm.swap a l[i] _).trans (.cons a (get_erase_perm h'))
def sp_law (K : PySem.W.Frag) : Sp := fun vs H Q _ => ∃ (a : Addr) (ns : List Int), vs = [.ref a] ∧ SqL K H a (ns.map V.int) ∧ ns.length ≤ 63 ∧ ∀ H', Q (.bl true) H'
structure Txt (w : World) (K : PySem.W.Frag) (mg : Str → Option Value) (C_Rule A_WORDS A_OTHER_SIDE : Addr) : Prop where
  g_Rule : mg "Rule" = some (.ref C_Rule)
  cl_Rule : Cls K C_Rule
  nf_Rule_terms : NoAttr K C_Rule "terms"
  c_WORDS : mg "WORDS" = some (.ref A_WORDS)
  q_WORDS : ∀ H : Hp, SqT K H A_WORDS [V.str "stay", V.str "need", V.str "left", V.str "want", V.str "here", V.str "got", V.str "slack"]
  c_OTHER_SIDE : mg "OTHER_SIDE" = some (.ref A_OTHER_SIDE)
  d_OTHER_SIDE : ∃ (es : Array DictEntry) (n : Nat), KDict K w A_OTHER_SIDE es n
  e_OTHER_SIDE_least : ∃ u : Value, PySem.W.nsIn K A_OTHER_SIDE "least" = some (some u) ∧ RelV (.str "most") u
  e_OTHER_SIDE_most : ∃ u : Value, PySem.W.nsIn K A_OTHER_SIDE "most" = some (some u) ∧ RelV (.str "least") u
  n_tuple : mg "tuple" = none
  n_enumerate : mg "enumerate" = none
  n_len : mg "len" = none
  n_int : mg "int" = none
  n_abs : mg "abs" = none
  n_isinstance : mg "isinstance" = none
  n_bool : mg "bool" = none
  n_str : mg "str" = none
  n_list : mg "list" = none
  n_range : mg "range" = none

section
variable {P : Program} {w : World} {K : PySem.W.Frag} {mg : Str → Option Value} {base : Heap} {C_Rule A_WORDS A_OTHER_SIDE : Addr}
theorem wd_flat (k : Nat) : flatV (.str (wd k)) = true := rfl
theorem sd_cases (b : Bool) : (b = true ∧ sd b = "least") ∨ (b = false ∧ sd b = "most") := by cases b <;> simp [sd]
theorem wd_inj : ∀ j < 7, ∀ k < 7, wd j = wd k → j = k := by decide +kernel
theorem ok_umeasures {f : Addr} {fd : FuncData} (F : Fun K "_measures" "_measures" s_umeasures f fd) (T : Txt w K mg C_Rule A_WORDS A_OTHER_SIDE)  :
    FnOk P w K mg base CX0 1 f fd ["car"] (sp_measures K) := by
  refine F.ok sc_umeasures (fun vs H Q E h => ?_) (fun cdv A outer s H vs Q E hr h => ?_)
  · obtain ⟨a, s', n, l, w', rfl, _⟩ := h
    rfl
  · obtain ⟨a, s', n, l, w', rfl, ha, q⟩ := h
    refine ⟨_, (pss_cons (ps_asg (pv 0) (pg_tup rfl (pgs_cons (pg_name (i := 1) sc_umeasures.nd rfl (Or.inl rfl)) (pgs_cons (pg_name (i := 2) sc_umeasures.nd rfl (Or.inl rfl)) (pgs_cons (pg_name (i := 3) sc_umeasures.nd rfl (Or.inl rfl)) (pgs_cons (pg_name (i := 4) sc_umeasures.nd rfl (Or.inl rfl)) pgs_nil))))))
      (pss_one (ps_ret (pe_disp (pps_cons pe_str (pv 1) (pps_cons pe_str (pv 2) (pps_cons pe_str (pv 3) (pps_cons pe_str (pv 4) (pps_cons pe_str (pe_op op_sub (pv 1) (pv 3)) (pps_cons pe_str (pe_op op_sub (pv 2) (pv 4)) (pps_cons pe_str (pe_op op_sub (pv 3) (pv 4)) pps_nil))))))) (by rfl) (by rfl) (fun z => by cases z) (by decide))))), ?_⟩
    refine ⟨_, rfl, a, _, rfl, ha, rfl, _, _, rfl, _, _, rfl, _, _, rfl, _, _, rfl, rfl, ?_⟩
    intro p hp
    refine ⟨_, rfl, _, rfl, _, rfl, _, rfl, _, rfl, _, rfl, _, _, rfl, rfl, _, rfl, _, rfl, _, _, rfl, rfl, _, rfl, _, rfl, _, _, rfl, rfl, upd_same, [(Sum.inr "stay", .int s'), (Sum.inr "need", .int n), (Sum.inr "left", .int l), (Sum.inr "want", .int w'), (Sum.inr "here", .int (s' - l)), (Sum.inr "got", .int (n - w')), (Sum.inr "slack", .int (l - w'))], rfl, (by show 7 ≤ 15; decide), ?_⟩
    refine q _ p _ (fun b o e => ?_) upd_same (fun k hk => ?_)
    · rw [upd_ne (ne_of_none e hp), upd_ne (ne_of_none e hp)]
      exact e
    · match k, hk with
      | 0, _ => rfl
      | 1, _ => rfl
      | 2, _ => rfl
      | 3, _ => rfl
      | 4, _ => rfl
      | 5, _ => rfl
      | 6, _ => rfl
theorem take_snoc {α : Type} {l : List α} {i : Nat} {x : α} (h : l[i]? = some x) : l.take i ++ [x] = l.take (i + 1) := by
  rw [List.take_add_one, h]
  rfl
theorem there {xs : List V} {ts : List (Bool × Nat)} {i : Nat} {x : V} (hl : xs.length = ts.length) (h : xs[i]? = some x) : ∃ t, ts[i]? = some t ∧ i < ts.length := by
  have hi : i < xs.length := (List.getElem?_eq_some_iff.mp h).1
  rw [hl] at hi
  exact ⟨ts[i], List.getElem?_eq_getElem hi, hi⟩
theorem ok_unumbers {f : Addr} {fd : FuncData} (F : Fun K "_numbers" "_numbers" s_unumbers f fd) (T : Txt w K mg C_Rule A_WORDS A_OTHER_SIDE) (c_umeasures : Cal CX0 P w K mg base 1 "_measures" (sp_measures K)) :
    FnOk P w K mg base CX0 2 f fd ["terms", "car"] (sp_numbers K) := by
  refine F.ok sc_unumbers (fun vs H Q E h => ?_) (fun cdv A outer s H vs Q E hr h => ?_)
  · obtain ⟨tp, a, xs, ts, s', n, l, w', rfl, _⟩ := h
    rfl
  · obtain ⟨tp, a, xs, ts, s', n, l, w', rfl, htp, hts, hz, ha, q⟩ := h
    refine ⟨_, (pss_cons (ps_set (i := 2) sc_unumbers.nd rfl (Or.inr rfl) (pc_c c_umeasures hr (by decide) rfl pass0 (pa_cons (pv 1) pa_nil)))
      (pss_one (ps_ret (pe_callTy call_tuple_of (by rfl) T.n_tuple (by decide +kernel) (pa_cons (pe_lc (own := [("side", 3), ("word", 4)]) (g := (gTup K 2 (gCons (gName 3) (gCons (gName 4) gNil)))) (tt := tYes) rfl sc_unumbers.nd (pi_tup (pv 0)) (blkOk_by (own := [("side", 3), ("word", 4)]) (N := ["terms", "car", "measures", "side", "word"]) (sc := defScope s_unumbers) (by decide +kernel)) (fun _ _ _ _ _ => (pg_tup rfl (pgs_cons (pg_name (i := 3) sc_unumbers.nd rfl (Or.inl rfl)) (pgs_cons (pg_name (i := 4) sc_unumbers.nd rfl (Or.inl rfl)) pgs_nil)))) (fun _ _ _ _ _ => pts_nil) (fun _ _ _ _ _ => (pe_ifExp (pt_cmpR op_eq (pv 3) pe_str (nomark _)) (pe_dget (hu_of hr) (pv 2) (pv 4) (fun _ _ => rfl)) (pe_un un_neg (pe_dget (hu_of hr) (pv 2) (pv 4) (fun _ _ => rfl)))))) pa_nil))))), ?_⟩
    refine ⟨_, rfl, a, s', n, l, w', rfl, ha, fun H1 p M s1 hM hm => ?_⟩
    have s1t := sqt_same htp s1
    refine ⟨_, rfl, tp, rfl, ⟨_, s1t⟩, fun D hD => lc_tup (K := K) (a := tp) (xs := xs) (fun i H' => Same H1 H' ∧ H' D = some (.lst ((ts.map fun t => V.int (kn t s' n l w')).take i))) ⟨same_upd hD, by rw [upd_same] <;> rfl⟩ (fun i H' _ ⟨s2, _⟩ => sqt_same s1t s2) ?_ ?_⟩
    · rintro i x H' hx ⟨s2, hl⟩
      obtain ⟨t, ht, hi⟩ := there hts.1 hx
      obtain ⟨h7, pt, rfl, hpt⟩ := hts.2 i x t hx ht
      have hpt' := sqt_same hpt (s1.trans s2)
      have hlen : (List.take i (ts.map fun t => V.int (kn t s' n l w'))).length < sizeLine := small1000 (by rw [List.length_take, List.length_map]; omega)
      have hnx : ∀ H2 : Hp, Same H' H2 → H2 D = some (.lst ((ts.map fun t => V.int (kn t s' n l w')).take i)) → Same H1 (upd H2 D (.lst ((ts.map fun t => V.int (kn t s' n l w')).take i ++ [.int (kn t s' n l w')]))) ∧ (upd H2 D (.lst ((ts.map fun t => V.int (kn t s' n l w')).take i ++ [.int (kn t s' n l w')]))) D = some (.lst ((ts.map fun t => V.int (kn t s' n l w')).take (i + 1))) := fun H2 s3 h2 => by
        refine ⟨fun b o e => ?_, ?_⟩
        · have nb : b ≠ D := ne_of_none e hD
          rw [upd_ne nb]
          exact s3 _ _ (s2 _ _ e)
        · rw [upd_same, take_snoc (by rw [List.getElem?_map, ht] <;> rfl)]
      refine ⟨pt, _, rfl, hpt', rfl, _, _, rfl, _, _, rfl, rfl, rfl, ?_⟩
      refine tyes ?_
      refine ⟨_, rfl, rfl, _, rfl, ?_⟩
      have dg : DGet H' p (.str (wd t.2)) (some (.int (ms t.2 s' n l w'))) := .inl ⟨M, Sum.inr (wd t.2), .inl (s2 _ _ hM), rfl, (hm _ h7).symm⟩
      rcases sd_cases t.1 with ⟨e1, e2⟩ | ⟨e1, e2⟩
      · rw [decide_eq_true (show V.str (sd t.1) = V.str "least" by rw [e2])]
        refine iteT ⟨_, rfl, _, rfl, p, _, rfl, dg, _, hl, hlen, ?_⟩
        have ek : ms t.2 s' n l w' = kn t s' n l w' := by unfold kn; rw [e1, if_pos rfl]
        rw [ek]
        exact hnx H' (Same.of _) hl
      · rw [decide_eq_false (show ¬ V.str (sd t.1) = V.str "least" by rw [e2]; decide +kernel)]
        refine iteF ⟨_, rfl, _, rfl, p, _, rfl, dg, _, rfl, _, hl, hlen, ?_⟩
        have ek : -(ms t.2 s' n l w') = kn t s' n l w' := by unfold kn; rw [e1, if_neg Bool.false_ne_true]
        have z := hnx H' (Same.of _) hl
        rw [← ek] at z
        exact z
    · rintro H' ⟨s2, hl⟩
      refine ⟨D, _, rfl, .inl ⟨SqL.of hl, fun z hz' => ?_⟩⟩
      refine q _ z ((s1.trans s2).trans (same_upd hz')) ?_
      rw [upd_same, hts.1, ← List.length_map (f := fun t => V.int (kn t s' n l w')) (as := ts), List.take_length]
theorem ok_Rule_call {f : Addr} {fd : FuncData} (F : Fun K "__call__" "Rule.__call__" s_Rule_call f fd) (T : Txt w K mg C_Rule A_WORDS A_OTHER_SIDE) (c_unumbers : Cal CX0 P w K mg base 2 "_numbers" (sp_numbers K)) :
    FnOk P w K mg base CX0 3 f fd ["self", "car"] (sp_Rule_call K C_Rule) := by
  refine F.ok sc_Rule_call (fun vs H Q E h => ?_) (fun cdv A outer s H vs Q E hr h => ?_)
  · obtain ⟨r, a, ts, s', n, l, w', rfl, _⟩ := h
    rfl
  · obtain ⟨r, a, ts, s', n, l, w', rfl, ⟨dx, tp, xs, hr0, htp, hts⟩, hz, ha, q⟩ := h
    refine ⟨_, (pss_one (ps_ret (pc_c c_unumbers hr (by decide) rfl pass0 (pa_cons (pe_fld (pv 0) rfl) (pa_cons (pv 1) pa_nil))))), ?_⟩
    exact ⟨_, rfl, r, C_Rule, dx, _, _, rfl, hr0, T.cl_Rule, T.nf_Rule_terms, rlf_terms _, _, rfl, tp, a, xs, ts, s', n, l, w', rfl, .inl (.inl htp), hts, hz, ha, q⟩
theorem in_words {ws : List Nat} {k : Nat} : inV (.str (wd k)) (ws.map fun j => V.str (wd j)) = true ↔ ∃ j ∈ ws, wd j = wd k := by
  unfold inV
  rw [List.any_map, List.any_eq_true]
  constructor
  · rintro ⟨j, hj, e⟩
    exact ⟨j, hj, eq_of_beq e⟩
  · rintro ⟨j, hj, e⟩
    exact ⟨j, hj, by show (wd j == wd k) = true; rw [e]; exact beq_self_eq_true _⟩
theorem words_in {k : Nat} (h : k < 7) : inV (.str (wd k)) [V.str "stay", V.str "need", V.str "left", V.str "want", V.str "here", V.str "got", V.str "slack"] = true := by
  match k, h with
  | 0, _ => decide +kernel
  | 1, _ => decide +kernel
  | 2, _ => decide +kernel
  | 3, _ => decide +kernel
  | 4, _ => decide +kernel
  | 5, _ => decide +kernel
  | 6, _ => decide +kernel
theorem flat_words (ws : List Nat) : (ws.map fun j => V.str (wd j)).all flatV = true := by
  rw [List.all_map, List.all_eq_true]
  intro j _
  rfl
theorem ok_Rule_init {f : Addr} {fd : FuncData} (F : Fun K "__init__" "Rule.__init__" s_Rule_init f fd) (T : Txt w K mg C_Rule A_WORDS A_OTHER_SIDE)  :
    FnOk P w K mg base CX0 1 f fd ["self", "terms"] (sp_Rule_init K C_Rule) := by
  refine F.ok sc_Rule_init (fun vs H Q E h => ?_) (fun cdv A outer s H vs Q E hr h => ?_)
  · obtain ⟨x, dx, tp, xs, ts, rfl, _⟩ := h
    rfl
  · obtain ⟨x, dx, tp, xs, ts, rfl, hx, htp, hts, ⟨hnd, h7⟩, q⟩ := h
    refine ⟨_, (pss_cons (ps_set (i := 2) sc_Rule_init.nd rfl (Or.inl rfl) (pe_lst pa_nil))
      (pss_cons (ps_for PassesOwn.never rfl (pi_enum (by rfl) T.n_enumerate (pa_cons (pv 1) pa_nil)) (pg_tup rfl (pgs_cons (pg_name (i := 3) sc_Rule_init.nd rfl (Or.inl rfl)) (pgs_cons (pg_tup rfl (pgs_cons (pg_name (i := 4) sc_Rule_init.nd rfl (Or.inl rfl)) (pgs_cons (pg_name (i := 5) sc_Rule_init.nd rfl (Or.inl rfl)) pgs_nil))) pgs_nil)))
        (pss_cons (ps_if (PW.pt (pw_or (pt_cmpR (op_notIn_kdE T.d_OTHER_SIDE) (pv 4) (pe_glob (v := .ref A_OTHER_SIDE) rfl T.c_OTHER_SIDE rfl) (by rfl)) (pw_or (pt_cmpR op_notIn_seq (pv 5) (pe_glob (v := .ref A_WORDS) rfl T.c_WORDS rfl) (by rfl)) (pw_or1 (pt_cmpR op_in_seq (pv 5) (pv 2) (by rfl)))))) (pss_one ps_never) pss_nil)
      (pss_one (ps_expr (pe_bm PySem.F.plainAttrs_list PySem.F.slot_list_append PySem.F.type_list_append mt_append (pv 2) (pa_cons (pv 5) pa_nil))))))
      (pss_one (ps_fld (pv 0) (pe_callTy call_tuple_of (by rfl) T.n_tuple (by decide +kernel) (pa_cons (pe_lc (own := [("side", 4), ("word", 5)]) (g := (gTup K 2 (gCons (gName 4) (gCons (gName 5) gNil)))) (tt := tYes) rfl sc_Rule_init.nd (pi_list (pv 1)) (blkOk_by (own := [("side", 4), ("word", 5)]) (N := ["self", "terms", "words", "place", "side", "word"]) (sc := defScope s_Rule_init) (by decide +kernel)) (fun _ _ _ _ _ => (pg_tup rfl (pgs_cons (pg_name (i := 4) sc_Rule_init.nd rfl (Or.inl rfl)) (pgs_cons (pg_name (i := 5) sc_Rule_init.nd rfl (Or.inl rfl)) pgs_nil)))) (fun _ _ _ _ _ => pts_nil) (fun _ _ _ _ _ => (pe_tup (pa_cons (pv 4) (pa_cons (pv 5) pa_nil))))) pa_nil)) rfl)))), ?_⟩
    have hlen : ts.length ≤ 7 := by
      have e : (ts.map (·.2)) ⊆ List.range 7 := fun k hk => by
        obtain ⟨t, ht, e⟩ := List.mem_map.mp hk
        rw [← e]
        exact List.mem_range.mpr (h7 t ht)
      have z := List.Nodup.length_le_of_subset hnd e
      rw [List.length_map, List.length_range] at z
      exact z
    refine ⟨Nat.zero_le _, fun lw hlw => ?_⟩
    have nlx : x ≠ lw := ne_of_none hx hlw
    have s0 : Same H (upd H lw (.lst [])) := same_upd hlw
    have htp0 := Same.seq s0 htp
    refine ⟨_, rfl, tp, xs, rfl, htp0, for_enum (K := K) (a := tp) (xs := xs) (fun i σ H' => ∃ v3 v4 v5 : Option V, σ = [some (.ref x), some (.ref tp), some (.ref lw), v3, v4, v5] ∧ Same H H' ∧ H' lw = some (.lst (((ts.map (·.2)).take i).map fun j => V.str (wd j))))
      ⟨none, none, none, rfl, s0, upd_same⟩ (fun i σ H' _ ⟨_, _, _, _, s1, _⟩ => Same.seq s1 htp) ?_ ?_⟩
    · rintro i y σ H' T' hy ⟨v3, v4, v5, rfl, s1, hlw1⟩ hT
      obtain ⟨t, ht, hi⟩ := there hts.1 hy
      obtain ⟨k7, pt, rfl, hpt⟩ := hts.2 i y t hy ht
      have hpt' := sqt_same hpt (s1.trans (same_upd (o := .tup [.int (i : Nat), .ref pt]) hT))
      have hlw2 : (upd H' T' (.tup [.int (i : Nat), .ref pt])) lw = some (.lst (((ts.map (·.2)).take i).map fun j => V.str (wd j))) := by rw [upd_ne (ne_of_none hlw1 hT)]; exact hlw1
      obtain ⟨u, hu, _⟩ : ∃ u : Value, PySem.W.nsIn K A_OTHER_SIDE (sd t.1) = some (some u) ∧ True := by
        rcases sd_cases t.1 with ⟨_, e2⟩ | ⟨_, e2⟩
        · obtain ⟨u, h1, _⟩ := T.e_OTHER_SIDE_least
          exact ⟨u, by rw [e2]; exact h1, trivial⟩
        · obtain ⟨u, h1, _⟩ := T.e_OTHER_SIDE_most
          exact ⟨u, by rw [e2]; exact h1, trivial⟩
      refine ⟨T', _, rfl, SqT.of upd_same, rfl, _, _, rfl, _, _, rfl, pt, _, rfl, hpt', rfl, _, _, rfl, _, _, rfl, rfl, rfl, ?_⟩
      refine ⟨_, rfl, _, _, rfl, rfl, hu, _, rfl, iteF ?_⟩
      refine ⟨_, rfl, A_WORDS, _, rfl, .inr (T.q_WORDS _), rfl, rfl, _, rfl, ?_⟩
      rw [words_in k7]
      refine iteF ?_
      have hni : inV (.str (wd t.2)) (((ts.map (·.2)).take i).map fun j => V.str (wd j)) = false := by
        refine Bool.eq_false_iff.mpr fun z => ?_
        obtain ⟨j, hj, e⟩ := in_words.mp z
        have hj7 : j < 7 := by
          obtain ⟨t', ht', e'⟩ := List.mem_map.mp (List.mem_of_mem_take hj)
          rw [← e']
          exact h7 t' ht'
        have ej := wd_inj j hj7 t.2 k7 e
        subst ej
        obtain ⟨m, hm, em⟩ := List.getElem_of_mem hj
        rw [List.getElem_take] at em
        have hm' : m < i := by rw [List.length_take] at hm; omega
        have e2 : (ts.map (·.2))[i]? = some t.2 := by rw [List.getElem?_map, ht] <;> rfl
        have hi' : i < (ts.map (·.2)).length := by rw [List.length_map]; exact hi
        rw [List.getElem?_eq_getElem hi'] at e2
        have := (List.getElem_inj hnd (h₀ := by omega) (h₁ := hi')).mp (em.trans (Option.some.inj e2).symm)
        omega
      refine ⟨_, rfl, _, rfl, lw, _, rfl, .inl (SqL.of hlw2), rfl, flat_words _, _, rfl, ?_⟩
      rw [hni]
      refine iteF ?_
      refine ⟨_, rfl, .inl ⟨rfl, _, SqL.of hlw2⟩, _, rfl, lw, _, _, rfl, rfl, hlw2, small1000 (by rw [List.length_map, List.length_take, List.length_map]; omega), ?_⟩
      refine ⟨_, _, _, rfl, fun b o e => ?_, ?_⟩
      · have nb : b ≠ lw := ne_of_none e hlw
        rw [upd_ne nb, upd_ne (ne_of_none (s1 _ _ e) hT)]
        exact s1 _ _ e
      · rw [upd_same, ← take_snoc (show (ts.map (·.2))[i]? = some t.2 by rw [List.getElem?_map, ht] <;> rfl), List.map_append]
        rfl
    · rintro σ H' ⟨v3, v4, v5, rfl, s1, hlw1⟩
      have htp1 := Same.seq s1 htp
      refine ⟨_, rfl, tp, rfl, ⟨_, htp1⟩, fun D hD => lc_list (K := K) (a := tp) (xs := xs) (fun i H2 => Same H' H2 ∧ ∃ ys, H2 D = some (.lst ys) ∧ TermsV K H2 ys (ts.take i)) ⟨same_upd hD, [], upd_same, TermsV.nil⟩ (fun i H2 _ ⟨s2, _⟩ => Same.seq s2 htp1) ?_ ?_⟩
      · rintro i y H2 hy ⟨s2, ys, hD2, hys⟩
        obtain ⟨t, ht, hi⟩ := there hts.1 hy
        obtain ⟨k7, pt, rfl, hpt⟩ := hts.2 i y t hy ht
        have hpt' := sqt_same hpt (s1.trans s2)
        refine ⟨pt, _, rfl, hpt', rfl, _, _, rfl, _, _, rfl, rfl, rfl, ?_⟩
        refine tyes ?_
        refine ⟨_, rfl, _, rfl, (by show 2 ≤ sizeLine; decide), fun T' hT => ?_⟩
        have hD3 : (upd H2 T' (.tup [.str (sd t.1), .str (wd t.2)])) D = some (.lst ys) := by rw [upd_ne (ne_of_none hD2 hT)]; exact hD2
        have e1 : ys.length ≤ 1000 := by rw [hys.1, List.length_take]; omega
        refine ⟨ys, hD3, small1000 e1, fun b o e => ?_, _, upd_same, ?_⟩
        · rw [upd_ne (ne_of_none e hD), upd_ne (ne_of_none (s2 _ _ e) hT)]
          exact s2 _ _ e
        · have sK : Kp D H2 (upd (upd H2 T' (.tup [.str (sd t.1), .str (wd t.2)])) D (.lst (ys ++ [.ref T']))) := fun b o nb e => by
            rw [upd_ne nb, upd_ne (ne_of_none e hT)]
            exact e
          have nTD : T' ≠ D := fun z => by rw [z, hD2] at hT; cases hT
          have up : TermsV K (upd (upd H2 T' (.tup [.str (sd t.1), .str (wd t.2)])) D (.lst (ys ++ [.ref T']))) ys (ts.take i) := ⟨hys.1, fun j z u h1 h2 => by
            obtain ⟨u7, pz, ez, hz⟩ := hys.2 j z u h1 h2
            refine ⟨u7, pz, ez, ?_⟩
            rcases hz with (hz | ⟨o, hz⟩) | hz
            · exact .inl (.inl (sK _ _ (fun w => by rw [w, hD2] at hz; cases hz) hz))
            · exact .inl (.inr ⟨o, sK _ _ (fun w => by rw [w, hD2] at hz; cases hz) hz⟩)
            · exact .inr hz⟩
          rw [← take_snoc ht]
          exact up.snoc ⟨k7, T', rfl, SqT.of (by rw [upd_ne nTD, upd_same])⟩
      · rintro H2 ⟨s2, ys, hD2, hys⟩
        rw [hts.1, List.take_length] at hys
        refine ⟨D, _, rfl, .inl ⟨SqL.of hD2, fun z hz => ?_⟩⟩
        have s12 := s1.trans s2
        have hx2 : (upd H2 z (.tup ys)) x = some (.ins C_Rule dx []) := by rw [upd_ne (ne_of_none (s12 _ _ hx) hz)]; exact s12 _ _ hx
        refine ⟨_, rfl, x, C_Rule, dx, [], rfl, hx2, T.cl_Rule, T.nf_Rule_terms, (by show 0 < 1000; decide), ?_⟩
        have kK : Kp x H2 (upd (upd H2 z (.tup ys)) x (.ins C_Rule dx (putF "terms" (.ref z) []))) := fun b o nb e => by
          rw [upd_ne nb, upd_ne (ne_of_none e hz)]
          exact e
        refine q _ (fun b o nb e => kK _ _ nb (s12 _ _ e)) ⟨dx, z, ys, upd_same, ?_, hys.1, fun j v u h1 h2 => ?_⟩
        · rw [upd_ne (fun w => by rw [w, s12 _ _ hx] at hz; cases hz), upd_same]
        · obtain ⟨u7, pz, ez, hz2⟩ := hys.2 j v u h1 h2
          refine ⟨u7, pz, ez, ?_⟩
          rcases hz2 with (h | ⟨o, h⟩) | h
          · exact .inl (.inl (kK _ _ (fun w => by rw [w, s12 _ _ hx] at h; cases h) h))
          · exact .inl (.inr ⟨o, kK _ _ (fun w => by rw [w, s12 _ _ hx] at h; cases h) h⟩)
          · exact .inr h
theorem ok_Lcell {f : Addr} {fd : FuncData} (F : Fun K "_law_cell" "_law_cell" s_Lcell f fd) (T : Txt w K mg C_Rule A_WORDS A_OTHER_SIDE)  :
    FnOk P w K mg base CX0 1 f fd ["_law_script", "_law_at"] (sp_Lcell K) := by
  refine F.ok sc_Lcell (fun vs H Q E h => ?_) (fun cdv A outer s H vs Q E hr h => ?_)
  · obtain ⟨l, ns, j, rfl, _⟩ := h
    rfl
  · obtain ⟨l, ns, j, rfl, hs, q⟩ := h
    refine ⟨_, (pss_cons (ps_if (pt_cmpR op_lt (pv 1) (pe_callB call_len_seq (by rfl) T.n_len PySem.boot_len (pa_cons (pv 0) pa_nil)) (nomark _)) (pss_one (ps_ret (pe_callB call_abs (by rfl) T.n_abs (by decide +kernel) (pa_cons (pe_callTy call_int1 (by rfl) T.n_int (by decide +kernel) (pa_cons (pe_ix ix_list (pv 0) (pv 1) (fun _ _ => rfl)) pa_nil)) pa_nil)))) pss_nil)
      (pss_one (ps_ret pe_int))), ?_⟩
    refine ⟨_, rfl, _, rfl, l, _, rfl, .inl hs, _, _, rfl, rfl, _, rfl, ?_⟩
    refine ite2 (fun hlt => ?_) (fun _ => q 0 (by decide))
    have hj : j < ns.length := by
      have z := of_decide_eq_true hlt
      rw [List.length_map] at z
      omega
    have hat : (ns.map V.int)[j]? = some (V.int ns[j]) := by rw [List.getElem?_map, List.getElem?_eq_getElem hj] <;> rfl
    refine ⟨_, rfl, _, rfl, l, _, _, _, rfl, rfl, hs, atI_nat hat, .inl ⟨_, rfl, _, rfl, q _ ?_⟩⟩
    split <;> omega
theorem ok_Lpool {f : Addr} {fd : FuncData} (F : Fun K "_law_pool" "_law_pool" s_Lpool f fd) (T : Txt w K mg C_Rule A_WORDS A_OTHER_SIDE)  :
    FnOk P w K mg base CX0 1 f fd ["_law_cell_here"] sp_Lpool := by
  refine F.ok sc_Lpool (fun vs H Q E h => ?_) (fun cdv A outer s H vs Q E hr h => ?_)
  · obtain ⟨c, rfl, _⟩ := h
    rfl
  · obtain ⟨c, rfl, q⟩ := h
    refine ⟨_, (pss_cons (ps_if (pt_cmpR op_ge (pv 0) (pe_op op_pow pe_int pe_int) (nomark _)) (pss_one (ps_ret (pe_lst (pa_cons (pv 0) (pa_cons (pv 0) (pa_cons pe_int pa_nil)))))) pss_nil)
      (pss_one (ps_ret (pe_lst (pa_cons pe_int (pa_cons (pv 0) (pa_cons pe_int pa_nil))))))), ?_⟩
    refine ⟨_, rfl, _, _, rfl, rfl, ⟨by decide, by decide, by decide⟩, _, _, rfl, rfl, _, rfl, ?_⟩
    refine ite2 (fun _ => ?_) (fun _ => ?_)
    · exact ⟨_, rfl, _, rfl, (by show 3 ≤ sizeLine; decide), fun p hp => q p _ hp (same_upd hp) ⟨_, _, _, upd_same⟩⟩
    · exact ⟨_, rfl, (by show 3 ≤ sizeLine; decide), fun p hp => q p _ hp (same_upd hp) ⟨_, _, _, upd_same⟩⟩
theorem ok_Ltake {f : Addr} {fd : FuncData} (F : Fun K "_law_take" "_law_take" s_Ltake f fd) (T : Txt w K mg C_Rule A_WORDS A_OTHER_SIDE)  :
    FnOk P w K mg base CX0 1 f fd ["_law_pool_here", "_law_many"] sp_Ltake := by
  refine F.ok sc_Ltake (fun vs H Q E h => ?_) (fun cdv A outer s H vs Q E hr h => ?_)
  · obtain ⟨p, many, rfl, _⟩ := h
    rfl
  · obtain ⟨p, many, rfl, ⟨x, y, z, hp⟩, hm, hb, q⟩ := h
    refine ⟨_, (pss_cons (ps_asg (pe_op op_add (pe_ix ix_list (pv 0) pe_int (fun _ _ => rfl)) pe_int) (pg_sub (pv 0) pe_int set_list))
      (pss_cons (ps_if (pt_cmpR op_gt (pe_ix ix_list (pv 0) pe_int (fun _ _ => rfl)) pe_int (nomark _)) (pss_cons (ps_set (i := 2) sc_Ltake.nd rfl (Or.inl rfl) (pe_op op_mod (pe_callTy call_int1 (by rfl) T.n_int (by decide +kernel) (pa_cons (pe_ix ix_list (pv 0) pe_int (fun _ _ => rfl)) pa_nil)) (pv 1)))
      (pss_cons (ps_asg (pe_op op_fdivW (pe_ix ix_list (pv 0) pe_int (fun _ _ => rfl)) (pv 1)) (pg_sub (pv 0) pe_int set_list))
      (pss_one (ps_ret (pv 2))))) pss_nil)
      (pss_cons (ps_set (i := 3) sc_Ltake.nd rfl (Or.inl rfl) (pe_op op_mod (pe_callTy call_int1 (by rfl) T.n_int (by decide +kernel) (pa_cons (pe_op op_mulA (pe_op op_add (pe_ix ix_list (pv 0) pe_int (fun _ _ => rfl)) (pe_op op_mulA pe_int (pe_ix ix_list (pv 0) pe_int (fun _ _ => rfl)))) pe_int) pa_nil)) pe_int))
      (pss_cons (ps_set (i := 3) sc_Ltake.nd rfl (Or.inl rfl) (pe_op op_mod (pe_callTy call_int1 (by rfl) T.n_int (by decide +kernel) (pa_cons (pe_op op_add (pe_op op_mulA (pv 3) pe_int) (pe_op op_mulA pe_int (pe_ix ix_list (pv 0) pe_int (fun _ _ => rfl)))) pa_nil)) pe_int))
      (pss_one (ps_ret (pe_op op_mod (pe_callTy call_int1 (by rfl) T.n_int (by decide +kernel) (pa_cons (pe_op op_fdivW (pv 3) pe_int) pa_nil)) (pv 1)))))))), ?_⟩
    refine ⟨_, rfl, p, _, _, _, rfl, rfl, SqL.of hp, at2, _, _, rfl, rfl, _, rfl, p, _, _, _, rfl, rfl, hp, rfl, ?_⟩
    refine ⟨_, rfl, p, _, _, _, rfl, rfl, SqL.of upd_same, at0, _, _, rfl, rfl, _, rfl, ?_⟩
    refine ite2 (fun _ => ?_) (fun _ => ?_)
    · refine ⟨_, rfl, p, _, _, _, rfl, rfl, SqL.of upd_same, at0, .inl ⟨_, rfl, _, rfl, _, _, rfl, rfl, hm, ?_⟩⟩
      refine ⟨_, rfl, p, _, _, _, rfl, rfl, SqL.of upd_same, at0, _, rfl, _, _, rfl, rfl, wide_div hm hb (by decide) (by decide), _, rfl, p, _, _, _, rfl, rfl, upd_same, rfl, ?_⟩
      exact ⟨_, rfl, q _ _ (Kp.trans Kp.upd Kp.upd) ⟨_, _, _, upd_same⟩ (Int.emod_nonneg _ (by omega)) (Int.emod_lt_of_pos _ hm)⟩
    · refine ⟨_, rfl, p, _, _, _, rfl, rfl, SqL.of upd_same, at1, _, rfl, p, _, _, _, rfl, rfl, SqL.of upd_same, at2, _, _, rfl, rfl, .inl (.inl ⟨by decide, by decide⟩), _, _, rfl, rfl, _, _, rfl, rfl, .inl (.inr ⟨by decide, by decide⟩), .inl ⟨_, rfl, _, _, rfl, rfl, (by show (0 : Int) < 2147483647; decide), ?_⟩⟩
      refine ⟨_, rfl, _, _, rfl, rfl, .inl (.inr ⟨by decide, by decide⟩), _, rfl, p, _, _, _, rfl, rfl, SqL.of upd_same, at2, _, _, rfl, rfl, .inl (.inl ⟨by decide, by decide⟩), _, _, rfl, rfl, .inl ⟨_, rfl, _, _, rfl, rfl, (by show (0 : Int) < 2147483399; decide), ?_⟩⟩
      refine ⟨_, rfl, _, _, rfl, rfl, wide_div (b := 300) (by decide) (by decide) (by decide) (by decide), .inl ⟨_, rfl, _, rfl, _, _, rfl, rfl, hm, ?_⟩⟩
      exact q _ _ Kp.upd ⟨_, _, _, upd_same⟩ (Int.emod_nonneg _ (by omega)) (Int.emod_lt_of_pos _ hm)
theorem okr_Lsame {f : Addr} {fd : FuncData} {j n : Nat} (F : Fun K "_law_same" "_law_same" s_Lsame f fd) (T : Txt w K mg C_Rule A_WORDS A_OTHER_SIDE) (c_Lsame : Cal CX0 P w K mg base j "_law_same" (sp_Lsame K n)) :
    FnOk P w K mg base CX0 (j + 1) f fd ["_law_told", "_law_due"] (sp_Lsame K (n + 1)) := by
  refine F.ok sc_Lsame (fun vs H Q E h => ?_) (fun cdv A outer s H vs Q E hr h => ?_)
  · obtain ⟨x, y, rfl, _⟩ := h
    rfl
  · obtain ⟨x, y, rfl, hv, q⟩ := h
    refine ⟨_, (pss_cons (ps_if (pt_cmpR op_isN (pv 1) pe_non (nomark _)) (pss_one (ps_ret (pe_cmpR op_isN (pv 0) pe_non (nomark _)))) pss_nil)
      (pss_cons (ps_if (pt_cmpR op_isB (pv 1) pe_bl (nomark _)) (pss_one (ps_ret (pe_cmpR op_isB (pv 0) pe_bl (nomark _)))) pss_nil)
      (pss_cons (ps_if (pt_cmpR op_isB (pv 1) pe_bl (nomark _)) (pss_one (ps_ret (pe_cmpR op_isB (pv 0) pe_bl (nomark _)))) pss_nil)
      (pss_cons (ps_if (pt_val (pe_callB call_isi (by rfl) T.n_isinstance (by decide +kernel) (pa_cons (pv 1) (pa_cons (pe_bltn (v := .ty "int") (by rfl) T.n_int (by decide +kernel) rfl) pa_nil)))) (pss_one (ps_ret (pe_and (pe_callB call_isi (by rfl) T.n_isinstance (by decide +kernel) (pa_cons (pv 0) (pa_cons (pe_bltn (v := .ty "int") (by rfl) T.n_int (by decide +kernel) rfl) pa_nil))) (pe_and (pe_not (pe_callB call_isi (by rfl) T.n_isinstance (by decide +kernel) (pa_cons (pv 0) (pa_cons (pe_bltn (v := .ty "bool") (by rfl) T.n_bool (by decide +kernel) rfl) pa_nil)))) (pe_one (pe_cmpR op_eq (pv 0) (pv 1) (nomark _))))))) pss_nil)
      (pss_cons (ps_if (pt_val (pe_callB call_isi (by rfl) T.n_isinstance (by decide +kernel) (pa_cons (pv 1) (pa_cons (pe_bltn (v := .ty "str") (by rfl) T.n_str (by decide +kernel) rfl) pa_nil)))) (pss_one (ps_ret (pe_and (pe_callB call_isi (by rfl) T.n_isinstance (by decide +kernel) (pa_cons (pv 0) (pa_cons (pe_bltn (v := .ty "str") (by rfl) T.n_str (by decide +kernel) rfl) pa_nil))) (pe_one (pe_cmpR op_eq (pv 0) (pv 1) (nomark _)))))) pss_nil)
      (pss_cons (ps_if (PW.pt (pw_and (pt_val (pe_callB call_isi (by rfl) T.n_isinstance (by decide +kernel) (pa_cons (pv 1) (pa_cons (pe_bltn (v := .ty "tuple") (by rfl) T.n_tuple (by decide +kernel) rfl) pa_nil)))) (pw_and1 (pt_not (pt_val (pe_callB call_isi (by rfl) T.n_isinstance (by decide +kernel) (pa_cons (pv 0) (pa_cons (pe_bltn (v := .ty "tuple") (by rfl) T.n_tuple (by decide +kernel) rfl) pa_nil)))))))) (pss_one (ps_ret pe_bl)) pss_nil)
      (pss_cons (ps_if (PW.pt (pw_and (pt_val (pe_callB call_isi (by rfl) T.n_isinstance (by decide +kernel) (pa_cons (pv 1) (pa_cons (pe_bltn (v := .ty "list") (by rfl) T.n_list (by decide +kernel) rfl) pa_nil)))) (pw_and1 (pt_not (pt_val (pe_callB call_isi (by rfl) T.n_isinstance (by decide +kernel) (pa_cons (pv 0) (pa_cons (pe_bltn (v := .ty "list") (by rfl) T.n_list (by decide +kernel) rfl) pa_nil)))))))) (pss_one (ps_ret pe_bl)) pss_nil)
      (pss_cons (ps_if (pt_cmpR op_ne (pe_callB call_len_seq (by rfl) T.n_len PySem.boot_len (pa_cons (pv 0) pa_nil)) (pe_callB call_len_seq (by rfl) T.n_len PySem.boot_len (pa_cons (pv 1) pa_nil)) (nomark _)) (pss_one (ps_ret pe_bl)) pss_nil)
      (pss_cons (ps_for PassesOwn.never rfl (pi_range1 (by rfl) T.n_range (pa_cons (pe_callB call_len_seq (by rfl) T.n_len PySem.boot_len (pa_cons (pv 1) pa_nil)) pa_nil)) (pg_name (i := 2) sc_Lsame.nd rfl (Or.inl rfl))
        (pss_one (ps_if (pt_not (pt_val (pc_c c_Lsame hr (Nat.le_refl _) rfl pass0 (pa_cons (pe_ix ix_seq (pv 0) (pv 2) (fun _ _ => rfl)) (pa_cons (pe_ix ix_seq (pv 1) (pv 2) (fun _ _ => rfl)) pa_nil))))) (pss_one (ps_ret pe_bl)) pss_nil)))
      (pss_one (ps_ret pe_bl))))))))))), ?_⟩
    have kL1 : PySem.W.kitOne K (.type "list") (.type "int") = some false := kit_ty (by decide +kernel)
    have kL2 : PySem.W.kitOne K (.type "list") (.type "str") = some false := kit_ty (by decide +kernel)
    have kL3 : PySem.W.kitOne K (.type "list") (.type "tuple") = some false := kit_ty (by decide +kernel)
    have kL4 : PySem.W.kitOne K (.type "list") (.type "list") = some true := kit_ty (by decide +kernel)
    have kT1 : PySem.W.kitOne K (.type "tuple") (.type "int") = some false := kit_ty (by decide +kernel)
    have kT2 : PySem.W.kitOne K (.type "tuple") (.type "str") = some false := kit_ty (by decide +kernel)
    have kT3 : PySem.W.kitOne K (.type "tuple") (.type "tuple") = some true := kit_ty (by decide +kernel)
    have kT4 : PySem.W.kitOne K (.type "tuple") (.type "list") = some false := kit_ty (by decide +kernel)
    have hv' : (flatD x = true ∧ x = y) ∨ (∃ m, n = m + 1 ∧ ∃ (a b : Addr) (xs ys : List V), x = .ref a ∧ y = .ref b ∧ SqL K H a xs ∧ SqL K H b ys ∧ xs.length ≤ sizeLine ∧ Pairs (SameV K H m) xs ys) ∨
        (∃ m, n = m + 1 ∧ ∃ (a b : Addr) (xs ys : List V), x = .ref a ∧ y = .ref b ∧ SqT K H a xs ∧ SqT K H b ys ∧ xs.length ≤ sizeLine ∧ Pairs (SameV K H m) xs ys) := by
      cases n with
      | zero => exact .inl hv
      | succ m =>
        rcases hv with h | h | h
        · exact .inl h
        · exact .inr (.inl ⟨m, rfl, h⟩)
        · exact .inr (.inr ⟨m, rfl, h⟩)
    rcases hv' with ⟨hf, e⟩ | ⟨m, rfl, a, b, xs, ys, rfl, rfl, ha, hb, hl, hp⟩ | ⟨m, rfl, a, b, xs, ys, rfl, rfl, ha, hb, hl, hp⟩
    · subst e
      cases x with
      | non => exact ⟨_, rfl, rfl, _, rfl, iteDT rfl ⟨_, rfl, rfl, q⟩⟩
      | bl b =>
        refine ⟨_, rfl, rfl, _, rfl, iteDF (by intro z; cases z) ?_⟩
        cases b with
        | true => exact ⟨_, rfl, _, rfl, _, rfl, iteDT rfl ⟨_, rfl, _, rfl, q⟩⟩
        | false => exact ⟨_, rfl, _, rfl, _, rfl, iteDF (by intro z; cases z) ⟨_, rfl, _, rfl, _, rfl, iteDT rfl ⟨_, rfl, _, rfl, q⟩⟩⟩
      | int i =>
        refine ⟨_, rfl, rfl, _, rfl, iteDF (by intro z; cases z) ?_⟩
        refine ⟨_, rfl, _, rfl, _, rfl, iteDF (by intro z; cases z) ?_⟩
        refine ⟨_, rfl, _, rfl, _, rfl, iteDF (by intro z; cases z) ?_⟩
        refine ⟨_, rfl, _, _, _, .type "int", true, rfl, .ty "int", .base (.int i), kit_ty (by decide +kernel), true, rfl, iteT ?_⟩
        refine ⟨_, rfl, _, _, _, .type "int", true, rfl, .ty "int", .base (.int i), kit_ty (by decide +kernel), true, rfl, iteT ?_⟩
        refine ⟨_, rfl, _, _, _, .type "bool", false, rfl, .ty "bool", .base (.int i), kit_ty (by decide +kernel), false, rfl, true, rfl, iteT ?_⟩
        refine ⟨_, rfl, _, rfl, rfl, ?_⟩
        rw [decide_eq_true (show V.int i = V.int i from rfl)]
        exact q
      | str i =>
        refine ⟨_, rfl, rfl, _, rfl, iteDF (by intro z; cases z) ?_⟩
        refine ⟨_, rfl, _, rfl, _, rfl, iteDF (by intro z; cases z) ?_⟩
        refine ⟨_, rfl, _, rfl, _, rfl, iteDF (by intro z; cases z) ?_⟩
        refine ⟨_, rfl, _, _, _, .type "int", false, rfl, .ty "int", .base (.str i), kit_ty (by decide +kernel), false, rfl, iteF ?_⟩
        refine ⟨_, rfl, _, _, _, .type "str", true, rfl, .ty "str", .base (.str i), kit_ty (by decide +kernel), true, rfl, iteT ?_⟩
        refine ⟨_, rfl, _, _, _, .type "str", true, rfl, .ty "str", .base (.str i), kit_ty (by decide +kernel), true, rfl, iteT ?_⟩
        refine ⟨_, rfl, _, rfl, rfl, ?_⟩
        rw [decide_eq_true (show V.str i = V.str i from rfl)]
        exact q
      | _ => exact absurd (show false = true from hf) Bool.false_ne_true
    · refine ⟨_, rfl, rfl, _, rfl, iteDF (by intro z; cases z) ?_⟩
      refine ⟨_, rfl, _, rfl, _, rfl, iteDF (by intro z; cases z) ?_⟩
      refine ⟨_, rfl, _, rfl, _, rfl, iteDF (by intro z; cases z) ?_⟩
      refine ⟨_, rfl, _, _, _, .type "int", false, rfl, .ty "int", tyx_list hb, kL1, false, rfl, iteF ?_⟩
      refine ⟨_, rfl, _, _, _, .type "str", false, rfl, .ty "str", tyx_list hb, kL2, false, rfl, iteF ?_⟩
      refine ⟨_, rfl, _, _, _, .type "tuple", false, rfl, .ty "tuple", tyx_list hb, kL3, false, rfl, iteF (iteF ?_)⟩
      refine ⟨_, rfl, _, _, _, .type "list", true, rfl, .ty "list", tyx_list hb, kL4, true, rfl, iteT ?_⟩
      refine ⟨_, rfl, _, _, _, .type "list", true, rfl, .ty "list", tyx_list ha, kL4, true, rfl, iteF ?_⟩
      refine ⟨_, rfl, a, _, rfl, .inl ha, _, rfl, b, _, rfl, .inl hb, rfl, _, rfl, ?_⟩
      rw [decide_eq_true (show V.int (xs.length : Nat) = V.int (ys.length : Nat) by rw [hp.1])]
      refine iteF ?_
      have hy : ys.length ≤ 16777216 := by rw [← hp.1, ← sizeLine_eq]; exact hl
      refine ⟨_, rfl, b, _, rfl, .inl hb, _, rfl, by omega, by omega, for_range (lo := 0) (n := ((ys.length : Nat) : Int).toNat) (fun i σ H' => H' = H ∧ ∃ v : Option V, σ = [some (.ref a), some (.ref b), v]) ⟨rfl, none, rfl⟩ ?_ ?_⟩
      · rintro i σ H' hi ⟨rfl, v, rfl⟩
        have i1 : i < ys.length := by omega
        have i2 : i < xs.length := by rw [hp.1]; exact i1
        have ex : xs[i]? = some xs[i] := List.getElem?_eq_getElem i2
        have ey : ys[i]? = some ys[i] := List.getElem?_eq_getElem i1
        have ex' := atI_nat ex
        have ey' := atI_nat ey
        rw [show ((i : Nat) : Int) = 0 + ((i : Nat) : Int) by omega] at ex' ey'
        refine ⟨_, rfl, _, rfl, .inl ⟨a, _, _, _, rfl, rfl, ha, ex', _, rfl, _, rfl, .inl ⟨b, _, _, _, rfl, rfl, hb, ey', _, _, rfl, hp.2 i _ _ ex ey, true, rfl, iteF ?_⟩⟩⟩
        exact ⟨rfl, _, rfl⟩
      · rintro σ H' ⟨rfl, v, rfl⟩
        exact q
    · refine ⟨_, rfl, rfl, _, rfl, iteDF (by intro z; cases z) ?_⟩
      refine ⟨_, rfl, _, rfl, _, rfl, iteDF (by intro z; cases z) ?_⟩
      refine ⟨_, rfl, _, rfl, _, rfl, iteDF (by intro z; cases z) ?_⟩
      refine ⟨_, rfl, _, _, _, .type "int", false, rfl, .ty "int", tyx_tup hb, kT1, false, rfl, iteF ?_⟩
      refine ⟨_, rfl, _, _, _, .type "str", false, rfl, .ty "str", tyx_tup hb, kT2, false, rfl, iteF ?_⟩
      refine ⟨_, rfl, _, _, _, .type "tuple", true, rfl, .ty "tuple", tyx_tup hb, kT3, true, rfl, iteT ?_⟩
      refine ⟨_, rfl, _, _, _, .type "tuple", true, rfl, .ty "tuple", tyx_tup ha, kT3, true, rfl, iteF ?_⟩
      refine ⟨_, rfl, _, _, _, .type "list", false, rfl, .ty "list", tyx_tup hb, kT4, false, rfl, iteF (iteF ?_)⟩
      refine ⟨_, rfl, a, _, rfl, .inr ha, _, rfl, b, _, rfl, .inr hb, rfl, _, rfl, ?_⟩
      rw [decide_eq_true (show V.int (xs.length : Nat) = V.int (ys.length : Nat) by rw [hp.1])]
      refine iteF ?_
      have hy : ys.length ≤ 16777216 := by rw [← hp.1, ← sizeLine_eq]; exact hl
      refine ⟨_, rfl, b, _, rfl, .inr hb, _, rfl, by omega, by omega, for_range (lo := 0) (n := ((ys.length : Nat) : Int).toNat) (fun i σ H' => H' = H ∧ ∃ v : Option V, σ = [some (.ref a), some (.ref b), v]) ⟨rfl, none, rfl⟩ ?_ ?_⟩
      · rintro i σ H' hi ⟨rfl, v, rfl⟩
        have i1 : i < ys.length := by omega
        have i2 : i < xs.length := by rw [hp.1]; exact i1
        have ex : xs[i]? = some xs[i] := List.getElem?_eq_getElem i2
        have ey : ys[i]? = some ys[i] := List.getElem?_eq_getElem i1
        have ex' := atI_nat ex
        have ey' := atI_nat ey
        rw [show ((i : Nat) : Int) = 0 + ((i : Nat) : Int) by omega] at ex' ey'
        refine ⟨_, rfl, _, rfl, .inr (.inl ⟨a, _, _, _, rfl, rfl, ha, ex', _, rfl, _, rfl, .inr (.inl ⟨b, _, _, _, rfl, rfl, hb, ey', _, _, rfl, hp.2 i _ _ ex ey, true, rfl, iteF ?_⟩)⟩)⟩
        exact ⟨rfl, _, rfl⟩
      · rintro σ H' ⟨rfl, v, rfl⟩
        exact q
theorem ok_Lsame {f : Addr} {fd : FuncData} (F : Fun K "_law_same" "_law_same" s_Lsame f fd) (T : Txt w K mg C_Rule A_WORDS A_OTHER_SIDE) (m : mg "_law_same" = some (.ref f)) (kp : PySem.W.keepIn K (.ref f) = true) (b : Binds K fd ["_law_told", "_law_due"] []) :
    ∀ n : Nat, FnOk P w K mg base CX0 (n + 1) f fd ["_law_told", "_law_due"] (sp_Lsame K n)
  | 0 => F.ok sc_Lsame (fun _ _ _ _ h => False.elim h) (fun _ _ _ _ _ _ _ _ _ h => False.elim h)
  | n + 1 => okr_Lsame F T (cal_mk (ok_Lsame F T m kp b n) m kp b)
theorem ok_Lmeasure {f : Addr} {fd : FuncData} (F : Fun K "_law_measure" "_law_measure" s_Lmeasure f fd) (T : Txt w K mg C_Rule A_WORDS A_OTHER_SIDE)  :
    FnOk P w K mg base CX0 1 f fd ["_law_car_here", "_law_word"] (sp_Lmeasure K) := by
  refine F.ok sc_Lmeasure (fun vs H Q E h => ?_) (fun cdv A outer s H vs Q E hr h => ?_)
  · obtain ⟨a, k, s', n, l, w', rfl, _⟩ := h
    rfl
  · obtain ⟨a, k, s', n, l, w', rfl, hk, ha, q⟩ := h
    refine ⟨_, (pss_cons (ps_if (pt_cmpR op_eq (pv 1) pe_str (nomark _)) (pss_one (ps_ret (pe_ix ix_tup (pv 0) pe_int (fun _ _ => rfl)))) pss_nil)
      (pss_cons (ps_if (pt_cmpR op_eq (pv 1) pe_str (nomark _)) (pss_one (ps_ret (pe_ix ix_tup (pv 0) pe_int (fun _ _ => rfl)))) pss_nil)
      (pss_cons (ps_if (pt_cmpR op_eq (pv 1) pe_str (nomark _)) (pss_one (ps_ret (pe_ix ix_tup (pv 0) pe_int (fun _ _ => rfl)))) pss_nil)
      (pss_cons (ps_if (pt_cmpR op_eq (pv 1) pe_str (nomark _)) (pss_one (ps_ret (pe_ix ix_tup (pv 0) pe_int (fun _ _ => rfl)))) pss_nil)
      (pss_cons (ps_if (pt_cmpR op_eq (pv 1) pe_str (nomark _)) (pss_one (ps_ret (pe_op op_sub (pe_ix ix_tup (pv 0) pe_int (fun _ _ => rfl)) (pe_ix ix_tup (pv 0) pe_int (fun _ _ => rfl))))) pss_nil)
      (pss_cons (ps_if (pt_cmpR op_eq (pv 1) pe_str (nomark _)) (pss_one (ps_ret (pe_op op_sub (pe_ix ix_tup (pv 0) pe_int (fun _ _ => rfl)) (pe_ix ix_tup (pv 0) pe_int (fun _ _ => rfl))))) pss_nil)
      (pss_one (ps_ret (pe_op op_sub (pe_ix ix_tup (pv 0) pe_int (fun _ _ => rfl)) (pe_ix ix_tup (pv 0) pe_int (fun _ _ => rfl))))))))))), ?_⟩
    have z0 : atI [V.int s', V.int n, V.int l, V.int w'] 0 = some (.int s') := rfl
    have z1 : atI [V.int s', V.int n, V.int l, V.int w'] 1 = some (.int n) := rfl
    have z2 : atI [V.int s', V.int n, V.int l, V.int w'] 2 = some (.int l) := rfl
    have z3 : atI [V.int s', V.int n, V.int l, V.int w'] 3 = some (.int w') := rfl
    match k, hk, q with
    | 0, _, q => exact ⟨_, rfl, rfl, _, rfl, iteDT (by decide +kernel) ⟨_, rfl, a, _, _, _, rfl, rfl, ha, z0, q⟩⟩
    | 1, _, q => exact ⟨_, rfl, rfl, _, rfl, iteDF (by decide +kernel) ⟨_, rfl, rfl, _, rfl, iteDT (by decide +kernel) ⟨_, rfl, a, _, _, _, rfl, rfl, ha, z1, q⟩⟩⟩
    | 2, _, q => exact ⟨_, rfl, rfl, _, rfl, iteDF (by decide +kernel) ⟨_, rfl, rfl, _, rfl, iteDF (by decide +kernel) ⟨_, rfl, rfl, _, rfl, iteDT (by decide +kernel) ⟨_, rfl, a, _, _, _, rfl, rfl, ha, z2, q⟩⟩⟩⟩
    | 3, _, q => exact ⟨_, rfl, rfl, _, rfl, iteDF (by decide +kernel) ⟨_, rfl, rfl, _, rfl, iteDF (by decide +kernel) ⟨_, rfl, rfl, _, rfl, iteDF (by decide +kernel) ⟨_, rfl, rfl, _, rfl, iteDT (by decide +kernel) ⟨_, rfl, a, _, _, _, rfl, rfl, ha, z3, q⟩⟩⟩⟩⟩
    | 4, _, q => exact ⟨_, rfl, rfl, _, rfl, iteDF (by decide +kernel) ⟨_, rfl, rfl, _, rfl, iteDF (by decide +kernel) ⟨_, rfl, rfl, _, rfl, iteDF (by decide +kernel) ⟨_, rfl, rfl, _, rfl, iteDF (by decide +kernel) ⟨_, rfl, rfl, _, rfl, iteDT (by decide +kernel) ⟨_, rfl, a, _, _, _, rfl, rfl, ha, z0, _, rfl, a, _, _, _, rfl, rfl, ha, z2, _, _, rfl, rfl, q⟩⟩⟩⟩⟩⟩
    | 5, _, q => exact ⟨_, rfl, rfl, _, rfl, iteDF (by decide +kernel) ⟨_, rfl, rfl, _, rfl, iteDF (by decide +kernel) ⟨_, rfl, rfl, _, rfl, iteDF (by decide +kernel) ⟨_, rfl, rfl, _, rfl, iteDF (by decide +kernel) ⟨_, rfl, rfl, _, rfl, iteDF (by decide +kernel) ⟨_, rfl, rfl, _, rfl, iteDT (by decide +kernel) ⟨_, rfl, a, _, _, _, rfl, rfl, ha, z1, _, rfl, a, _, _, _, rfl, rfl, ha, z3, _, _, rfl, rfl, q⟩⟩⟩⟩⟩⟩⟩
    | 6, _, q => exact ⟨_, rfl, rfl, _, rfl, iteDF (by decide +kernel) ⟨_, rfl, rfl, _, rfl, iteDF (by decide +kernel) ⟨_, rfl, rfl, _, rfl, iteDF (by decide +kernel) ⟨_, rfl, rfl, _, rfl, iteDF (by decide +kernel) ⟨_, rfl, rfl, _, rfl, iteDF (by decide +kernel) ⟨_, rfl, rfl, _, rfl, iteDF (by decide +kernel) ⟨_, rfl, a, _, _, _, rfl, rfl, ha, z2, _, rfl, a, _, _, _, rfl, rfl, ha, z3, _, _, rfl, rfl, q⟩⟩⟩⟩⟩⟩⟩
theorem ok_Lkey {f : Addr} {fd : FuncData} (F : Fun K "_law_key" "_law_key" s_Lkey f fd) (T : Txt w K mg C_Rule A_WORDS A_OTHER_SIDE) (c_Lmeasure : Cal CX0 P w K mg base 1 "_law_measure" (sp_Lmeasure K)) :
    FnOk P w K mg base CX0 2 f fd ["_law_terms_here", "_law_car_here"] (sp_Lkey K) := by
  refine F.ok sc_Lkey (fun vs H Q E h => ?_) (fun cdv A outer s H vs Q E hr h => ?_)
  · obtain ⟨tl, a, xs, ts, s', n, l, w', rfl, _⟩ := h
    rfl
  · obtain ⟨tl, a, xs, ts, s', n, l, w', rfl, htl, hts, hz, ha, q⟩ := h
    refine ⟨_, (pss_cons (ps_set (i := 2) sc_Lkey.nd rfl (Or.inl rfl) (pe_lst pa_nil))
      (pss_cons (ps_for PassesOwn.never rfl (pi_list (pv 0)) (pg_name (i := 3) sc_Lkey.nd rfl (Or.inl rfl))
        (pss_cons (ps_set (i := 4) sc_Lkey.nd rfl (Or.inl rfl) (pc_c c_Lmeasure hr (by decide) rfl pass0 (pa_cons (pv 1) (pa_cons (pe_ix ix_tup (pv 3) pe_int (fun _ _ => rfl)) pa_nil))))
      (pss_cons (ps_if (pt_cmpR op_eq (pe_ix ix_tup (pv 3) pe_int (fun _ _ => rfl)) pe_str (nomark _)) (pss_one (ps_set (i := 4) sc_Lkey.nd rfl (Or.inl rfl) (pe_op op_sub pe_int (pv 4)))) pss_nil)
      (pss_one (ps_expr (pe_bm PySem.F.plainAttrs_list PySem.F.slot_list_append PySem.F.type_list_append mt_append (pv 2) (pa_cons (pv 4) pa_nil)))))))
      (pss_one (ps_ret (pv 2))))), ?_⟩
    refine ⟨Nat.zero_le _, fun D hD => ?_⟩
    refine ⟨_, rfl, tl, rfl, ⟨_, Same.seq (same_upd hD) htl⟩, for_list (K := K) (a := tl) (xs := xs) (fun i σ H' => ∃ v3 v4 : Option V, σ = [some (.ref tl), some (.ref a), some (.ref D), v3, v4] ∧ Same H H' ∧ H' D = some (.lst ((ts.map fun t => V.int (kn t s' n l w')).take i)))
      ⟨none, none, rfl, same_upd hD, by rw [upd_same] <;> rfl⟩ (fun i σ H' _ ⟨_, _, _, s1, _⟩ => Same.seq s1 htl) ?_ ?_⟩
    · rintro i x σ H' hx ⟨v3, v4, rfl, s1, hl⟩
      obtain ⟨t, ht, hi⟩ := there hts.1 hx
      obtain ⟨h7, pt, rfl, hpt⟩ := hts.2 i x t hx ht
      have hpt' := sqt_same hpt s1
      have ha' := sqt_same ha s1
      have y0 : atI [V.str (sd t.1), V.str (wd t.2)] 0 = some (.str (sd t.1)) := rfl
      have y1 : atI [V.str (sd t.1), V.str (wd t.2)] 1 = some (.str (wd t.2)) := rfl
      have hlen : (List.take i (ts.map fun t => V.int (kn t s' n l w'))).length < sizeLine := small1000 (by rw [List.length_take, List.length_map]; omega)
      have fin : ∀ c : Int, c = kn t s' n l w' → Same H (upd H' D (.lst ((ts.map fun t => V.int (kn t s' n l w')).take i ++ [.int c]))) ∧ (upd H' D (.lst ((ts.map fun t => V.int (kn t s' n l w')).take i ++ [.int c]))) D = some (.lst ((ts.map fun t => V.int (kn t s' n l w')).take (i + 1))) := fun c hc => by
        subst hc
        refine ⟨fun b o e => ?_, ?_⟩
        · rw [upd_ne (ne_of_none e hD)]
          exact s1 _ _ e
        · rw [upd_same, take_snoc (by rw [List.getElem?_map, ht] <;> rfl)]
      refine ⟨_, rfl, _, rfl, pt, _, _, _, rfl, rfl, hpt', y1, a, t.2, s', n, l, w', rfl, h7, ha', ?_⟩
      refine ⟨_, rfl, pt, _, _, _, rfl, rfl, hpt', y0, rfl, _, rfl, ?_⟩
      rcases sd_cases t.1 with ⟨e1, e2⟩ | ⟨e1, e2⟩
      · refine iteDF (by rw [e2]; decide +kernel) ?_
        refine ⟨_, rfl, .inl ⟨rfl, _, SqL.of hl⟩, _, rfl, D, _, _, rfl, rfl, hl, hlen, _, _, rfl, fin _ (by unfold kn; rw [e1, if_pos rfl])⟩
      · refine iteDT (by rw [e2]) ?_
        refine ⟨_, rfl, _, _, rfl, rfl, _, rfl, .inl ⟨rfl, _, SqL.of hl⟩, _, rfl, D, _, _, rfl, rfl, hl, hlen, _, _, rfl, fin _ (by unfold kn; rw [e1, if_neg Bool.false_ne_true]; omega)⟩
    · rintro σ H' ⟨v3, v4, rfl, s1, hl⟩
      refine ⟨_, rfl, q _ D s1 hD ?_⟩
      rw [hl, hts.1, ← List.length_map (f := fun t => V.int (kn t s' n l w')) (as := ts), List.take_length]
theorem ok_Lcar {f : Addr} {fd : FuncData} (F : Fun K "_law_car" "_law_car" s_Lcar f fd) (T : Txt w K mg C_Rule A_WORDS A_OTHER_SIDE) (c_Ltake : Cal CX0 P w K mg base 1 "_law_take" sp_Ltake) :
    FnOk P w K mg base CX0 2 f fd ["_law_pool_here", "_law_longest"] (sp_Lcar K) := by
  refine F.ok sc_Lcar (fun vs H Q E h => ?_) (fun cdv A outer s H vs Q E hr h => ?_)
  · obtain ⟨p, m, rfl, _⟩ := h
    rfl
  · obtain ⟨p, m, rfl, m0, m1, hp, q⟩ := h
    refine ⟨_, (pss_cons (ps_set (i := 2) sc_Lcar.nd rfl (Or.inl rfl) (pe_op op_add pe_int (pc_c c_Ltake hr (by decide) rfl pass0 (pa_cons (pv 0) (pa_cons (pv 1) pa_nil)))))
      (pss_cons (ps_set (i := 3) sc_Lcar.nd rfl (Or.inl rfl) (pe_op op_add pe_int (pc_c c_Ltake hr (by decide) rfl pass0 (pa_cons (pv 0) (pa_cons (pv 2) pa_nil)))))
      (pss_cons (ps_set (i := 4) sc_Lcar.nd rfl (Or.inl rfl) (pe_op op_add pe_int (pc_c c_Ltake hr (by decide) rfl pass0 (pa_cons (pv 0) (pa_cons (pv 2) pa_nil)))))
      (pss_cons (ps_set (i := 5) sc_Lcar.nd rfl (Or.inl rfl) (pe_op op_add (pe_op op_sub (pv 2) (pv 4)) pe_int))
      (pss_cons (ps_if (pt_cmpR op_lt (pv 3) (pv 5) (nomark _)) (pss_one (ps_set (i := 5) sc_Lcar.nd rfl (Or.inl rfl) (pv 3))) pss_nil)
      (pss_one (ps_ret (pe_tup (pa_cons (pv 2) (pa_cons (pv 3) (pa_cons (pv 4) (pa_cons (pe_op op_sub (pv 3) (pc_c c_Ltake hr (by decide) rfl pass0 (pa_cons (pv 0) (pa_cons (pv 5) pa_nil)))) pa_nil)))))))))))), ?_⟩
    refine ⟨_, rfl, _, rfl, p, m, rfl, hp, m0, by omega, fun H1 r1 k1 p1 a0 a1 => ⟨_, _, rfl, rfl, ?_⟩⟩
    refine ⟨_, rfl, _, rfl, p, _, rfl, p1, by omega, by omega, fun H2 r2 k2 p2 b0 b1 => ⟨_, _, rfl, rfl, ?_⟩⟩
    refine ⟨_, rfl, _, rfl, p, _, rfl, p2, by omega, by omega, fun H3 r3 k3 p3 c0 c1 => ⟨_, _, rfl, rfl, ?_⟩⟩
    refine ⟨_, rfl, _, rfl, _, _, rfl, rfl, _, _, rfl, rfl, ?_⟩
    have kk := (k1.trans k2).trans k3
    have last : ∀ mo : Int, 1 ≤ mo → mo ≤ 1 + r2 → mo < 2 ^ 62 → ∀ (H4 : Hp) (r4 : Int), Kp p H3 H4 → PoolAt H4 p → 0 ≤ r4 → r4 < mo → ∀ z, H4 z = none → Q (.ref z) (upd H4 z (.tup [.int (1 + r1), .int (1 + r2), .int (1 + r3), .int (1 + r2 - r4)])) := by
      intro mo o1 o2 _ H4 r4 k4 p4 d0 d1 z hz
      have nz : p ≠ z := fun w => by
        obtain ⟨x, y, zz, e⟩ := p4
        rw [← w, e] at hz
        cases hz
      have hz0 : H z = none := by
        cases e : H z with
        | none => rfl
        | some o =>
          have := (kk.trans k4) z o nz.symm e
          rw [this] at hz
          cases hz
      exact q _ z _ _ _ _ ((kk.trans k4).trans (fun b o nb e => by rw [upd_ne (ne_of_none e hz)]; exact e)) (p4.same (same_upd hz)) hz0 upd_same ⟨by omega, by omega, by omega, by omega, by omega, by omega, by omega, by omega⟩
    refine ⟨_, rfl, _, rfl, _, _, rfl, rfl, _, rfl, ?_⟩
    refine ite2 (fun hc => ?_) (fun hc => ?_)
    · have hc' := of_decide_eq_true hc
      refine ⟨_, rfl, _, rfl, _, rfl, _, rfl, _, rfl, _, rfl, _, rfl, p, _, rfl, p3, by omega, by omega, fun H4 r4 k4 p4 d0 d1 => ⟨_, _, rfl, rfl, (by show 4 ≤ sizeLine; decide), fun z hz => ?_⟩⟩
      exact last _ (by omega) (by omega) (by omega) H4 r4 k4 p4 d0 d1 z hz
    · have hc' : ¬ 1 + r2 < 1 + r1 - (1 + r3) + 1 := fun z => hc (decide_eq_true z)
      refine ⟨_, rfl, _, rfl, _, rfl, _, rfl, _, rfl, _, rfl, p, _, rfl, p3, by omega, by omega, fun H4 r4 k4 p4 d0 d1 => ⟨_, _, rfl, rfl, (by show 4 ≤ sizeLine; decide), fun z hz => ?_⟩⟩
      exact last _ (by omega) (by omega) (by omega) H4 r4 k4 p4 d0 d1 z hz
theorem side_at {r : Int} (h0 : 0 ≤ r) (h1 : r < 2) : atI [V.str "least", V.str "most"] r = some (.str (sd (decide (r = 0)))) := by
  have : r = 0 ∨ r = 1 := by omega
  rcases this with e | e
  · subst e; rfl
  · subst e; rfl
theorem ok_Lterms {f : Addr} {fd : FuncData} (F : Fun K "_law_terms" "_law_terms" s_Lterms f fd) (T : Txt w K mg C_Rule A_WORDS A_OTHER_SIDE) (c_Ltake : Cal CX0 P w K mg base 1 "_law_take" sp_Ltake) :
    FnOk P w K mg base CX0 2 f fd ["_law_pool_here", "_law_most"] (sp_Lterms K) := by
  refine F.ok sc_Lterms (fun vs H Q E h => ?_) (fun cdv A outer s H vs Q E hr h => ?_)
  · obtain ⟨p, m, rfl, _⟩ := h
    rfl
  · obtain ⟨p, m, rfl, hm, hp, q⟩ := h
    refine ⟨_, (pss_cons (ps_set (i := 2) sc_Lterms.nd rfl (Or.inl rfl) (pe_lst (pa_cons pe_str (pa_cons pe_str (pa_cons pe_str (pa_cons pe_str (pa_cons pe_str (pa_cons pe_str (pa_cons pe_str pa_nil)))))))))
      (pss_cons (ps_set (i := 3) sc_Lterms.nd rfl (Or.inl rfl) (pe_lst pa_nil))
      (pss_cons (ps_for PassesOwn.never rfl (pi_range1 (by rfl) T.n_range (pa_cons (pc_c c_Ltake hr (by decide) rfl pass0 (pa_cons (pv 0) (pa_cons (pe_op op_add (pv 1) pe_int) pa_nil))) pa_nil)) (pg_name (i := 4) sc_Lterms.nd rfl (Or.inl rfl))
        (pss_cons (ps_set (i := 5) sc_Lterms.nd rfl (Or.inl rfl) (pe_bm PySem.F.plainAttrs_list PySem.F.slot_list_pop PySem.F.type_list_pop mt_popAt (pv 2) (pa_cons (pc_c c_Ltake hr (by decide) rfl pass0 (pa_cons (pv 0) (pa_cons (pe_callB call_len_seq (by rfl) T.n_len PySem.boot_len (pa_cons (pv 2) pa_nil)) pa_nil))) pa_nil)))
      (pss_one (ps_expr (pe_bm PySem.F.plainAttrs_list PySem.F.slot_list_append PySem.F.type_list_append mt_append (pv 3) (pa_cons (pe_tup (pa_cons (pe_ix ix_list (pe_lst (pa_cons pe_str (pa_cons pe_str pa_nil))) (pc_c c_Ltake hr (by decide) rfl pass0 (pa_cons (pv 0) (pa_cons pe_int pa_nil))) (fun _ _ => rfl)) (pa_cons (pv 5) pa_nil))) pa_nil))))))
      (pss_one (ps_ret (pv 3)))))), ?_⟩
    refine ⟨(by show 7 ≤ sizeLine; decide), fun lw hlw => ?_⟩
    refine ⟨Nat.zero_le _, fun lt hlt => ?_⟩
    have nlt : lt ≠ lw := fun w => by rw [w, upd_same] at hlt; cases hlt
    have hlt0 : H lt = none := by rw [upd_ne nlt] at hlt; exact hlt
    have npw : p ≠ lw := fun w => by obtain ⟨x, y, z, e⟩ := hp; rw [w, hlw] at e; cases e
    have npt : p ≠ lt := fun w => by obtain ⟨x, y, z, e⟩ := hp; rw [w, hlt0] at e; cases e
    have s0 : Same H (upd (upd H lw (.lst [.str "stay", .str "need", .str "left", .str "want", .str "here", .str "got", .str "slack"])) lt (.lst [])) := (same_upd hlw).trans (same_upd hlt)
    refine ⟨_, rfl, _, rfl, _, _, rfl, rfl, p, _, rfl, hp.same s0, by omega, by omega, fun H1 r k1 p1 r0 r1 => ?_⟩
    refine ⟨r, rfl, by omega, by omega, for_range (lo := 0) (n := r.toNat) (fun i σ H' => ∃ (v4 v5 : Option V) (W : List Nat) (ts : List (Bool × Nat)) (xs : List V), σ = [some (.ref p), some (.int (m : Int)), some (.ref lw), some (.ref lt), v4, v5] ∧ Kp p H H' ∧ PoolAt H' p ∧
        H' lw = some (.lst (W.map fun k => V.str (wd k))) ∧ H' lt = some (.lst xs) ∧ TermsV K H' xs ts ∧ W.length + i = 7 ∧ ts.length = i ∧ (W ++ ts.map (·.2)).Nodup ∧ (∀ k ∈ W, k < 7) ∧ (∀ t ∈ ts, t.2 < 7))
      ⟨none, none, [0, 1, 2, 3, 4, 5, 6], [], [], rfl, fun b o nb e => k1 _ _ nb (s0 _ _ e), p1, k1 _ _ npw.symm (by rw [upd_ne nlt.symm, upd_same] <;> rfl), k1 _ _ npt.symm upd_same, TermsV.nil, rfl, rfl, by decide, by decide, by intro t ht; cases ht⟩ ?_ ?_⟩
    · rintro i σ H' hi ⟨v4, v5, W, ts, xs, rfl, kk, pp, hw, ht, hts, hW, hT, hnd, hW7, hT7⟩
      have i7 : i < 7 := by omega
      have hz : (W.map fun k => V.str (wd k)).length = W.length := List.length_map ..
      refine ⟨_, rfl, .inl ⟨rfl, _, SqL.of hw⟩, _, rfl, _, rfl, lw, _, rfl, .inl (SqL.of hw), p, _, rfl, pp, by rw [hz]; omega, by rw [hz]; omega, fun H2 r2 k2 p2 a0 a1 => ?_⟩
      rw [hz] at a1
      have kW : r2.toNat < W.length := by omega
      have hw2 := k2 _ _ npw.symm hw
      have ht2 := k2 _ _ npt.symm ht
      obtain ⟨x0, y0, z0, e0⟩ := id pp
      have hts2 := hts.kp k2 e0
      have hget : (W.map fun k => V.str (wd k))[r2.toNat]? = some (.str (wd W[r2.toNat])) := by rw [List.getElem?_map, List.getElem?_eq_getElem kW] <;> rfl
      refine ⟨lw, _, r2, r2.toNat, _, rfl, rfl, hw2, by omega, by omega, seq_ix a0 (by rw [hz]; exact a1), hget, ?_⟩
      have kL : Kp lw H2 (upd H2 lw (.lst ((W.map fun k => V.str (wd k)).eraseIdx r2.toNat))) := Kp.upd
      have hts3 := hts2.kp kL hw2
      have ht3 := kL _ _ nlt ht2
      have p3 : PoolAt (upd H2 lw (.lst ((W.map fun k => V.str (wd k)).eraseIdx r2.toNat))) p := p2.kp kL npw
      have hw3 : (upd H2 lw (.lst ((W.map fun k => V.str (wd k)).eraseIdx r2.toNat))) lw = some (.lst ((W.eraseIdx r2.toNat).map fun k => V.str (wd k))) := by rw [upd_same, erase_map]
      generalize hH3 : upd H2 lw (.lst ((W.map fun k => V.str (wd k)).eraseIdx r2.toNat)) = H3 at *
      have kk3 : Kp p H H3 := fun b o nb e => kL _ _ (fun w => by rw [w, hlw] at e; cases e) (k2 _ _ nb (kk _ _ nb e))
      refine ⟨_, rfl, .inl ⟨rfl, _, SqL.of ht3⟩, (by show 2 ≤ sizeLine; decide), fun z hz' => ?_⟩
      have sz : Same H3 (upd H3 z (.lst [.str "least", .str "most"])) := same_upd hz'
      refine ⟨_, rfl, p, 2, rfl, p3.same sz, by decide, by decide, fun H4 r4 k4 p4 c0 c1 => ?_⟩
      have npz : p ≠ z := fun w => by obtain ⟨x, y, zz, e⟩ := p3; rw [w, hz'] at e; cases e
      have hz4 := k4 z _ npz.symm upd_same
      refine ⟨z, _, _, _, rfl, rfl, SqL.of hz4, side_at c0 c1, _, rfl, (by show 2 ≤ sizeLine; decide), fun T' hT' => ?_⟩
      obtain ⟨x3, y3, z3, e3⟩ := p3.same sz
      have hts4 := ((hts3.same sz).kp k4 e3).same (same_upd (o := .tup [.str (sd (decide (r4 = 0))), .str (wd W[r2.toNat])]) hT')
      have ht4 : (upd H4 T' (.tup [.str (sd (decide (r4 = 0))), .str (wd W[r2.toNat])])) lt = some (.lst xs) := same_upd hT' _ _ (k4 _ _ npt.symm (sz _ _ ht3))
      have hw4 : (upd H4 T' (.tup [.str (sd (decide (r4 = 0))), .str (wd W[r2.toNat])])) lw = some (.lst ((W.eraseIdx r2.toNat).map fun k => V.str (wd k))) := same_upd hT' _ _ (k4 _ _ npw.symm (sz _ _ hw3))
      refine ⟨lt, _, _, rfl, rfl, ht4, small1000 (by rw [hts.1]; omega), ?_⟩
      have kT : Kp lt (upd H4 T' (.tup [.str (sd (decide (r4 = 0))), .str (wd W[r2.toNat])])) (upd (upd H4 T' (.tup [.str (sd (decide (r4 = 0))), .str (wd W[r2.toNat])])) lt (.lst (xs ++ [.ref T']))) := Kp.upd
      have nTt : T' ≠ lt := fun w => by rw [w] at hT'; have := k4 _ _ npt.symm (sz _ _ ht3); rw [this] at hT'; cases hT'
      have pm : (W.eraseIdx r2.toNat ++ (ts ++ [(decide (r4 = 0), W[r2.toNat])]).map (·.2)).Perm (W ++ ts.map (·.2)) := by
        rw [List.map_append]
        have p1 := get_erase_perm kW
        refine List.Perm.trans ?_ (List.Perm.append_right (ts.map (·.2)) p1)
        rw [← List.append_assoc]
        exact List.perm_append_comm.trans (List.Perm.refl _)
      refine ⟨_, _, W.eraseIdx r2.toNat, ts ++ [(decide (r4 = 0), W[r2.toNat])], xs ++ [.ref T'], rfl, fun b o nb e => ?_, ?_, kT _ _ nlt.symm hw4, upd_same, (hts4.kp kT ht4).snoc ⟨hW7 _ (List.getElem_mem kW), T', rfl, SqT.of (kT _ _ nTt upd_same)⟩, ?_, ?_, pm.nodup_iff.mpr hnd, fun k hk => hW7 k (List.mem_of_mem_eraseIdx hk), fun t h' => ?_⟩
      · exact kT _ _ (fun w => by rw [w, hlt0] at e; cases e) (same_upd hT' _ _ (k4 _ _ nb (sz _ _ (kk3 _ _ nb e))))
      · exact (p4.same (same_upd hT')).kp kT npt
      · rw [List.length_eraseIdx_of_lt kW]; omega
      · rw [List.length_append, hT] <;> rfl
      · rcases List.mem_append.mp h' with h' | h'
        · exact hT7 t h'
        · rw [List.mem_singleton] at h'
          rw [h']
          exact hW7 _ (List.getElem_mem kW)
    · rintro σ H' ⟨v4, v5, W, ts, xs, rfl, kk, pp, hw, ht, hts, hW, hT, hnd, hW7, hT7⟩
      exact ⟨_, rfl, q _ lt xs ts kk pp hlt0 ht hts ⟨(List.nodup_append.mp hnd).2.1, hT7⟩ (by omega)⟩
theorem ok_law {f : Addr} {fd : FuncData} (F : Fun K "law" "law" s_law f fd) (T : Txt w K mg C_Rule A_WORDS A_OTHER_SIDE) (c_Lterms : Cal CX0 P w K mg base 2 "_law_terms" (sp_Lterms K)) (c_Lpool : Cal CX0 P w K mg base 1 "_law_pool" sp_Lpool) (c_Lcell : Cal CX0 P w K mg base 1 "_law_cell" (sp_Lcell K)) (c_Lcar : Cal CX0 P w K mg base 2 "_law_car" (sp_Lcar K)) (c_Rule : Mak CX0 P w K mg base 1 "Rule" C_Rule (sp_Rule_init K C_Rule)) (c_Lsame : Cal CX0 P w K mg base 3 "_law_same" (sp_Lsame K 2)) (c_Rule_call : Met CX0 P w K mg base 3 C_Rule "__call__" (sp_Rule_call K C_Rule)) (c_Lkey : Cal CX0 P w K mg base 2 "_law_key" (sp_Lkey K)) :
    FnOk P w K mg base CX0 4 f fd ["_law_script"] (sp_law K) := by
  refine F.ok sc_law (fun vs H Q E h => ?_) (fun cdv A outer s H vs Q E hr h => ?_)
  · obtain ⟨a, ns, rfl, _⟩ := h
    rfl
  · obtain ⟨a, ns, rfl, hS, hlen, q⟩ := h
    refine ⟨_, (pss_cons (ps_set (i := 1) sc_law.nd rfl (Or.inl rfl) (pc_c c_Lterms hr (by decide) rfl pass0 (pa_cons (pc_c c_Lpool hr (by decide) rfl pass0 (pa_cons (pc_c c_Lcell hr (by decide) rfl pass0 (pa_cons (pv 0) (pa_cons pe_int pa_nil))) pa_nil)) (pa_cons pe_int pa_nil))))
      (pss_cons (ps_set (i := 2) sc_law.nd rfl (Or.inl rfl) (pc_c c_Lcar hr (by decide) rfl pass0 (pa_cons (pc_c c_Lpool hr (by decide) rfl pass0 (pa_cons (pc_c c_Lcell hr (by decide) rfl pass0 (pa_cons (pv 0) (pa_cons pe_int pa_nil))) pa_nil)) (pa_cons pe_int pa_nil))))
      (pss_cons (ps_set (i := 3) sc_law.nd rfl (Or.inl rfl) (pc_c c_Lcar hr (by decide) rfl pass0 (pa_cons (pc_c c_Lpool hr (by decide) rfl pass0 (pa_cons (pc_c c_Lcell hr (by decide) rfl pass0 (pa_cons (pv 0) (pa_cons pe_int pa_nil))) pa_nil)) (pa_cons pe_int pa_nil))))
      (pss_cons (ps_set (i := 4) sc_law.nd rfl (Or.inl rfl) (pc_c c_Lterms hr (by decide) rfl pass0 (pa_cons (pc_c c_Lpool hr (by decide) rfl pass0 (pa_cons (pc_c c_Lcell hr (by decide) rfl pass0 (pa_cons (pv 0) (pa_cons pe_int pa_nil))) pa_nil)) (pa_cons pe_int pa_nil))))
      (pss_cons (ps_set (i := 5) sc_law.nd rfl (Or.inl rfl) (pc_mk c_Rule hr (by decide) rfl pass0 (pa_cons (pe_callTy call_list_of (by rfl) T.n_list (by decide +kernel) (pa_cons (pv 1) pa_nil)) pa_nil)))
      (pss_cons (ps_set (i := 6) sc_law.nd rfl (Or.inl rfl) (pc_mk c_Rule hr (by decide) rfl pass0 (pa_cons (pe_callTy call_list_of (by rfl) T.n_list (by decide +kernel) (pa_cons (pv 4) pa_nil)) pa_nil)))
      (pss_cons (ps_if (pt_not (pt_val (pc_c c_Lsame hr (by decide) rfl pass0 (pa_cons (pc_callO c_Rule_call hr (by decide) pass0 (pv 5) (pa_cons (pv 2) pa_nil)) (pa_cons (pe_callTy call_tuple_of (by rfl) T.n_tuple (by decide +kernel) (pa_cons (pc_c c_Lkey hr (by decide) rfl pass0 (pa_cons (pv 1) (pa_cons (pv 2) pa_nil))) pa_nil)) pa_nil))))) (pss_one (ps_ret pe_bl)) pss_nil)
      (pss_cons (ps_if (pt_not (pt_val (pc_c c_Lsame hr (by decide) rfl pass0 (pa_cons (pc_callO c_Rule_call hr (by decide) pass0 (pv 6) (pa_cons (pv 2) pa_nil)) (pa_cons (pe_callTy call_tuple_of (by rfl) T.n_tuple (by decide +kernel) (pa_cons (pc_c c_Lkey hr (by decide) rfl pass0 (pa_cons (pv 4) (pa_cons (pv 2) pa_nil))) pa_nil)) pa_nil))))) (pss_one (ps_ret pe_bl)) pss_nil)
      (pss_cons (ps_if (pt_not (pt_val (pc_c c_Lsame hr (by decide) rfl pass0 (pa_cons (pc_callO c_Rule_call hr (by decide) pass0 (pv 5) (pa_cons (pv 3) pa_nil)) (pa_cons (pe_callTy call_tuple_of (by rfl) T.n_tuple (by decide +kernel) (pa_cons (pc_c c_Lkey hr (by decide) rfl pass0 (pa_cons (pv 1) (pa_cons (pv 3) pa_nil))) pa_nil)) pa_nil))))) (pss_one (ps_ret pe_bl)) pss_nil)
      (pss_cons (ps_if (pt_not (pt_val (pc_c c_Lsame hr (by decide) rfl pass0 (pa_cons (pc_callO c_Rule_call hr (by decide) pass0 (pv 6) (pa_cons (pv 3) pa_nil)) (pa_cons (pe_callTy call_tuple_of (by rfl) T.n_tuple (by decide +kernel) (pa_cons (pc_c c_Lkey hr (by decide) rfl pass0 (pa_cons (pv 4) (pa_cons (pv 3) pa_nil))) pa_nil)) pa_nil))))) (pss_one (ps_ret pe_bl)) pss_nil)
      (pss_one (ps_ret (pc_c c_Lsame hr (by decide) rfl pass0 (pa_cons (pc_callO c_Rule_call hr (by decide) pass0 (pv 5) (pa_cons (pv 2) pa_nil)) (pa_cons (pe_callTy call_tuple_of (by rfl) T.n_tuple (by decide +kernel) (pa_cons (pc_c c_Lkey hr (by decide) rfl pass0 (pa_cons (pv 1) (pa_cons (pv 2) pa_nil))) pa_nil)) pa_nil))))))))))))))), ?_⟩
    refine ⟨_, rfl, a, ns, 0, rfl, hS, fun c0 _ => ⟨c0, rfl, fun z0 Ha0 m0 u0 P0 => ⟨z0, 7, rfl, by decide, P0, fun Hb0 q0 xs0 ts0 k0 _ n0 h0 t0 o0 len0 => ?_⟩⟩⟩
    have S0 : Same H Hb0 := Kp.same u0 k0 m0
    have t0' : TermsV K Hb0 xs0 ts0 := t0
    refine ⟨_, rfl, a, ns, 1, rfl, S0.seq hS, fun c1 _ => ⟨c1, rfl, fun z1 Ha1 m1 u1 P1 => ⟨z1, 12, rfl, by decide, by decide, P1, fun Hb1 a1 s1 n1 l1 w1 k1 _ _ h1 ok1 => ?_⟩⟩⟩
    have S1 : Same Hb0 Hb1 := Kp.same u1 k1 m1
    refine ⟨_, rfl, a, ns, 2, rfl, (S0.trans S1).seq hS, fun c2 _ => ⟨c2, rfl, fun z2 Ha2 m2 u2 P2 => ⟨z2, 12, rfl, by decide, by decide, P2, fun Hb2 a2 s2 n2 l2 w2 k2 _ _ h2 ok2 => ?_⟩⟩⟩
    have S2 : Same Hb1 Hb2 := Kp.same u2 k2 m2
    refine ⟨_, rfl, a, ns, 3, rfl, ((S0.trans S1).trans S2).seq hS, fun c3 _ => ⟨c3, rfl, fun z3 Ha3 m3 u3 P3 => ⟨z3, 7, rfl, by decide, P3, fun Hb3 q3 xs3 ts3 k3 _ n3 h3 t3 o3 len3 => ?_⟩⟩⟩
    have S3 : Same Hb2 Hb3 := Kp.same u3 k3 m3
    have S13 := (S1.trans S2).trans S3
    replace h0 := S13 _ _ h0
    replace t0 := t0.same S13
    replace h1 : CarV K Hb3 a1 s1 n1 l1 w1 := SqT.of ((S2.trans S3) _ _ h1)
    replace h2 : CarV K Hb3 a2 s2 n2 l2 w2 := SqT.of (S3 _ _ h2)
    -- the rules
    refine ⟨_, rfl, q0, xs0, rfl, .inl (SqL.of h0), fun y0 hy0 => ?_⟩
    have e0 := same_upd (o := .lst xs0) hy0
    intro r0 d0 nr0 nd0 ne0
    have f0 : Same (upd Hb3 y0 (.lst xs0)) (upd (upd (upd Hb3 y0 (.lst xs0)) d0 (.own r0)) r0 (.ins C_Rule d0 [])) := mk_same nr0 nd0 (Kp.refl)
    refine ⟨r0, d0, y0, xs0, ts0, rfl, upd_same, SqL.of (f0 _ _ upd_same), t0.same (e0.trans f0), o0, fun J0 kJ0 hJ0 => ⟨rfl, ?_⟩⟩
    have g0 : Same Hb3 J0 := e0.trans (mk_same nr0 nd0 kJ0)
    replace h0 := g0 _ _ h0
    replace t0 := t0.same g0
    replace h1 := sqt_same h1 g0
    replace h2 := sqt_same h2 g0
    replace h3 := g0 _ _ h3
    replace t3 := t3.same g0
    refine ⟨_, rfl, q3, xs3, rfl, .inl (SqL.of h3), fun y3 hy3 => ?_⟩
    have e3 := same_upd (o := .lst xs3) hy3
    intro r3 d3 nr3 nd3 ne3
    have f3 : Same (upd J0 y3 (.lst xs3)) (upd (upd (upd J0 y3 (.lst xs3)) d3 (.own r3)) r3 (.ins C_Rule d3 [])) := mk_same nr3 nd3 (Kp.refl)
    refine ⟨r3, d3, y3, xs3, ts3, rfl, upd_same, SqL.of (f3 _ _ upd_same), t3.same (e3.trans f3), o3, fun J1 kJ1 hJ3 => ⟨rfl, ?_⟩⟩
    have g1 : Same J0 J1 := e3.trans (mk_same nr3 nd3 kJ1)
    replace h0 := g1 _ _ h0
    replace t0 := t0.same g1
    replace h1 := sqt_same h1 g1
    replace h2 := sqt_same h2 g1
    replace h3 := g1 _ _ h3
    replace t3 := t3.same g1
    replace hJ0 := hJ0.same g1
    obtain ⟨dx0, tp0, ys0, hr0, htp0, hts0⟩ := id hJ0
    refine ⟨_, rfl, r0, rfl, _, rfl, .inr ⟨_, _, hr0⟩, r0, a1, ts0, s1, n1, l1, w1, rfl, hJ0, by omega, h1, fun Ka0 p0 sa0 hp0 => ?_⟩
    refine ⟨_, rfl, _, rfl, q0, a1, xs0, ts0, s1, n1, l1, w1, rfl, SqL.of (sa0 _ _ h0), t0.same sa0, by omega, sqt_same h1 sa0, fun Kb0 v0 sb0 nv0 hv0 => ?_⟩
    refine ⟨v0, _, rfl, .inl ⟨SqL.of hv0, fun z0' hz0 => ?_⟩⟩
    have sc0 := sb0.trans (same_upd (o := .tup (ts0.map fun t => .int (kn t s1 n1 l1 w1))) hz0)
    have same0 : SameV K _ 1 (.ref p0) (.ref z0') := .inr (.inr ⟨p0, z0', _, _, rfl, rfl, SqT.of (sc0 _ _ hp0), SqT.of upd_same, by rw [List.length_map, sizeLine_eq]; omega, Pairs.refl fun x hx => by
      obtain ⟨t, _, e⟩ := List.mem_map.mp hx
      subst e
      exact ⟨rfl, rfl⟩⟩)
    refine ⟨_, _, rfl, same0, true, rfl, iteF ?_⟩
    have sd0 := sa0.trans sc0
    replace h0 := sd0 _ _ h0
    replace t0 := t0.same sd0
    replace h1 := sqt_same h1 sd0
    replace h2 := sqt_same h2 sd0
    replace h3 := sd0 _ _ h3
    replace t3 := t3.same sd0
    replace hJ0 := hJ0.same sd0
    replace hJ3 := hJ3.same sd0
    obtain ⟨dx1, tp1, ys1, hr1, htp1, hts1⟩ := id hJ3
    refine ⟨_, rfl, r3, rfl, _, rfl, .inr ⟨_, _, hr1⟩, r3, a1, ts3, s1, n1, l1, w1, rfl, hJ3, by omega, h1, fun Ka1 p1 sa1 hp1 => ?_⟩
    refine ⟨_, rfl, _, rfl, q3, a1, xs3, ts3, s1, n1, l1, w1, rfl, SqL.of (sa1 _ _ h3), t3.same sa1, by omega, sqt_same h1 sa1, fun Kb1 v1 sb1 nv1 hv1 => ?_⟩
    refine ⟨v1, _, rfl, .inl ⟨SqL.of hv1, fun z1' hz1 => ?_⟩⟩
    have sc1 := sb1.trans (same_upd (o := .tup (ts3.map fun t => .int (kn t s1 n1 l1 w1))) hz1)
    have same1 : SameV K _ 1 (.ref p1) (.ref z1') := .inr (.inr ⟨p1, z1', _, _, rfl, rfl, SqT.of (sc1 _ _ hp1), SqT.of upd_same, by rw [List.length_map, sizeLine_eq]; omega, Pairs.refl fun x hx => by
      obtain ⟨t, _, e⟩ := List.mem_map.mp hx
      subst e
      exact ⟨rfl, rfl⟩⟩)
    refine ⟨_, _, rfl, same1, true, rfl, iteF ?_⟩
    have sd1 := sa1.trans sc1
    replace h0 := sd1 _ _ h0
    replace t0 := t0.same sd1
    replace h1 := sqt_same h1 sd1
    replace h2 := sqt_same h2 sd1
    replace h3 := sd1 _ _ h3
    replace t3 := t3.same sd1
    replace hJ0 := hJ0.same sd1
    replace hJ3 := hJ3.same sd1
    obtain ⟨dx2, tp2, ys2, hr2, htp2, hts2⟩ := id hJ0
    refine ⟨_, rfl, r0, rfl, _, rfl, .inr ⟨_, _, hr2⟩, r0, a2, ts0, s2, n2, l2, w2, rfl, hJ0, by omega, h2, fun Ka2 p2 sa2 hp2 => ?_⟩
    refine ⟨_, rfl, _, rfl, q0, a2, xs0, ts0, s2, n2, l2, w2, rfl, SqL.of (sa2 _ _ h0), t0.same sa2, by omega, sqt_same h2 sa2, fun Kb2 v2 sb2 nv2 hv2 => ?_⟩
    refine ⟨v2, _, rfl, .inl ⟨SqL.of hv2, fun z2' hz2 => ?_⟩⟩
    have sc2 := sb2.trans (same_upd (o := .tup (ts0.map fun t => .int (kn t s2 n2 l2 w2))) hz2)
    have same2 : SameV K _ 1 (.ref p2) (.ref z2') := .inr (.inr ⟨p2, z2', _, _, rfl, rfl, SqT.of (sc2 _ _ hp2), SqT.of upd_same, by rw [List.length_map, sizeLine_eq]; omega, Pairs.refl fun x hx => by
      obtain ⟨t, _, e⟩ := List.mem_map.mp hx
      subst e
      exact ⟨rfl, rfl⟩⟩)
    refine ⟨_, _, rfl, same2, true, rfl, iteF ?_⟩
    have sd2 := sa2.trans sc2
    replace h0 := sd2 _ _ h0
    replace t0 := t0.same sd2
    replace h1 := sqt_same h1 sd2
    replace h2 := sqt_same h2 sd2
    replace h3 := sd2 _ _ h3
    replace t3 := t3.same sd2
    replace hJ0 := hJ0.same sd2
    replace hJ3 := hJ3.same sd2
    obtain ⟨dx3, tp3, ys3, hr3, htp3, hts3⟩ := id hJ3
    refine ⟨_, rfl, r3, rfl, _, rfl, .inr ⟨_, _, hr3⟩, r3, a2, ts3, s2, n2, l2, w2, rfl, hJ3, by omega, h2, fun Ka3 p3 sa3 hp3 => ?_⟩
    refine ⟨_, rfl, _, rfl, q3, a2, xs3, ts3, s2, n2, l2, w2, rfl, SqL.of (sa3 _ _ h3), t3.same sa3, by omega, sqt_same h2 sa3, fun Kb3 v3 sb3 nv3 hv3 => ?_⟩
    refine ⟨v3, _, rfl, .inl ⟨SqL.of hv3, fun z3' hz3 => ?_⟩⟩
    have sc3 := sb3.trans (same_upd (o := .tup (ts3.map fun t => .int (kn t s2 n2 l2 w2))) hz3)
    have same3 : SameV K _ 1 (.ref p3) (.ref z3') := .inr (.inr ⟨p3, z3', _, _, rfl, rfl, SqT.of (sc3 _ _ hp3), SqT.of upd_same, by rw [List.length_map, sizeLine_eq]; omega, Pairs.refl fun x hx => by
      obtain ⟨t, _, e⟩ := List.mem_map.mp hx
      subst e
      exact ⟨rfl, rfl⟩⟩)
    refine ⟨_, _, rfl, same3, true, rfl, iteF ?_⟩
    have sd3 := sa3.trans sc3
    replace h0 := sd3 _ _ h0
    replace t0 := t0.same sd3
    replace h1 := sqt_same h1 sd3
    replace h2 := sqt_same h2 sd3
    replace h3 := sd3 _ _ h3
    replace t3 := t3.same sd3
    replace hJ0 := hJ0.same sd3
    replace hJ3 := hJ3.same sd3
    obtain ⟨dx4, tp4, ys4, hr4, htp4, hts4⟩ := id hJ0
    refine ⟨_, rfl, r0, rfl, _, rfl, .inr ⟨_, _, hr4⟩, r0, a1, ts0, s1, n1, l1, w1, rfl, hJ0, by omega, h1, fun Ka4 p4 sa4 hp4 => ?_⟩
    refine ⟨_, rfl, _, rfl, q0, a1, xs0, ts0, s1, n1, l1, w1, rfl, SqL.of (sa4 _ _ h0), t0.same sa4, by omega, sqt_same h1 sa4, fun Kb4 v4 sb4 nv4 hv4 => ?_⟩
    refine ⟨v4, _, rfl, .inl ⟨SqL.of hv4, fun z4' hz4 => ?_⟩⟩
    have sc4 := sb4.trans (same_upd (o := .tup (ts0.map fun t => .int (kn t s1 n1 l1 w1))) hz4)
    have same4 : SameV K _ 1 (.ref p4) (.ref z4') := .inr (.inr ⟨p4, z4', _, _, rfl, rfl, SqT.of (sc4 _ _ hp4), SqT.of upd_same, by rw [List.length_map, sizeLine_eq]; omega, Pairs.refl fun x hx => by
      obtain ⟨t, _, e⟩ := List.mem_map.mp hx
      subst e
      exact ⟨rfl, rfl⟩⟩)
    exact ⟨_, _, rfl, same4, q _⟩
end
theorem all_mk {l : PySem.W.OpenLaw} {w : World} {K : PySem.W.Frag} {h : Heap} {mg : Str → Option Value} {fa C_Rule A_WORDS A_OTHER_SIDE : Addr} {uWORDS0 uWORDS1 uWORDS2 uWORDS3 uWORDS4 uWORDS5 uWORDS6 : Tok} {nWORDS : Nat} {ddWORDS : Option Addr} {slWORDS : Array (Option Value)} {ukOTHER_SIDE0 uvOTHER_SIDE0 ukOTHER_SIDE1 uvOTHER_SIDE1 : Tok} {nOTHER_SIDE : Nat} {uwOTHER_SIDEleast : Tok} {uwOTHER_SIDEmost : Tok} {f_umeasures : Addr} {od_umeasures an_umeasures : Option Addr} {sl_umeasures : Array (Option Value)} {oc_umeasures kV_umeasures dc_umeasures pm_umeasures cd_umeasures ct_umeasures : Value} {f_unumbers : Addr} {od_unumbers an_unumbers : Option Addr} {sl_unumbers : Array (Option Value)} {oc_unumbers kV_unumbers dc_unumbers pm_unumbers cd_unumbers ct_unumbers : Value} {f_Rule_init : Addr} {od_Rule_init an_Rule_init : Option Addr} {sl_Rule_init : Array (Option Value)} {oc_Rule_init kV_Rule_init dc_Rule_init pm_Rule_init cd_Rule_init ct_Rule_init : Value} {f_Rule_call : Addr} {od_Rule_call an_Rule_call : Option Addr} {sl_Rule_call : Array (Option Value)} {oc_Rule_call kV_Rule_call dc_Rule_call pm_Rule_call cd_Rule_call ct_Rule_call : Value} {f_Lcell : Addr} {od_Lcell an_Lcell : Option Addr} {sl_Lcell : Array (Option Value)} {oc_Lcell kV_Lcell dc_Lcell pm_Lcell cd_Lcell ct_Lcell : Value} {f_Lpool : Addr} {od_Lpool an_Lpool : Option Addr} {sl_Lpool : Array (Option Value)} {oc_Lpool kV_Lpool dc_Lpool pm_Lpool cd_Lpool ct_Lpool : Value} {f_Ltake : Addr} {od_Ltake an_Ltake : Option Addr} {sl_Ltake : Array (Option Value)} {oc_Ltake kV_Ltake dc_Ltake pm_Ltake cd_Ltake ct_Ltake : Value} {f_Lsame : Addr} {od_Lsame an_Lsame : Option Addr} {sl_Lsame : Array (Option Value)} {oc_Lsame kV_Lsame dc_Lsame pm_Lsame cd_Lsame ct_Lsame : Value} {f_Lterms : Addr} {od_Lterms an_Lterms : Option Addr} {sl_Lterms : Array (Option Value)} {oc_Lterms kV_Lterms dc_Lterms pm_Lterms cd_Lterms ct_Lterms : Value} {f_Lmeasure : Addr} {od_Lmeasure an_Lmeasure : Option Addr} {sl_Lmeasure : Array (Option Value)} {oc_Lmeasure kV_Lmeasure dc_Lmeasure pm_Lmeasure cd_Lmeasure ct_Lmeasure : Value} {f_Lkey : Addr} {od_Lkey an_Lkey : Option Addr} {sl_Lkey : Array (Option Value)} {oc_Lkey kV_Lkey dc_Lkey pm_Lkey cd_Lkey ct_Lkey : Value} {f_Lcar : Addr} {od_Lcar an_Lcar : Option Addr} {sl_Lcar : Array (Option Value)} {oc_Lcar kV_Lcar dc_Lcar pm_Lcar cd_Lcar ct_Lcar : Value} {f_law : Addr} {od_law an_law : Option Addr} {sl_law : Array (Option Value)} {oc_law kV_law dc_law pm_law cd_law ct_law : Value}
    (X : K.In h) (G : h.Ns mainGlobals mg) (hfa : mg "law" = some (.ref fa))
    (g_Rule : PySem.W.nsIn K mainGlobals "Rule" = some (some (.ref C_Rule)))
    (pg_Rule : PySem.W.plainGet K C_Rule Str.empty = true)
    (hd_Rule : PySem.W.hasDictIn K C_Rule = true)
    (po_Rule : PySem.W.plainOver K C_Rule = true)
    (sa_Rule : PySem.W.findIn K (.ref C_Rule) "__setattr__" = some (some (.builtin "object.__setattr__")))
    (nf_Rule_terms : PySem.W.findIn K (.ref C_Rule) "terms" = some none)
    (c_WORDS : PySem.W.nsIn K mainGlobals "WORDS" = some (some (.ref A_WORDS)))
    (l_WORDS : K.lookup A_WORDS = some ⟨.type "tuple", ddWORDS, .seq #[.str "stay" uWORDS0, .str "need" uWORDS1, .str "left" uWORDS2, .str "want" uWORDS3, .str "here" uWORDS4, .str "got" uWORDS5, .str "slack" uWORDS6] nWORDS, slWORDS⟩)
    (c_OTHER_SIDE : PySem.W.nsIn K mainGlobals "OTHER_SIDE" = some (some (.ref A_OTHER_SIDE)))
    (l_OTHER_SIDE : K.lookup A_OTHER_SIDE = some ⟨.type "dict", none, .dict #[⟨PyData.keyHash w.params "least", .str "least" ukOTHER_SIDE0, .str "most" uvOTHER_SIDE0⟩, ⟨PyData.keyHash w.params "most", .str "most" ukOTHER_SIDE1, .str "least" uvOTHER_SIDE1⟩] nOTHER_SIDE, #[]⟩)
    (low_OTHER_SIDE : (A_OTHER_SIDE == sysModules) = false)
    (v_OTHER_SIDE_least : PySem.W.nsIn K A_OTHER_SIDE "least" = some (some (.str "most" uwOTHER_SIDEleast)))
    (v_OTHER_SIDE_most : PySem.W.nsIn K A_OTHER_SIDE "most" = some (some (.str "least" uwOTHER_SIDEmost)))
    (n_tuple : PySem.W.nsIn K mainGlobals "tuple" = some none)
    (n_enumerate : PySem.W.nsIn K mainGlobals "enumerate" = some none)
    (n_len : PySem.W.nsIn K mainGlobals "len" = some none)
    (n_int : PySem.W.nsIn K mainGlobals "int" = some none)
    (n_abs : PySem.W.nsIn K mainGlobals "abs" = some none)
    (n_isinstance : PySem.W.nsIn K mainGlobals "isinstance" = some none)
    (n_bool : PySem.W.nsIn K mainGlobals "bool" = some none)
    (n_str : PySem.W.nsIn K mainGlobals "str" = some none)
    (n_list : PySem.W.nsIn K mainGlobals "list" = some none)
    (n_range : PySem.W.nsIn K mainGlobals "range" = some none)
    (mk_Rule : PySem.W.makesIn K C_Rule = true)
    (mkk_Rule : PySem.W.keepIn K (.ref C_Rule) = true)
    (a_umeasures : PySem.W.nsIn K mainGlobals "_measures" = some (some (.ref f_umeasures)))
    (l_umeasures : K.lookup f_umeasures = some ⟨oc_umeasures, od_umeasures, .func (PySem.W.fnOf "_measures" "_measures" (defArgs s_umeasures) (defBody s_umeasures) (defScope s_umeasures) .none kV_umeasures dc_umeasures pm_umeasures an_umeasures cd_umeasures ct_umeasures), sl_umeasures⟩)
    (q_umeasures : PySem.W.codeIn K cd_umeasures "_measures" = true)
    (k_umeasures : PySem.W.keepIn K (.ref f_umeasures) = true)
    (a_unumbers : PySem.W.nsIn K mainGlobals "_numbers" = some (some (.ref f_unumbers)))
    (l_unumbers : K.lookup f_unumbers = some ⟨oc_unumbers, od_unumbers, .func (PySem.W.fnOf "_numbers" "_numbers" (defArgs s_unumbers) (defBody s_unumbers) (defScope s_unumbers) .none kV_unumbers dc_unumbers pm_unumbers an_unumbers cd_unumbers ct_unumbers), sl_unumbers⟩)
    (q_unumbers : PySem.W.codeIn K cd_unumbers "_numbers" = true)
    (k_unumbers : PySem.W.keepIn K (.ref f_unumbers) = true)
    (a_Rule_init : PySem.W.findIn K (.ref C_Rule) "__init__" = some (some (.ref f_Rule_init)))
    (j_Rule_init : PySem.W.isFn K (.ref f_Rule_init) = true)
    (l_Rule_init : K.lookup f_Rule_init = some ⟨oc_Rule_init, od_Rule_init, .func (PySem.W.fnOf "__init__" "Rule.__init__" (defArgs s_Rule_init) (defBody s_Rule_init) (defScope s_Rule_init) .none kV_Rule_init dc_Rule_init pm_Rule_init an_Rule_init cd_Rule_init ct_Rule_init), sl_Rule_init⟩)
    (q_Rule_init : PySem.W.codeIn K cd_Rule_init "Rule.__init__" = true)
    (k_Rule_init : PySem.W.keepIn K (.ref f_Rule_init) = true)
    (a_Rule_call : PySem.W.findIn K (.ref C_Rule) "__call__" = some (some (.ref f_Rule_call)))
    (j_Rule_call : PySem.W.isFn K (.ref f_Rule_call) = true)
    (l_Rule_call : K.lookup f_Rule_call = some ⟨oc_Rule_call, od_Rule_call, .func (PySem.W.fnOf "__call__" "Rule.__call__" (defArgs s_Rule_call) (defBody s_Rule_call) (defScope s_Rule_call) .none kV_Rule_call dc_Rule_call pm_Rule_call an_Rule_call cd_Rule_call ct_Rule_call), sl_Rule_call⟩)
    (q_Rule_call : PySem.W.codeIn K cd_Rule_call "Rule.__call__" = true)
    (k_Rule_call : PySem.W.keepIn K (.ref f_Rule_call) = true)
    (a_Lcell : PySem.W.nsIn K mainGlobals "_law_cell" = some (some (.ref f_Lcell)))
    (l_Lcell : K.lookup f_Lcell = some ⟨oc_Lcell, od_Lcell, .func (PySem.W.fnOf "_law_cell" "_law_cell" (defArgs s_Lcell) (defBody s_Lcell) (defScope s_Lcell) .none kV_Lcell dc_Lcell pm_Lcell an_Lcell cd_Lcell ct_Lcell), sl_Lcell⟩)
    (q_Lcell : PySem.W.codeIn K cd_Lcell "_law_cell" = true)
    (k_Lcell : PySem.W.keepIn K (.ref f_Lcell) = true)
    (a_Lpool : PySem.W.nsIn K mainGlobals "_law_pool" = some (some (.ref f_Lpool)))
    (l_Lpool : K.lookup f_Lpool = some ⟨oc_Lpool, od_Lpool, .func (PySem.W.fnOf "_law_pool" "_law_pool" (defArgs s_Lpool) (defBody s_Lpool) (defScope s_Lpool) .none kV_Lpool dc_Lpool pm_Lpool an_Lpool cd_Lpool ct_Lpool), sl_Lpool⟩)
    (q_Lpool : PySem.W.codeIn K cd_Lpool "_law_pool" = true)
    (k_Lpool : PySem.W.keepIn K (.ref f_Lpool) = true)
    (a_Ltake : PySem.W.nsIn K mainGlobals "_law_take" = some (some (.ref f_Ltake)))
    (l_Ltake : K.lookup f_Ltake = some ⟨oc_Ltake, od_Ltake, .func (PySem.W.fnOf "_law_take" "_law_take" (defArgs s_Ltake) (defBody s_Ltake) (defScope s_Ltake) .none kV_Ltake dc_Ltake pm_Ltake an_Ltake cd_Ltake ct_Ltake), sl_Ltake⟩)
    (q_Ltake : PySem.W.codeIn K cd_Ltake "_law_take" = true)
    (k_Ltake : PySem.W.keepIn K (.ref f_Ltake) = true)
    (a_Lsame : PySem.W.nsIn K mainGlobals "_law_same" = some (some (.ref f_Lsame)))
    (l_Lsame : K.lookup f_Lsame = some ⟨oc_Lsame, od_Lsame, .func (PySem.W.fnOf "_law_same" "_law_same" (defArgs s_Lsame) (defBody s_Lsame) (defScope s_Lsame) .none kV_Lsame dc_Lsame pm_Lsame an_Lsame cd_Lsame ct_Lsame), sl_Lsame⟩)
    (q_Lsame : PySem.W.codeIn K cd_Lsame "_law_same" = true)
    (k_Lsame : PySem.W.keepIn K (.ref f_Lsame) = true)
    (a_Lterms : PySem.W.nsIn K mainGlobals "_law_terms" = some (some (.ref f_Lterms)))
    (l_Lterms : K.lookup f_Lterms = some ⟨oc_Lterms, od_Lterms, .func (PySem.W.fnOf "_law_terms" "_law_terms" (defArgs s_Lterms) (defBody s_Lterms) (defScope s_Lterms) .none kV_Lterms dc_Lterms pm_Lterms an_Lterms cd_Lterms ct_Lterms), sl_Lterms⟩)
    (q_Lterms : PySem.W.codeIn K cd_Lterms "_law_terms" = true)
    (k_Lterms : PySem.W.keepIn K (.ref f_Lterms) = true)
    (a_Lmeasure : PySem.W.nsIn K mainGlobals "_law_measure" = some (some (.ref f_Lmeasure)))
    (l_Lmeasure : K.lookup f_Lmeasure = some ⟨oc_Lmeasure, od_Lmeasure, .func (PySem.W.fnOf "_law_measure" "_law_measure" (defArgs s_Lmeasure) (defBody s_Lmeasure) (defScope s_Lmeasure) .none kV_Lmeasure dc_Lmeasure pm_Lmeasure an_Lmeasure cd_Lmeasure ct_Lmeasure), sl_Lmeasure⟩)
    (q_Lmeasure : PySem.W.codeIn K cd_Lmeasure "_law_measure" = true)
    (k_Lmeasure : PySem.W.keepIn K (.ref f_Lmeasure) = true)
    (a_Lkey : PySem.W.nsIn K mainGlobals "_law_key" = some (some (.ref f_Lkey)))
    (l_Lkey : K.lookup f_Lkey = some ⟨oc_Lkey, od_Lkey, .func (PySem.W.fnOf "_law_key" "_law_key" (defArgs s_Lkey) (defBody s_Lkey) (defScope s_Lkey) .none kV_Lkey dc_Lkey pm_Lkey an_Lkey cd_Lkey ct_Lkey), sl_Lkey⟩)
    (q_Lkey : PySem.W.codeIn K cd_Lkey "_law_key" = true)
    (k_Lkey : PySem.W.keepIn K (.ref f_Lkey) = true)
    (a_Lcar : PySem.W.nsIn K mainGlobals "_law_car" = some (some (.ref f_Lcar)))
    (l_Lcar : K.lookup f_Lcar = some ⟨oc_Lcar, od_Lcar, .func (PySem.W.fnOf "_law_car" "_law_car" (defArgs s_Lcar) (defBody s_Lcar) (defScope s_Lcar) .none kV_Lcar dc_Lcar pm_Lcar an_Lcar cd_Lcar ct_Lcar), sl_Lcar⟩)
    (q_Lcar : PySem.W.codeIn K cd_Lcar "_law_car" = true)
    (k_Lcar : PySem.W.keepIn K (.ref f_Lcar) = true)
    (a_law : PySem.W.nsIn K mainGlobals "law" = some (some (.ref f_law)))
    (l_law : K.lookup f_law = some ⟨oc_law, od_law, .func (PySem.W.fnOf "law" "law" (defArgs s_law) (defBody s_law) (defScope s_law) .none kV_law dc_law pm_law an_law cd_law ct_law), sl_law⟩)
    (q_law : PySem.W.codeIn K cd_law "law" = true)
    (k_law : PySem.W.keepIn K (.ref f_law) = true) :
    ∃ fd : FuncData, (∀ (s : Shared) (v : Value), BindsTo s fd ⟨[v], []⟩ [("_law_script", v)]) ∧ ∀ base : Heap, K.In base → base.Ns mainGlobals mg → FnOk l.prog w K mg base CX0 4 fa fd ["_law_script"] (sp_law K) := by
  have e := hfa.symm.trans (PySem.W.mg_of X G a_law)
  cases e
  have T : Txt w K mg C_Rule A_WORDS A_OTHER_SIDE := ⟨PySem.W.mg_of X G g_Rule, ⟨pg_Rule, hd_Rule, po_Rule, sa_Rule⟩, nf_Rule_terms, PySem.W.mg_of X G c_WORDS, fun H => .inr ⟨_, _, _, l_WORDS, rfl, rfl, by rw [sizeLine_eq]; show 7 ≤ 16777216; decide, (.cons ⟨_, rfl⟩ (.cons ⟨_, rfl⟩ (.cons ⟨_, rfl⟩ (.cons ⟨_, rfl⟩ (.cons ⟨_, rfl⟩ (.cons ⟨_, rfl⟩ (.cons ⟨_, rfl⟩ .nil)))))))⟩, PySem.W.mg_of X G c_OTHER_SIDE, ⟨_, _, l_OTHER_SIDE, ⟨⟨_, _, rfl, rfl⟩, ⟨⟨_, _, rfl, rfl⟩, True.intro⟩⟩, low_OTHER_SIDE⟩, ⟨_, v_OTHER_SIDE_least, ⟨_, rfl⟩⟩, ⟨_, v_OTHER_SIDE_most, ⟨_, rfl⟩⟩, PySem.W.mg_none_of X G n_tuple, PySem.W.mg_none_of X G n_enumerate, PySem.W.mg_none_of X G n_len, PySem.W.mg_none_of X G n_int, PySem.W.mg_none_of X G n_abs, PySem.W.mg_none_of X G n_isinstance, PySem.W.mg_none_of X G n_bool, PySem.W.mg_none_of X G n_str, PySem.W.mg_none_of X G n_list, PySem.W.mg_none_of X G n_range⟩
  have F_umeasures := fun_mk (st := s_umeasures) l_umeasures q_umeasures k_umeasures
  have b_umeasures := F_umeasures.binds (ps := ["car"]) fun _ _ _ _ _ _ us hl => match us, hl with | [_], _ => rfl
  have F_unumbers := fun_mk (st := s_unumbers) l_unumbers q_unumbers k_unumbers
  have b_unumbers := F_unumbers.binds (ps := ["terms", "car"]) fun _ _ _ _ _ _ us hl => match us, hl with | [_, _], _ => rfl
  have F_Rule_init := fun_mk (st := s_Rule_init) l_Rule_init q_Rule_init k_Rule_init
  have b_Rule_init := F_Rule_init.binds (ps := ["self", "terms"]) fun _ _ _ _ _ _ us hl => match us, hl with | [_, _], _ => rfl
  have F_Rule_call := fun_mk (st := s_Rule_call) l_Rule_call q_Rule_call k_Rule_call
  have b_Rule_call := F_Rule_call.binds (ps := ["self", "car"]) fun _ _ _ _ _ _ us hl => match us, hl with | [_, _], _ => rfl
  have F_Lcell := fun_mk (st := s_Lcell) l_Lcell q_Lcell k_Lcell
  have b_Lcell := F_Lcell.binds (ps := ["_law_script", "_law_at"]) fun _ _ _ _ _ _ us hl => match us, hl with | [_, _], _ => rfl
  have F_Lpool := fun_mk (st := s_Lpool) l_Lpool q_Lpool k_Lpool
  have b_Lpool := F_Lpool.binds (ps := ["_law_cell_here"]) fun _ _ _ _ _ _ us hl => match us, hl with | [_], _ => rfl
  have F_Ltake := fun_mk (st := s_Ltake) l_Ltake q_Ltake k_Ltake
  have b_Ltake := F_Ltake.binds (ps := ["_law_pool_here", "_law_many"]) fun _ _ _ _ _ _ us hl => match us, hl with | [_, _], _ => rfl
  have F_Lsame := fun_mk (st := s_Lsame) l_Lsame q_Lsame k_Lsame
  have b_Lsame := F_Lsame.binds (ps := ["_law_told", "_law_due"]) fun _ _ _ _ _ _ us hl => match us, hl with | [_, _], _ => rfl
  have F_Lterms := fun_mk (st := s_Lterms) l_Lterms q_Lterms k_Lterms
  have b_Lterms := F_Lterms.binds (ps := ["_law_pool_here", "_law_most"]) fun _ _ _ _ _ _ us hl => match us, hl with | [_, _], _ => rfl
  have F_Lmeasure := fun_mk (st := s_Lmeasure) l_Lmeasure q_Lmeasure k_Lmeasure
  have b_Lmeasure := F_Lmeasure.binds (ps := ["_law_car_here", "_law_word"]) fun _ _ _ _ _ _ us hl => match us, hl with | [_, _], _ => rfl
  have F_Lkey := fun_mk (st := s_Lkey) l_Lkey q_Lkey k_Lkey
  have b_Lkey := F_Lkey.binds (ps := ["_law_terms_here", "_law_car_here"]) fun _ _ _ _ _ _ us hl => match us, hl with | [_, _], _ => rfl
  have F_Lcar := fun_mk (st := s_Lcar) l_Lcar q_Lcar k_Lcar
  have b_Lcar := F_Lcar.binds (ps := ["_law_pool_here", "_law_longest"]) fun _ _ _ _ _ _ us hl => match us, hl with | [_, _], _ => rfl
  refine ⟨PySem.W.fnOf "law" "law" (defArgs s_law) (defBody s_law) (defScope s_law) .none kV_law dc_law pm_law an_law cd_law ct_law, fun s v => .of_eq rfl, fun base _ _ => ?_⟩
  have c_umeasures := cal_mk (ok_umeasures (P := l.prog) (w := w) (base := base) F_umeasures T ) (PySem.W.mg_of X G a_umeasures) k_umeasures b_umeasures
  have c_unumbers := cal_mk (ok_unumbers (P := l.prog) (w := w) (base := base) F_unumbers T c_umeasures) (PySem.W.mg_of X G a_unumbers) k_unumbers b_unumbers
  have c_Rule := mak_mk (ok_Rule_init (P := l.prog) (w := w) (base := base) F_Rule_init T ) (T.g_Rule) ⟨mk_Rule, a_Rule_init, j_Rule_init, mkk_Rule⟩ b_Rule_init
  have c_Rule_call := met_mk (ok_Rule_call (P := l.prog) (w := w) (base := base) F_Rule_call T c_unumbers) T.cl_Rule ⟨a_Rule_call, j_Rule_call, k_Rule_call⟩ b_Rule_call (fn_in l_Rule_call)
  have c_Lcell := cal_mk (ok_Lcell (P := l.prog) (w := w) (base := base) F_Lcell T ) (PySem.W.mg_of X G a_Lcell) k_Lcell b_Lcell
  have c_Lpool := cal_mk (ok_Lpool (P := l.prog) (w := w) (base := base) F_Lpool T ) (PySem.W.mg_of X G a_Lpool) k_Lpool b_Lpool
  have c_Ltake := cal_mk (ok_Ltake (P := l.prog) (w := w) (base := base) F_Ltake T ) (PySem.W.mg_of X G a_Ltake) k_Ltake b_Ltake
  have c_Lsame := cal_mk (ok_Lsame (P := l.prog) (w := w) (base := base) F_Lsame T (PySem.W.mg_of X G a_Lsame) k_Lsame b_Lsame 2) (PySem.W.mg_of X G a_Lsame) k_Lsame b_Lsame
  have c_Lterms := cal_mk (ok_Lterms (P := l.prog) (w := w) (base := base) F_Lterms T c_Ltake) (PySem.W.mg_of X G a_Lterms) k_Lterms b_Lterms
  have c_Lmeasure := cal_mk (ok_Lmeasure (P := l.prog) (w := w) (base := base) F_Lmeasure T ) (PySem.W.mg_of X G a_Lmeasure) k_Lmeasure b_Lmeasure
  have c_Lkey := cal_mk (ok_Lkey (P := l.prog) (w := w) (base := base) F_Lkey T c_Lmeasure) (PySem.W.mg_of X G a_Lkey) k_Lkey b_Lkey
  have c_Lcar := cal_mk (ok_Lcar (P := l.prog) (w := w) (base := base) F_Lcar T c_Ltake) (PySem.W.mg_of X G a_Lcar) k_Lcar b_Lcar
  exact ok_law (fun_mk (st := s_law) l_law q_law k_law) T c_Lterms c_Lpool c_Lcell c_Lcar c_Rule c_Lsame c_Rule_call c_Lkey

theorem walk {l : PySem.W.OpenLaw} {q : Program} {loose : List Str} {XP : (Str → Option Value) → Heap → Prop} {YP : World → Heap → Prop} {d : DefRec} {K : Params → PySem.W.Frag} (hn : l.most = some 63) (hdf : d.params.defaults = [])
    (hY : ∀ (w : World) (h : Heap), YP w h → (K w.params).In h)
    (F : ∀ (w : World) (mg : Str → Option Value) (fa : Addr) (h : Heap), (K w.params).In h → h.Ns mainGlobals mg → mg d.name = some (.ref fa) →
      ∃ fd : FuncData, (∀ (s : Shared) (u : Value), BindsTo s fd ⟨[u], []⟩ [("_law_script", u)]) ∧ ∀ base : Heap, (K w.params).In base → base.Ns mainGlobals mg → FnOk l.prog w (K w.params) mg base CX0 4 fa fd ["_law_script"] (sp_law (K w.params))) :
    PySem.W.WalkO q loose XP YP l.row.toRowW d [] (fun f vs => PySem.call f vs) :=
  L2.walk_of (n := 63) (k := 4) (x := "_law_script") (CX := fun _ => CX0) (sp := fun w => sp_law (K w.params)) hn (by decide) hdf ⟨rfl, by decide, by decide⟩ hY F (fun _ _ a ns hl _ hS => ⟨a, ns, rfl, hS, hl, fun _ => rfl⟩) fun _ _ _ _ _ z => z
end My

open PySem PySem.W PyProof.Rows in
set_option maxRecDepth 100000 in
set_option maxHeartbeats 0 in
theorem PySem.Challenge.cw_onecable_k09_rule_numbers_holds : PySem.Challenge.rw_onecable_k09_rule_numbers.Holds := by
  w_on; o_law; k_head; (case hw => w_witness2)
  k_fill
  refine My.walk (l := PySem.Challenge.rw_onecable_k09_rule_numbers) rfl rfl (fun w h Y => PySem.W.kIn_of Y) ?F
  case F =>
    intro w mg fa h KX G hmg
    refine' My.all_mk KX G hmg ?g_Rule ?pg_Rule ?hd_Rule ?po_Rule ?sa_Rule ?nf_Rule_terms ?c_WORDS ?l_WORDS ?c_OTHER_SIDE ?l_OTHER_SIDE ?low_OTHER_SIDE ?v_OTHER_SIDE_least ?v_OTHER_SIDE_most ?n_tuple ?n_enumerate ?n_len ?n_int ?n_abs ?n_isinstance ?n_bool ?n_str ?n_list ?n_range ?mk_Rule ?mkk_Rule ?a_umeasures ?l_umeasures ?q_umeasures ?k_umeasures ?a_unumbers ?l_unumbers ?q_unumbers ?k_unumbers ?a_Rule_init ?j_Rule_init ?l_Rule_init ?q_Rule_init ?k_Rule_init ?a_Rule_call ?j_Rule_call ?l_Rule_call ?q_Rule_call ?k_Rule_call ?a_Lcell ?l_Lcell ?q_Lcell ?k_Lcell ?a_Lpool ?l_Lpool ?q_Lpool ?k_Lpool ?a_Ltake ?l_Ltake ?q_Ltake ?k_Ltake ?a_Lsame ?l_Lsame ?q_Lsame ?k_Lsame ?a_Lterms ?l_Lterms ?q_Lterms ?k_Lterms ?a_Lmeasure ?l_Lmeasure ?q_Lmeasure ?k_Lmeasure ?a_Lkey ?l_Lkey ?q_Lkey ?k_Lkey ?a_Lcar ?l_Lcar ?q_Lcar ?k_Lcar ?a_law ?l_law ?q_law ?k_law
    (case g_Rule => k_is)
    (case pg_Rule => k_is)
    (case hd_Rule => k_is)
    (case po_Rule => k_is)
    (case sa_Rule => k_is)
    (case nf_Rule_terms => k_is)
    (case c_WORDS => k_is)
    (case l_WORDS => k_is)
    (case c_OTHER_SIDE => k_is)
    (case l_OTHER_SIDE => k_is)
    (case low_OTHER_SIDE => first | rfl | decide | k_is)
    (case v_OTHER_SIDE_least => k_is)
    (case v_OTHER_SIDE_most => k_is)
    (case n_tuple => k_is)
    (case n_enumerate => k_is)
    (case n_len => k_is)
    (case n_int => k_is)
    (case n_abs => k_is)
    (case n_isinstance => k_is)
    (case n_bool => k_is)
    (case n_str => k_is)
    (case n_list => k_is)
    (case n_range => k_is)
    (case mk_Rule => k_is)
    (case mkk_Rule => k_is)
    (case a_umeasures => k_is)
    (case l_umeasures => k_is)
    (case q_umeasures => k_is)
    (case k_umeasures => k_is)
    (case a_unumbers => k_is)
    (case l_unumbers => k_is)
    (case q_unumbers => k_is)
    (case k_unumbers => k_is)
    (case a_Rule_init => k_is)
    (case j_Rule_init => k_is)
    (case l_Rule_init => k_is)
    (case q_Rule_init => k_is)
    (case k_Rule_init => k_is)
    (case a_Rule_call => k_is)
    (case j_Rule_call => k_is)
    (case l_Rule_call => k_is)
    (case q_Rule_call => k_is)
    (case k_Rule_call => k_is)
    (case a_Lcell => k_is)
    (case l_Lcell => k_is)
    (case q_Lcell => k_is)
    (case k_Lcell => k_is)
    (case a_Lpool => k_is)
    (case l_Lpool => k_is)
    (case q_Lpool => k_is)
    (case k_Lpool => k_is)
    (case a_Ltake => k_is)
    (case l_Ltake => k_is)
    (case q_Ltake => k_is)
    (case k_Ltake => k_is)
    (case a_Lsame => k_is)
    (case l_Lsame => k_is)
    (case q_Lsame => k_is)
    (case k_Lsame => k_is)
    (case a_Lterms => k_is)
    (case l_Lterms => k_is)
    (case q_Lterms => k_is)
    (case k_Lterms => k_is)
    (case a_Lmeasure => k_is)
    (case l_Lmeasure => k_is)
    (case q_Lmeasure => k_is)
    (case k_Lmeasure => k_is)
    (case a_Lkey => k_is)
    (case l_Lkey => k_is)
    (case q_Lkey => k_is)
    (case k_Lkey => k_is)
    (case a_Lcar => k_is)
    (case l_Lcar => k_is)
    (case q_Lcar => k_is)
    (case k_Lcar => k_is)
    (case a_law => k_is)
    (case l_law => k_is)
    (case q_law => k_is)
    (case k_law => k_is)

