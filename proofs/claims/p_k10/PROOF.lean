import PyProof.Rows.All
import Wide.All
import OpenK.AllK
import Wide.FinOn
import HandS.ForMost
import HandS.Exc
import HandS.TryOnly
import HandS.ExcOwn
import HandS.WordsExc
import HandS.Wide
import HandS.Codes
import HandS.IsInst
import HandS.ExcIs
import HandS.More
import HandS.Star
import KE.RegKIsAll
import HandS.OwnEq
import KE.GoesEnum
import HandS.Zip
import HandS.Style
import HandS.NamedTupSort
import HandS.Set
import PySem.Challenge.RW_onecable_k10_rule_serves
set_option Elab.async false
set_option maxRecDepth 100000
set_option maxHeartbeats 4000000
set_option linter.all false
namespace My
open PySem PySem.Spec PyProof.Rows L2
/-! ### callables of the text: a def by its name, a method, a class -/
structure Cal (CX : CXT) (P : Program) (w : World) (K : PySem.W.Frag) (mg : Str → Option Value) (base : Heap) (k : Nat) (x : Str) (sp : Sp) : Prop where
  ex : ∃ (f : Addr) (fd : FuncData) (ps : List Str), FnOk P w K mg base CX k f fd ps sp ∧ mg x = some (.ref f) ∧ PySem.W.keepIn K (.ref f) = true ∧ Binds K fd ps []
structure Met (CX : CXT) (P : Program) (w : World) (K : PySem.W.Frag) (mg : Str → Option Value) (base : Heap) (k : Nat) (C : Addr) (m : Str) (sp : Sp) : Prop where
  ex : ∃ (f : Addr) (fd : FuncData) (ps : List Str), Cls K C ∧ Meth K C m f ∧ FnOk P w K mg base CX k f fd ps sp ∧ Binds K fd ps []
  fi : ∀ f, PySem.W.findIn K (.ref C) m = some (some (.ref f)) → PySem.W.fnIn K f = true
structure Mak (CX : CXT) (P : Program) (w : World) (K : PySem.W.Frag) (mg : Str → Option Value) (base : Heap) (k : Nat) (x : Str) (C : Addr) (sp : Sp) : Prop where
  ex : ∃ (f : Addr) (fd : FuncData) (ps : List Str), Mk K C f ∧ FnOk P w K mg base CX k f fd ps sp ∧ mg x = some (.ref C) ∧ Binds K fd ps []
section
variable {CX : CXT} {P : Program} {w : World} {K : PySem.W.Frag} {mg : Str → Option Value} {base : Heap} {k : Nat} {x m : Str} {f C : Addr} {fd : FuncData} {ps : List Str} {sp : Sp}
theorem cal_mk (F : FnOk P w K mg base CX k f fd ps sp) (m : mg x = some (.ref f)) (kp : PySem.W.keepIn K (.ref f) = true) (b : Binds K fd ps []) : Cal CX P w K mg base k x sp := ⟨f, fd, ps, F, m, kp, b⟩
theorem met_mk (F : FnOk P w K mg base CX k f fd ps sp) (c : Cls K C) (me : Meth K C m f) (b : Binds K fd ps []) (fi : PySem.W.fnIn K f = true) : Met CX P w K mg base k C m sp := ⟨⟨f, fd, ps, c, me, F, b⟩, fun g h => by
  have z := me.at_.symm.trans h
  cases z
  exact fi⟩
theorem fn_in {oc : Value} {od : Option Addr} {fdx : FuncData} {sl : Array (Option Value)} (l : K.lookup f = some ⟨oc, od, .func fdx, sl⟩) : PySem.W.fnIn K f = true := by
  unfold PySem.W.fnIn
  rw [l]
theorem mak_mk (F : FnOk P w K mg base CX k f fd ps sp) (m : mg x = some (.ref C)) (M : Mk K C f) (b : Binds K fd ps []) : Mak CX P w K mg base k x C sp := ⟨f, fd, ps, M, F, m, b⟩
end
section
variable {X : Cx} {CX : CXT} {k j : Nat} {C : Addr} {x m : Str} {sp : Sp} {E : XK} {p pos apos : Pos} {e o : Expr} {es : List Expr} {ta : TE} {t : TA}
theorem pc_c (c : Cal CX X.prog X.w X.K X.mg X.base k x sp) (hr : Room j X.A) (hk : k ≤ j) (hg : Gl X x) (hx : Passes CX X E) (ha : PA X (e :: es) t)
    (hdb : (x == ("__debug__" : Str)) = false := by decide) (he : starEach (e :: es) X.env = (false, eval e X.env) :: starEach es X.env := by rfl) (hpl : (backTo pos (starEach es X.env)).any (·.1) = false := by rfl) :
    PE X (.Call (.Name x p) (e :: es) [] pos) (tCall sp [] E t) := by
  obtain ⟨f, fd, ps, F, hm, kp, b⟩ := c.ex
  exact pe_call F (hr.mono hk) hg hm kp b .nil hx ha hdb he hpl
theorem pc_cS {E : L2.St → XK} (c : Cal CX X.prog X.w X.K X.mg X.base k x sp) (hr : Room j X.A) (hk : k ≤ j) (hg : Gl X x) (hx : ∀ σ, PassesAt CX X σ (E σ)) (ha : PA X (e :: es) t)
    (hdb : (x == ("__debug__" : Str)) = false := by decide) (he : starEach (e :: es) X.env = (false, eval e X.env) :: starEach es X.env := by rfl) (hpl : (backTo pos (starEach es X.env)).any (·.1) = false := by rfl) :
    PE X (.Call (.Name x p) (e :: es) [] pos) (tCallS sp E t) := by
  obtain ⟨f, fd, ps, F, hm, kp, b⟩ := c.ex
  exact pe_callS F (hr.mono hk) hg hm kp b hx ha hdb he hpl
theorem pc_mk (c : Mak CX X.prog X.w X.K X.mg X.base k x C sp) (hr : Room j X.A) (hk : k + 1 ≤ j) (hg : Gl X x) (hx : Passes CX X E) (ha : PA X (e :: es) t)
    (hdb : (x == ("__debug__" : Str)) = false := by decide) (he : starEach (e :: es) X.env = (false, eval e X.env) :: starEach es X.env := by rfl) (hpl : (backTo pos (starEach es X.env)).any (·.1) = false := by rfl) :
    PE X (.Call (.Name x p) (e :: es) [] pos) (tMake C sp [] E t) := by
  obtain ⟨f, fd, ps, M, F, hm, b⟩ := c.ex
  exact pe_make M F (hr.mono hk) hg hm b .nil hx ha hdb he hpl
/-- a class made where a try stands around: what is raised is wished for at the slots -/
def tMakeS (C : Addr) (sp : Sp) (E : L2.St → XK) (t : TA) : TE := fun σ H Q => t σ H fun vs H1 => ∀ x dx, H1 x = none → H1 dx = none → dx ≠ x →
  sp (.ref x :: (vs ++ [])) (upd (upd H1 dx (.own x)) x (.ins C dx [])) (fun v H2 => v = .non ∧ Q (.ref x) H2) (E σ)
theorem run_mkS {f : Addr} {fd : FuncData} {ps : List Str} {ds : List Value} {dvs : List V} {pins : List (Addr × Obj)} {σ : L2.St} {H : Hp} {s : Shared} {Q : VK} {us : List Value} {vs : List V} (M : Mk X.K C f) (F : FnOk X.prog X.w X.K X.mg X.base CX k f fd ps sp) (hr : Room (k + 1) X.A) (hb : Binds X.K fd ps ds) (hd : Vals dvs ds)
    (hx : PassesAt CX X σ E) (I : Inv X pins σ H s) (r : Vals vs us)
    (h : ∀ x dx, H x = none → H dx = none → dx ≠ x → sp (.ref x :: (vs ++ dvs)) (upd (upd H dx (.own x)) x (.ins C dx [])) (fun v H2 => v = .non ∧ Q (.ref x) H2) E) :
    wpAny (model X.prog X.w) X.A (call (.ref C) us) (EP X pins σ Q) X.xe s := by
  have hq := h (s.heap.objs.size + 1) s.heap.objs.size (I.hok.fresh (Nat.le_succ _)) (I.hok.fresh (Nat.le_refl _)) (Nat.ne_of_lt (Nat.lt_succ_self _))
  have I2 := Inv.made (C := C) I
  have r2 : Vals (V.ref (s.heap.objs.size + 1) :: (vs ++ dvs)) (Value.ref (s.heap.objs.size + 1) :: (us ++ ds)) := .cons rfl (r.append hd)
  have hl : (Value.ref (s.heap.objs.size + 1) :: us ++ ds).length = ps.length := by
    have e := r2.length
    rw [F.len _ _ _ _ hq] at e
    exact e.symm
  refine wpAny_call (make_map (f := f) I.kIn M.makes M.init (beq_iff_eq.mp M.fn) (codeAny_mono (F.run _ X.stack _ _ ⟨Value.ref (s.heap.objs.size + 1) :: us, []⟩ (Value.ref (s.heap.objs.size + 1) :: (us ++ ds)) _ _ E (hr.make C us [])
    (I2.env0.make C us []) (hb _ (Value.ref (s.heap.objs.size + 1) :: us) I2.kIn hl) r2 hq) fun r s' hq' => ?_))
  cases r with
  | error e => exact hx pins _ _ e s' I2 hq'
  | ok fl =>
    cases fl with
    | ret u =>
      obtain ⟨v, H', I3, rv, ev, q3⟩ := I2.after hq'
      subst ev
      exact ⟨rv, ⟨V.ref (s.heap.objs.size + 1), H', I3, rfl, q3⟩⟩
    | next => exact False.elim hq'
    | brk => exact False.elim hq'
    | cont => exact False.elim hq'
theorem pc_mkS {E : L2.St → XK} (c : Mak CX X.prog X.w X.K X.mg X.base k x C sp) (hr : Room j X.A) (hk : k + 1 ≤ j) (hg : Gl X x) (hx : ∀ σ, PassesAt CX X σ (E σ)) (ha : PA X (e :: es) t)
    (hdb : (x == ("__debug__" : Str)) = false := by decide) (he : starEach (e :: es) X.env = (false, eval e X.env) :: starEach es X.env := by rfl) (hpl : (backTo pos (starEach es X.env)).any (·.1) = false := by rfl) :
    PE X (.Call (.Name x p) (e :: es) [] pos) (tMakeS C sp E t) := by
  obtain ⟨f, fd, ps, M, F, hm, b⟩ := c.ex
  refine ⟨fun pins s σ H Q I h => ?_⟩
  refine wpAny_Call_Name_kw (ld_glob I hg hm ?_ hdb)
  refine PySem.W.callWith_K (h₀ := X.base) I.ok.mod.kin M.kp (thn (ha.run pos pins s σ H _ I h) fun us s1 ⟨vs, H1, I1, r, q⟩ => ⟨I1.kIn, ?_⟩) he hpl
  exact run_mkS M F (hr.mono hk) b .nil (hx σ) I1 r q
theorem pc_mt {pl : Sem Bool} (c : Met CX X.prog X.w X.K X.mg X.base k C m sp) (hr : Room j X.A) (hk : k ≤ j) (hx : Passes CX X E) (he : PE X o ta) (ha : PA X (e :: es) t)
    (hst : starEach (e :: es) X.env = (false, eval e X.env) :: starEach es X.env := by rfl) (hpl : (backTo pos (starEach es X.env)).any (·.1) = false := by rfl)
    (ht : eval (.Call (.Attribute o m apos) (e :: es) [] pos) X.env = (do
      let ov ← eval o X.env
      standAt apos.atName
      let (f, first) ← holding [ov] (getMethod ov m pl)
      callWith pos f first (backTo pos (starEach (e :: es) X.env)) (backToKw pos (keywordEach [] X.env))) := by rfl) :
    PE X (.Call (.Attribute o m apos) (e :: es) [] pos) (tMeth C m sp [] E ta t) := by
  obtain ⟨f, fd, ps, hc, hm, F, b⟩ := c.ex
  exact pe_meth (pl := pl) he hc hm F (hr.mono hk) b .nil hx ha hst hpl ht
theorem pc_mt0 {pl : Sem Bool} (c : Met CX X.prog X.w X.K X.mg X.base k C m sp) (hr : Room j X.A) (hk : k ≤ j) (hx : Passes CX X E) (he : PE X o ta)
    (ht : eval (.Call (.Attribute o m apos) [] [] pos) X.env = (do
      let ov ← eval o X.env
      standAt apos.atName
      let (f, first) ← holding [ov] (getMethod ov m pl)
      callWith pos f first (backTo pos (starEach [] X.env)) (backToKw pos (keywordEach [] X.env))) := by rfl) :
    PE X (.Call (.Attribute o m apos) [] [] pos) (tMeth C m sp [] E ta tNil) := by
  obtain ⟨f, fd, ps, hc, hm, F, b⟩ := c.ex
  exact pe_meth0 (pl := pl) he hc hm F (hr.mono hk) b .nil hx ht
/-! ### further operators -/
/-- * : one factor small, or both below a million bits together -/
def CMulA (i j : Int) : Prop := CMul i j ∨ CMulW i j
theorem op_mulA : OpR X (binaryOp .Mult) (rI CMulA fun i j => .int (i * j)) := opI fun _ _ _ _ _ _ _ hc q => mul_int q (hc.elim CMul.ok CMulW.ok)
/-- // by any divisor but 0 that is no giant -/
def CDivA (_ j : Int) : Prop := j ≠ 0 ∧ j.natAbs.log2 < 9000
theorem op_fdivA : OpR X (binaryOp .FloorDiv) (rI CDivA fun i j => .int (i.fdiv j)) := opI fun _ _ _ _ _ _ _ hc q => floordiv_int hc.1 q (.inl (PyProof.noPylong_of_log2 hc.2))
theorem divA {i j : Int} {b : Nat} (h : j ≠ 0) (hb : j.natAbs < 2 ^ b) (h0 : 0 < b) (h9 : b ≤ 9000) : CDivA i j := ⟨h, Nat.lt_of_lt_of_le (PySem.Flt.log2_lt_of h0 hb) h9⟩
end
/-! ### heaps: all but what stands at p is kept -/
def Kp (p : Addr) (H H' : Hp) : Prop := ∀ b o, b ≠ p → H b = some o → H' b = some o
theorem Kp.refl {p : Addr} {H : Hp} : Kp p H H := fun _ _ _ h => h
theorem Kp.trans {p : Addr} {H H1 H2 : Hp} (a : Kp p H H1) (b : Kp p H1 H2) : Kp p H H2 := fun c o n h => b c o n (a c o n h)
theorem Kp.upd {p : Addr} {H : Hp} {o : HO} : Kp p H (upd H p o) := fun _ _ n h => by rw [upd_ne n]; exact h
theorem Kp.same {p : Addr} {H0 H H' : Hp} (s : Same H0 H) (k : Kp p H H') (n : H0 p = none) : Same H0 H' := fun b o h => k b o (fun e => by rw [e, n] at h; cases h) (s b o h)
theorem same_upd {H : Hp} {p : Addr} {o : HO} (n : H p = none) : Same H (upd H p o) := fun b u h => by rw [upd_ne (ne_of_none h n)]; exact h
theorem Same.of (H : Hp) : Same H H := fun _ _ h => h
/-- isinstance(e, c), e the exception that the suite holds; its class and its dict are told in the reading -/
theorem call_isE2 {X : Cx} {a D : Addr} {oe : Obj} {cls : Value} {d : Option Addr} {pn : List (Addr × Obj)} (C : ExcC X.K D) (hz : Zc cls d oe) (hf : ∃ vs, oe.data = .fields vs) :
    CallR (X.suite a ((a, oe) :: pn)) (.builtin "isinstance") (fun xs H Q => cls = .ref D ∧ d = none ∧ rIsE X.K D a xs H Q) := by
  intro pins s σ H xs us Q I r h
  obtain ⟨rfl, rfl, h⟩ := h
  exact call_isE C hz hf pins s σ H xs us Q I r h
/-- an error of the class at S is what «except S» names -/
theorem exm_self {K : PySem.W.Frag} {S : Addr} (h1 : PySem.W.subIn K (.ref S) (.type "BaseException") = some true) (h2 : PySem.W.isClsIn K S = true) (h3 : PySem.W.typeIn K (.ref S) = some (.type "type")) (h4 : PySem.W.subIn K (.ref S) (.ref S) = some true) :
    PySem.W.exmOne K (.ref S) (.ref S) = some true := by
  have e1 : (PySem.W.subIn K (.ref S) (.type "BaseException") == some true) = true := by rw [h1] <;> rfl
  have e2 : ((PySem.W.clsIn K S).isSome && PySem.W.typeIn K (.ref S) == some (.type "type")) = true := by
    have h2' : (PySem.W.clsIn K S).isSome = true := h2
    rw [h2', h3] <;> rfl
  show (if (PySem.W.subIn K (.ref S) (.type "BaseException") == some true) = true then (if ((PySem.W.clsIn K S).isSome && PySem.W.typeIn K (.ref S) == some (.type "type")) = true then PySem.W.subIn K (.ref S) (.ref S) else none) else none) = some true
  rw [if_pos e1, if_pos e2]
  exact h4
/-- x is True, x is False: whatever x is -/
theorem op_isB {X : Cx} : OpR X (compareOp .Is) (fun x y H Q => ∃ b, y = .bl b ∧ Q (.bl (decide (x = .bl b))) H) := by
  intro pins s σ H x y v u Q I rx ry h
  obtain ⟨b, rfl, q⟩ := h
  cases (show u = Value.bool b from ry)
  have fin : ∀ k : Bool, decide (x = .bl b) = k → EP X pins σ Q (.bool k) s := fun k e => ⟨.bl k, H, I, rfl, by rw [← e]; exact q⟩
  cases x with
  | non => cases (show v = Value.none from rx); exact wpAny_pure (fin _ (by simp))
  | bl c =>
    cases (show v = Value.bool c from rx)
    refine wpAny_pure (fin _ ?_)
    by_cases e : c = b
    · subst e; simp
    · simp [e]
  | int i => obtain ⟨t, e⟩ := (show ∃ t, v = Value.int i t from rx); subst e; exact wpAny_pure (fin _ (by simp))
  | str i => obtain ⟨t, e⟩ := (show ∃ t, v = Value.str i t from rx); subst e; exact wpAny_pure (fin _ (by simp))
  | byt i => obtain ⟨t, e⟩ := (show ∃ t, v = Value.bytes i t from rx); subst e; exact wpAny_pure (fin _ (by simp))
  | flt i => obtain ⟨t, e⟩ := (show ∃ t, v = Value.float i t from rx); subst e; exact wpAny_pure (fin _ (by simp))
  | ref a => cases (show v = Value.ref a from rx); exact wpAny_pure (fin _ (by simp))
  | ty n => cases (show v = Value.type n from rx); exact wpAny_pure (fin _ (by simp))
theorem iteDT {p A B : Prop} [Decidable p] (hp : p) (h : A) : if decide p = true then A else B := by
  rw [decide_eq_true hp]
  exact iteT h
theorem iteDF {p A B : Prop} [Decidable p] (hp : ¬ p) (h : B) : if decide p = true then A else B := by
  rw [decide_eq_false hp]
  exact iteF h
/-! ### operators of an own class, called by their signs -/
theorem inst_of {X : Cx} {pins : List (Addr × Obj)} {σ : L2.St} {H : Hp} {s : Shared} {a C dx : Addr} {fs : List (Str × V)} (I : Inv X pins σ H s) (h : H a = some (.ins C dx fs)) :
    ∃ (ox : Obj) (od : Option Obj), PySem.W.InstAt s.heap a ox C od ∧ ox.data = .plain := by
  obtain ⟨mA, O, _⟩ := ins_get I.hok h
  obtain ⟨od, J, _⟩ := O.look
  exact ⟨_, _, J, rfl⟩
theorem back_of {X : Cx} {pins : List (Addr × Obj)} {σ : L2.St} {Q : VK} {u : Value} {s : Shared} (h : EP X pins σ Q u s) : PySem.W.CmpBack (EP X pins σ Q) u s := by
  obtain ⟨v, H', I, r, q⟩ := id h
  cases u with
  | notImplemented =>
    cases v <;> first
      | exact (nomatch (show Value.notImplemented = _ from r))
      | (obtain ⟨t, e⟩ := (show ∃ t, Value.notImplemented = _ from r); cases e)
  | _ => exact h
/-- what the text has of an operator's method: run it on two values; A: where the call stands -/
theorem met_runA {X : Cx} {CX : CXT} {A : Around} {k j : Nat} {C : Addr} {m : Str} {sp : Sp} {E : XK} (c : Met CX X.prog X.w X.K X.mg X.base k C m sp) (hr : Room j A) (hk : k ≤ j) (hx : Passes CX X E)
    (hA : ∀ (s : Shared) (H : Hp), Env0 X.prog X.w X.K X.mg X.base X.A X.stack s H → Env0 X.prog X.w X.K X.mg X.base A X.stack s H) :
    ∃ f : Addr, PySem.W.findIn X.K (.ref C) m = some (some (.ref f)) ∧ PySem.W.isFn X.K (.ref f) = true ∧ PySem.W.keepIn X.K (.ref f) = true ∧
      ∀ (pins : List (Addr × Obj)) (s : Shared) (σ : L2.St) (H : Hp) (us : List Value) (vs : List V) (Q : VK), Inv X pins σ H s → Vals vs us → sp vs H Q E → wpAny (model X.prog X.w) A (call (.ref f) us) (EP X pins σ Q) X.xe s := by
  obtain ⟨f, fd, ps, hc, hm, F, b⟩ := c.ex
  refine ⟨f, hm.at_, hm.fn, hm.kp, fun pins s σ H us vs Q I r h => ?_⟩
  have hl : us.length = ps.length := by rw [← r.length]; exact F.len _ _ _ _ h
  have hb := b s us I.kIn (by rw [List.append_nil]; exact hl)
  rw [List.append_nil] at hb
  refine wpAny_call (codeAny_mono (F.run A X.stack s H ⟨us, []⟩ us vs Q E (hr.mono hk) (hA _ _ I.env0) hb r h) fun r s' hq => ?_)
  match r with
  | .error e => exact hx pins σ H s e s' I hq
  | .ok (.ret u) => exact I.after hq
  | .ok .next => exact False.elim hq
  | .ok .brk => exact False.elim hq
  | .ok .cont => exact False.elim hq
theorem met_run {X : Cx} {CX : CXT} {k j : Nat} {C : Addr} {m : Str} {sp : Sp} {E : XK} (c : Met CX X.prog X.w X.K X.mg X.base k C m sp) (hr : Room j X.A) (hk : k ≤ j) (hx : Passes CX X E) :
    ∃ f : Addr, PySem.W.findIn X.K (.ref C) m = some (some (.ref f)) ∧ PySem.W.isFn X.K (.ref f) = true ∧ PySem.W.keepIn X.K (.ref f) = true ∧
      ∀ (pins : List (Addr × Obj)) (s : Shared) (σ : L2.St) (H : Hp) (us : List Value) (vs : List V) (Q : VK), Inv X pins σ H s → Vals vs us → sp vs H Q E → wpAny (model X.prog X.w) X.A (call (.ref f) us) (EP X pins σ Q) X.xe s := met_runA c hr hk hx fun _ _ z => z
section
variable {X : Cx} {CX : CXT} {k j : Nat} {C : Addr} {m : Str} {sp : Sp} {E : XK}
def rOwn2 (C : Addr) (sp : Sp) (E : XK) : R2 := fun x y H Q => ∃ (a b dx dy : Addr) (fs gs : List (Str × V)), x = .ref a ∧ y = .ref b ∧ H a = some (.ins C dx fs) ∧ H b = some (.ins C dy gs) ∧ sp [x, y] H Q E
/-- x op y, both of one own class that has the method -/
theorem op_own {op : Operator} (c : Met CX X.prog X.w X.K X.mg X.base k C m sp) (hr : Room j X.A) (hk : k ≤ j) (hx : Passes CX X E) (sf : PySem.W.selfFirst X.K C = true) (hm : PySem.dunder op.info.2 = m := by decide +kernel) :
    OpR X (binaryOp op) (rOwn2 C sp E) := by
  intro pins s σ H x y v u Q I rx ry h
  obtain ⟨a, b, dx, dy, fs, gs, rfl, rfl, ha, hb, hs⟩ := h
  obtain ⟨f, hf, fn, kp, run⟩ := met_run c hr hk hx
  obtain ⟨mF, F⟩ := I.fr
  obtain ⟨ox, od, J, _⟩ := inst_of I ha
  obtain ⟨oy, oe, J2, _⟩ := inst_of I hb
  have r2 : Vals [V.ref a, V.ref b] [v, u] := .cons rx (.cons ry .nil)
  cases (show v = Value.ref a from rx)
  cases (show u = Value.ref b from ry)
  exact PySem.W.binop_K F I.ok.mod.kin J J2.type sf (by rw [hm]; exact hf) fn (wpAny_mono (run pins s σ H _ _ Q I r2 hs) (fun _ _ z => back_of z) fun _ _ z => z)
def rOwnI (C : Addr) (sp : Sp) (E : XK) : R2 := fun x y H Q => ∃ (a dx : Addr) (fs : List (Str × V)) (i : Int), x = .ref a ∧ y = .int i ∧ H a = some (.ins C dx fs) ∧ sp [x, y] H Q E
/-- x op i, i a whole number -/
theorem op_ownI {op : Operator} (c : Met CX X.prog X.w X.K X.mg X.base k C m sp) (hr : Room j X.A) (hk : k ≤ j) (hx : Passes CX X E) (sf : PySem.W.selfFirst X.K C = true)
    (hrc : ∃ rc, PySem.W.findIn X.K (.ref C) (dunderR op.info.2) = some rc ∧ (rc = none ∨ ∃ g : Addr, rc = some (.ref g)))
    (h1 : ∃ fo, PySem.W.findIn X.K (.type "int") (PySem.dunder op.info.2) = some fo) (h2 : ∃ ro, PySem.W.findIn X.K (.type "int") (dunderR op.info.2) = some ro) (hsub : PySem.W.subIn X.K (.type "int") (.ref C) = some false)
    (hm : PySem.dunder op.info.2 = m := by decide +kernel) : OpR X (binaryOp op) (rOwnI C sp E) := by
  intro pins s σ H x y v u Q I rx ry h
  obtain ⟨a, dx, fs, i, rfl, rfl, ha, hs⟩ := h
  obtain ⟨f, hf, fn, kp, run⟩ := met_run c hr hk hx
  obtain ⟨rc, hrc, hp⟩ := hrc
  obtain ⟨fo, h1⟩ := h1
  obtain ⟨ro, h2⟩ := h2
  obtain ⟨mF, F⟩ := I.fr
  obtain ⟨ox, od, J, _⟩ := inst_of I ha
  have r2 : Vals [V.ref a, V.int i] [v, u] := .cons rx (.cons ry .nil)
  cases (show v = Value.ref a from rx)
  obtain ⟨t, et⟩ := (show ∃ t, u = Value.int i t from ry)
  subst et
  exact PySem.W.ksp_binT (T := "int") F I.ok.mod.kin J rfl sf (by rw [hm]; exact hf) fn hrc hp h1 h2 hsub (wpAny_mono (run pins s σ H _ _ Q I r2 hs) (fun _ _ z => back_of z) fun _ _ z => z)
def rOwn1 (C : Addr) (sp : Sp) (E : XK) : V → Hp → VK → Prop := fun x H Q => ∃ (a dx : Addr) (fs : List (Str × V)), x = .ref a ∧ H a = some (.ins C dx fs) ∧ sp [x] H Q E
/-- -x -/
theorem un_own (c : Met CX X.prog X.w X.K X.mg X.base k C "__neg__" sp) (hr : Room j X.A) (hk : k ≤ j) (hx : Passes CX X E) : UnR X (unaryOp .USub) (rOwn1 C sp E) := by
  intro pins s σ H x v Q I rx h
  obtain ⟨a, dx, fs, rfl, ha, hs⟩ := h
  obtain ⟨f, hf, fn, kp, run⟩ := met_run c hr hk hx
  obtain ⟨mF, F⟩ := I.fr
  obtain ⟨ox, od, J, _⟩ := inst_of I ha
  have r1 : Vals [V.ref a] [v] := .cons rx .nil
  cases (show v = Value.ref a from rx)
  exact PySem.W.ksp_neg F I.ok.mod.kin J hf fn (run pins s σ H _ _ Q I r1 hs)
/-- int's method finds no int in an own instance -/
theorem int_declines {prog : Program} {w : World} {A : Around} {Er : Value → Shared → Prop} {s : Shared} {x D : Addr} {ox : Obj} {od : Option Obj} {i : Int} {t : Tok} {nm : String} {id : String} {nmB : String} {f : Int → Int → Sem Fin} {Q : Option Value → Shared → Prop}
    (J : PySem.W.InstAt s.heap x ox D od) (hd : ox.data = .plain) (slot : Slot "int" (PySem.dunder nm) id) (entry : entryFor table id = some (Builtin.Int.intBinary nmB f)) (args : argsOk id ⟨[.int i t, .ref x], []⟩) (h : Q none s) :
    wpAny (model prog w) A (tryMethod (.int i t) (PySem.dunder nm) (.ref x)) Q Er s := by
  refine wpAny_tryMethod_declines (typeIs_int s i t) slot ?_
  refine GQ.call_here slot (typeIs_int s i t) entry args ?_
  unfold Builtin.Int.intBinary
  obtain ⟨hp, g, d, tk, os⟩ := s
  obtain ⟨oc, odd, odt, osl⟩ := ox
  dsimp only at hd
  subst hd
  have hx : hp.get? x = some _ := J.1
  wp_walk using AutoSeq1.wpAny_loadPart' hx
  exact ⟨rfl, h⟩
end
def rIOwn (C : Addr) (sp : Sp) (E : XK) : R2 := fun x y H Q => ∃ (a dx : Addr) (fs : List (Str × V)) (i : Int), x = .int i ∧ y = .ref a ∧ H a = some (.ins C dx fs) ∧ sp [y, x] H Q E
/-- i op x, i a whole number: x's reflected method -/
theorem op_Iown {X : Cx} {CX : CXT} {k j : Nat} {C : Addr} {sp : Sp} {E : XK} {op : Operator} {nm id nmB : String} {f : Int → Int → Sem Fin} (hop : op.info.2 = nm)
    (slot : Slot "int" (PySem.dunder nm) id) (entry : entryFor table id = some (Builtin.Int.intBinary nmB f)) (args : ∀ (i : Int) (t : Tok) (x : Addr), argsOk id ⟨[.int i t, .ref x], []⟩) (fills : fillsNumberSlot (.type "int") nm = pure true)
    (c : Met CX X.prog X.w X.K X.mg X.base k C (dunderR nm) sp) (hr : Room j X.A) (hk : k ≤ j) (hx : Passes CX X E) (sf : PySem.W.selfFirst X.K C = true)
    (hs : ∃ g : Addr, PySem.W.findIn X.K (.ref C) (PySem.dunder nm) = some (some (.ref g))) (hsub : PySem.W.subIn X.K (.ref C) (.type "int") = some false) : OpR X (binaryOp op) (rIOwn C sp E) := by
  intro pins s σ H x y v u Q I rx ry h
  obtain ⟨a, dx, fs, i, rfl, rfl, ha, hsp⟩ := h
  obtain ⟨g, hs⟩ := hs
  obtain ⟨f, hf, fn, kp, run⟩ := met_run c hr hk hx
  obtain ⟨ox, od, J, hd⟩ := inst_of I ha
  have r2 : Vals [V.ref a, V.int i] [u, v] := .cons ry (.cons rx .nil)
  cases (show u = Value.ref a from ry)
  obtain ⟨t, et⟩ := (show ∃ t, v = Value.int i t from rx)
  subst et
  have one := PySem.W.ksp_try (M := model X.prog X.w) (A := X.A) (name := dunderR nm) (b := .int i t) I.kIn J hf fn (wpAny_mono (run pins s σ H _ _ Q I r2 hsp) (fun _ _ z => back_of z) fun _ _ z => z)
  obtain ⟨cd, rest, hcd, hmr⟩ := PySem.W.ksp_first sf
  have K1 : X.K.In s.heap := I.kIn
  rcases hi : op.info with ⟨sym, nm'⟩
  rw [hi] at hop
  dsimp only at hop
  subst hop
  have L2 : PySem.W.Looks (model X.prog X.w) s.heap (typeOf (.ref a)) (.ref C) := J.type
  have L4 : PySem.W.Looks (model X.prog X.w) s.heap (fillsNumberSlot (.ref C) nm') true := PySem.W.fills_K K1 hcd hmr hs
  have L5 : PySem.W.Looks (model X.prog X.w) s.heap (isSubtype (.ref C) (.type "int")) false := PySem.W.looks_subIn K1 hsub
  have hne : (Value.type "int" == Value.ref C) = false := Bool.eq_false_iff.mpr fun q => by cases beq_iff_eq.mp q
  have hpy : numberSlotInPython (.type "int") nm' = pure false := rfl
  simp only [binaryOp, hi]
  refine wpAny_holding (wpAny_bind ?_)
  unfold binaryOp1
  refine wpAny_bind (wpAny_typeOf (typeIs_int s i t) (wpAny_bind (L2.here (wpAny_bind (wpAny_of_eq fills ?_)))))
  simp only [hne, Bool.false_eq_true, if_false]
  refine wpAny_bind (L4.here ?_)
  simp only [Bool.and_self, if_true]
  refine wpAny_bind (L5.here ?_)
  simp only [Bool.false_eq_true, if_false, pure_bind, Bool.not_false, Bool.and_self, if_true, hpy]
  refine wpAny_bind (int_declines J hd slot entry (args i t a) ?_)
  dsimp only
  refine wpAny_bind (wpAny_mono one (fun r s' hr' => ?_) fun _ _ e => e)
  obtain ⟨v, rfl, hq⟩ := hr'
  exact wpAny_bind (wpAny_rule (wpAny_pure (wpAny_pure hq)))
/-- abs(x), x an own instance -/
theorem call_absO {X : Cx} {CX : CXT} {k j : Nat} {C : Addr} {sp : Sp} {E : XK} (c : Met CX X.prog X.w X.K X.mg X.base k C "__abs__" sp) (hr : Room j X.A) (hk : k + 1 ≤ j) (hx : Passes CX X E) :
    CallR X (.builtin "abs") (fun xs H Q => ∃ x, xs = [x] ∧ rOwn1 C sp E x H Q) := by
  intro pins s σ H xs us Q I r h
  obtain ⟨x, rfl, a, dx, fs, rfl, ha, hs⟩ := h
  obtain ⟨f, hf, fn, kp, run⟩ := met_runA c (hr.mono hk).in1 (Nat.le_refl _) hx (fun _ _ z => z.in1)
  obtain ⟨ox, od, J, _⟩ := inst_of I ha
  have r0 := r
  obtain ⟨u, rfl, ru⟩ := vals1 r
  cases (show u = Value.ref a from ru)
  have h1 := run pins s σ H _ _ Q I r0 hs
  refine PySem.Calls.call_function_entry PyProof.Rows.kind_abs PyProof.Rows.plain_abs PyProof.Rows.entry_abs (PyProof.Rows.args_abs _) ?_
  unfold Builtin.«abs»
  refine wpAny_bind (m := oneArg "abs" _) (wpAny_pure ?_)
  refine wpAny_bind (m := callSpecial? (.ref a) (Str.ofString "__abs__")) (PySem.W.special_fn I.kIn J hf (beq_iff_eq.mp fn) (wpAny_mono h1 (fun v s' hv => ?_) fun _ _ z => z))
  exact wpAny_pure ⟨_, rfl, hv⟩
theorem UnR.or {X : Cx} {f : Value → Sem Value} {r r' : V → Hp → VK → Prop} (h : UnR X f r) (h' : UnR X f r') : UnR X f (fun x H Q => r x H Q ∨ r' x H Q) := by
  intro pins s σ H x v Q I rx q
  rcases q with q | q
  · exact h pins s σ H x v Q I rx q
  · exact h' pins s σ H x v Q I rx q
theorem CallR.or {X : Cx} {f : Value} {r r' : List V → Hp → VK → Prop} (h : CallR X f r) (h' : CallR X f r') : CallR X f (fun x H Q => r x H Q ∨ r' x H Q) := by
  intro pins s σ H x v Q I rx q
  rcases q with q | q
  · exact h pins s σ H x v Q I rx q
  · exact h' pins s σ H x v Q I rx q
/-! ### the same operators where a try stands around: what is raised is wished for at the slots -/
theorem met_runS {X : Cx} {CX : CXT} {k j : Nat} {C : Addr} {m : Str} {sp : Sp} {E : L2.St → XK} (c : Met CX X.prog X.w X.K X.mg X.base k C m sp) (hr : Room j X.A) (hk : k ≤ j) (hx : ∀ σ, PassesAt CX X σ (E σ)) :
    ∃ f : Addr, PySem.W.findIn X.K (.ref C) m = some (some (.ref f)) ∧ PySem.W.isFn X.K (.ref f) = true ∧ PySem.W.keepIn X.K (.ref f) = true ∧
      ∀ (pins : List (Addr × Obj)) (s : Shared) (σ : L2.St) (H : Hp) (us : List Value) (vs : List V) (Q : VK), Inv X pins σ H s → Vals vs us → sp vs H Q (E σ) → wpAny (model X.prog X.w) X.A (call (.ref f) us) (EP X pins σ Q) X.xe s := by
  obtain ⟨f, fd, ps, hc, hm, F, b⟩ := c.ex
  refine ⟨f, hm.at_, hm.fn, hm.kp, fun pins s σ H us vs Q I r h => ?_⟩
  have hl : us.length = ps.length := by rw [← r.length]; exact F.len _ _ _ _ h
  have hb := b s us I.kIn (by rw [List.append_nil]; exact hl)
  rw [List.append_nil] at hb
  refine wpAny_call (codeAny_mono (F.run X.A X.stack s H ⟨us, []⟩ us vs Q (E σ) (hr.mono hk) I.env0 hb r h) fun r s' hq => ?_)
  match r with
  | .error e => exact hx σ pins H s e s' I hq
  | .ok (.ret u) => exact I.after hq
  | .ok .next => exact False.elim hq
  | .ok .brk => exact False.elim hq
  | .ok .cont => exact False.elim hq
def OpRS (X : Cx) (f : Value → Value → Sem Value) (r : L2.St → R2) : Prop :=
  ∀ (pins : List (Addr × Obj)) (s : Shared) (σ : L2.St) (H : Hp) (x y : V) (v u : Value) (Q : VK), Inv X pins σ H s → RelV x v → RelV y u → r σ x y H Q →
    wpAny (model X.prog X.w) X.A (f v u) (EP X pins σ Q) X.xe s
def tOpS (r : L2.St → R2) (ta tb : TE) : TE := fun σ H Q => ta σ H fun x H1 => tb σ H1 fun y H2 => r σ x y H2 Q
theorem pe_opS {X : Cx} {a b : Expr} {ta tb : TE} {pos : Pos} {op : Operator} {r : L2.St → R2} (ho : OpRS X (binaryOp op) r) (ha : PE X a ta) (hb : PE X b tb) : PE X (.BinOp a op b pos) (tOpS r ta tb) := by
  refine ⟨fun pins s σ H Q I h => ?_⟩
  exact wpAny_BinOp (binT (R := fun x y H2 => r σ x y H2 Q) ha hb I h fun v u s2 x y H2 I2 rx ry q => ho pins s2 σ H2 x y v u Q I2 rx ry q)
theorem OpRS.or {X : Cx} {f : Value → Value → Sem Value} {r r' : L2.St → R2} (h : OpRS X f r) (h' : OpRS X f r') : OpRS X f (fun σ x y H Q => r σ x y H Q ∨ r' σ x y H Q) := by
  intro pins s σ H x y v u Q I rx ry q
  rcases q with q | q
  · exact h pins s σ H x y v u Q I rx ry q
  · exact h' pins s σ H x y v u Q I rx ry q
section
variable {X : Cx} {CX : CXT} {k j : Nat} {C : Addr} {m : Str} {sp : Sp} {E : L2.St → XK}
theorem op_ownS {op : Operator} (c : Met CX X.prog X.w X.K X.mg X.base k C m sp) (hr : Room j X.A) (hk : k ≤ j) (hx : ∀ σ, PassesAt CX X σ (E σ)) (sf : PySem.W.selfFirst X.K C = true) (hm : PySem.dunder op.info.2 = m := by decide +kernel) :
    OpRS X (binaryOp op) (fun σ => rOwn2 C sp (E σ)) := by
  intro pins s σ H x y v u Q I rx ry h
  obtain ⟨a, b, dx, dy, fs, gs, rfl, rfl, ha, hb, hs⟩ := h
  obtain ⟨f, hf, fn, kp, run⟩ := met_runS c hr hk hx
  obtain ⟨mF, F⟩ := I.fr
  obtain ⟨ox, od, J, _⟩ := inst_of I ha
  obtain ⟨oy, oe, J2, _⟩ := inst_of I hb
  have r2 : Vals [V.ref a, V.ref b] [v, u] := .cons rx (.cons ry .nil)
  cases (show v = Value.ref a from rx)
  cases (show u = Value.ref b from ry)
  exact PySem.W.binop_K F I.ok.mod.kin J J2.type sf (by rw [hm]; exact hf) fn (wpAny_mono (run pins s σ H _ _ Q I r2 hs) (fun _ _ z => back_of z) fun _ _ z => z)
theorem op_ownIS {op : Operator} (c : Met CX X.prog X.w X.K X.mg X.base k C m sp) (hr : Room j X.A) (hk : k ≤ j) (hx : ∀ σ, PassesAt CX X σ (E σ)) (sf : PySem.W.selfFirst X.K C = true)
    (hrc : ∃ rc, PySem.W.findIn X.K (.ref C) (dunderR op.info.2) = some rc ∧ (rc = none ∨ ∃ g : Addr, rc = some (.ref g)))
    (h1 : ∃ fo, PySem.W.findIn X.K (.type "int") (PySem.dunder op.info.2) = some fo) (h2 : ∃ ro, PySem.W.findIn X.K (.type "int") (dunderR op.info.2) = some ro) (hsub : PySem.W.subIn X.K (.type "int") (.ref C) = some false)
    (hm : PySem.dunder op.info.2 = m := by decide +kernel) : OpRS X (binaryOp op) (fun σ => rOwnI C sp (E σ)) := by
  intro pins s σ H x y v u Q I rx ry h
  obtain ⟨a, dx, fs, i, rfl, rfl, ha, hs⟩ := h
  obtain ⟨f, hf, fn, kp, run⟩ := met_runS c hr hk hx
  obtain ⟨rc, hrc, hp⟩ := hrc
  obtain ⟨fo, h1⟩ := h1
  obtain ⟨ro, h2⟩ := h2
  obtain ⟨mF, F⟩ := I.fr
  obtain ⟨ox, od, J, _⟩ := inst_of I ha
  have r2 : Vals [V.ref a, V.int i] [v, u] := .cons rx (.cons ry .nil)
  cases (show v = Value.ref a from rx)
  obtain ⟨t, et⟩ := (show ∃ t, u = Value.int i t from ry)
  subst et
  exact PySem.W.ksp_binT (T := "int") F I.ok.mod.kin J rfl sf (by rw [hm]; exact hf) fn hrc hp h1 h2 hsub (wpAny_mono (run pins s σ H _ _ Q I r2 hs) (fun _ _ z => back_of z) fun _ _ z => z)
end
/-- x == y, x < y .., both of one own class that has the method -/
theorem op_cmpO {X : Cx} {CX : CXT} {k j : Nat} {C : Addr} {m : Str} {sp : Sp} {E : XK} {op : CmpOp} (c : Met CX X.prog X.w X.K X.mg X.base k C m sp) (hr : Room j X.A) (hk : k ≤ j) (hx : Passes CX X E)
    (hop : ∀ v u : Value, compareOp op v u = richCompare op v u := by intro _ _; rfl) (hm : (cmpInfo op).2.1 = m := by decide +kernel) : OpR X (compareOp op) (rOwn2 C sp E) := by
  intro pins s σ H x y v u Q I rx ry h
  obtain ⟨a, b, dx, dy, fs, gs, rfl, rfl, ha, hb, hs⟩ := h
  obtain ⟨f, hf, fn, kp, run⟩ := met_run c hr hk hx
  obtain ⟨mF, F⟩ := I.fr
  obtain ⟨ox, od, J, _⟩ := inst_of I ha
  obtain ⟨oy, oe, J2, _⟩ := inst_of I hb
  have r2 : Vals [V.ref a, V.ref b] [v, u] := .cons rx (.cons ry .nil)
  cases (show v = Value.ref a from rx)
  cases (show u = Value.ref b from ry)
  rw [hop]
  have hu : X.A.units < cLine := by have := hr.un; omega
  exact PySem.W.cmp_K hu F I.ok.mod.kin J J2.type (by unfold PySem.W.notFirst; simp) (by rw [hm]; exact hf) fn (wpAny_mono (run pins s σ H _ _ Q I r2 hs) (fun _ _ z => back_of z) fun _ _ z => z)
/-! ### a law's cells and pools: what is promised of them -/
def PoolAt (H : Hp) (p : Addr) : Prop := ∃ x y z : Int, H p = some (.lst [.int x, .int y, .int z])
theorem PoolAt.kp {H H' : Hp} {p q : Addr} (h : PoolAt H p) (k : Kp q H H') (n : p ≠ q) : PoolAt H' p := by
  obtain ⟨x, y, z, e⟩ := h
  exact ⟨x, y, z, k _ _ n e⟩
theorem PoolAt.same {H H' : Hp} {p : Addr} (h : PoolAt H p) (k : Same H H') : PoolAt H' p := by
  obtain ⟨x, y, z, e⟩ := h
  exact ⟨x, y, z, k _ _ e⟩
theorem at0 {α : Type} {a b c : α} : atI [a, b, c] (0 : Int) = some a := rfl
theorem at1 {α : Type} {a b c : α} : atI [a, b, c] (1 : Int) = some b := rfl
theorem at2 {α : Type} {a b c : α} : atI [a, b, c] (2 : Int) = some c := rfl
def sp_Lcell (K : PySem.W.Frag) : Sp := fun vs H Q _ => ∃ (l : Addr) (ns : List Int) (j : Nat), vs = [.ref l, .int (j : Int)] ∧ SqL K H l (ns.map V.int) ∧ ∀ c : Int, 0 ≤ c → Q (.int c) H
def sp_Lpool : Sp := fun vs H Q _ => ∃ c : Int, vs = [.int c] ∧ ∀ (p : Addr) (H' : Hp), H p = none → Same H H' → PoolAt H' p → Q (.ref p) H'
def sp_Ltake : Sp := fun vs H Q _ => ∃ (p : Addr) (many : Int), vs = [.ref p, .int many] ∧ PoolAt H p ∧ 0 < many ∧ many.natAbs < 2 ^ 300 ∧
  ∀ (H' : Hp) (r : Int), Kp p H H' → PoolAt H' p → 0 ≤ r → r < many → Q (.int r) H'
/-! ### told and due are the same data -/
def Pairs (R : V → V → Prop) (xs ys : List V) : Prop := xs.length = ys.length ∧ ∀ (i : Nat) (x y : V), xs[i]? = some x → ys[i]? = some y → R x y
def flatD : V → Bool
  | .non => true
  | .bl _ => true
  | .int _ => true
  | .str _ => true
  | _ => false
def SameV (K : PySem.W.Frag) (H : Hp) : Nat → V → V → Prop
  | 0, x, y => flatD x = true ∧ x = y
  | n + 1, x, y => (flatD x = true ∧ x = y) ∨
      (∃ (a b : Addr) (xs ys : List V), x = .ref a ∧ y = .ref b ∧ SqL K H a xs ∧ SqL K H b ys ∧ xs.length ≤ sizeLine ∧ Pairs (SameV K H n) xs ys) ∨
      (∃ (a b : Addr) (xs ys : List V), x = .ref a ∧ y = .ref b ∧ SqT K H a xs ∧ SqT K H b ys ∧ xs.length ≤ sizeLine ∧ Pairs (SameV K H n) xs ys)
def sp_Lsame (K : PySem.W.Frag) : Nat → Sp
  | 0 => fun _ _ _ _ => False
  | n + 1 => fun vs H Q _ => ∃ x y : V, vs = [x, y] ∧ SameV K H n x y ∧ Q (.bl true) H
theorem SameV.flat {K : PySem.W.Frag} {H : Hp} {n : Nat} {x : V} (h : flatD x = true) : SameV K H n x x := by
  cases n with
  | zero => exact ⟨h, rfl⟩
  | succ n => exact .inl ⟨h, rfl⟩
theorem Pairs.refl {R : V → V → Prop} {xs : List V} (h : ∀ x ∈ xs, R x x) : Pairs R xs xs := ⟨rfl, fun i x y h1 h2 => by
  rw [h1] at h2
  cases h2
  exact h x (List.mem_of_getElem? h1)⟩
theorem tyx_list {K : PySem.W.Frag} {H : Hp} {a : Addr} {xs : List V} (h : SqL K H a xs) : TyX K H (.ref a) (.type "list") := by
  rcases h with (h | ⟨o, h⟩) | ⟨o, its, n, h, c, _⟩
  · exact .base (.lst h)
  · exact .base (.frz h)
  · exact .kList h c
theorem tyx_tup {K : PySem.W.Frag} {H : Hp} {a : Addr} {xs : List V} (h : SqT K H a xs) : TyX K H (.ref a) (.type "tuple") := by
  rcases h with (h | ⟨o, h⟩) | ⟨o, its, n, h, c, _⟩
  · exact .base (.tup h)
  · exact .fTuple h
  · exact .kTuple h c
/-! ### written dicts, an instance called, enumerate -/
theorem op_notIn_kdE {X : Cx} {d : Addr} (D : ∃ (es : Array DictEntry) (n : Nat), KDict X.K X.w d es n) : OpR X (compareOp .NotIn) (fun x y H Q => ∃ (z : Str) (r : Option Value), x = .str z ∧ y = .ref d ∧ PySem.W.nsIn X.K d z = some r ∧ Q (.bl (!r.isSome)) H) := by
  obtain ⟨es, n, D⟩ := D
  exact op_notIn_kd D
theorem op_in_kdE {X : Cx} {d : Addr} (D : ∃ (es : Array DictEntry) (n : Nat), KDict X.K X.w d es n) : OpR X (compareOp .In) (fun x y H Q => ∃ (z : Str) (r : Option Value), x = .str z ∧ y = .ref d ∧ PySem.W.nsIn X.K d z = some r ∧ Q (.bl r.isSome) H) := by
  obtain ⟨es, n, D⟩ := D
  exact op_in_kd D
/-- x(e, ..), x an own instance -/
theorem pc_callO {X : Cx} {CX : CXT} {k j : Nat} {C : Addr} {sp : Sp} {E : XK} {fe e : Expr} {es : List Expr} {tf : TE} {t : TA} {pos : Pos} (c : Met CX X.prog X.w X.K X.mg X.base k C "__call__" sp) (hr : Room j X.A) (hk : k ≤ j) (hx : Passes CX X E) (hf : PE X fe tf) (ha : PA X (e :: es) t)
    (ht : eval (.Call fe (e :: es) [] pos) X.env = (do callWith pos (← eval fe X.env) [] (backTo pos (starEach (e :: es) X.env)) (backToKw pos (keywordEach [] X.env))) := by rfl)
    (he : starEach (e :: es) X.env = (false, eval e X.env) :: starEach es X.env := by rfl) (hpl : (backTo pos (starEach es X.env)).any (·.1) = false := by rfl) :
    PE X (.Call fe (e :: es) [] pos) (StX.tCallO X C (fun vs H Q E => sp (vs ++ []) H Q E) E tf t) := by
  obtain ⟨⟨f, fd, ps, hc, hm, F, b⟩, fi⟩ := c
  exact StX.pe_callO hf ⟨hm.at_, hm.fn, fi f hm.at_⟩ (F.raw b .nil) (hr.mono hk) hx ha ht he hpl
/-- for a, b in enumerate(list) -/
theorem for_enum {K : PySem.W.Frag} {a : Addr} {xs : List V} {g : TG} {tb : TS} {D : Ends} {σ : L2.St} {H : Hp} (Pv : Nat → L2.St → Hp → Prop) (h0 : Pv 0 σ H) (hl : ∀ i σ H, i ≤ xs.length → Pv i σ H → SqL K H a xs)
    (hs : ∀ i x σ H T, xs[i]? = some x → Pv i σ H → H T = none → g (.ref T) σ (upd H T (.tup [.int (i : Nat), x])) fun σ2 H2 => tb { D with nx := Pv (i + 1), ct := Pv (i + 1), bk := D.nx } σ2 H2) (hd : ∀ σ H, Pv xs.length σ H → D.nx σ H) :
    ∃ W : Nat → Nat → L2.St → Hp → Prop, (∃ m, W 0 m σ H) ∧ ∀ i m σ H, W i m σ H →
      ((Ite K a).stop i H ∧ D.nx σ H) ∨ ((Ite K a).go i H ∧ ∃ N : L2.St → Hp → Prop, (∀ σ' H', N σ' H' → ∃ m', m' < m ∧ W (i + 1) m' σ' H') ∧ ∀ x H', (Ite K a).yld i H x H' → g x σ H' fun σ2 H2 => tb { D with nx := N, ct := N, bk := D.nx } σ2 H2) := by
  refine ⟨fun i m σ H => m = xs.length - i ∧ i ≤ xs.length ∧ Pv i σ H, ⟨xs.length, by simp, Nat.zero_le _, h0⟩, ?_⟩
  rintro i m σ H ⟨rfl, hi, p⟩
  have q := hl i σ H hi p
  by_cases hlt : i < xs.length
  · refine .inr ⟨⟨xs, xs[i], q, by simp [hlt]⟩, Pv (i + 1), fun σ' H' p' => ⟨xs.length - (i + 1), by omega, rfl, hlt, p'⟩, fun x H' y => ?_⟩
    obtain ⟨T, z, e1, e2, e3, e4⟩ := y
    subst e1 e3
    exact hs i z σ H T (e4 xs q) p e2
  · have e : i = xs.length := by omega
    subst e
    exact .inl ⟨⟨xs, q, Nat.le_refl _⟩, hd σ H p⟩
theorem tyes {σ : L2.St} {H : Hp} {A B : Hp → Prop} (h : A H) : tYes σ H (fun b H3 => if b = true then A H3 else B H3) := by
  show (if true = true then A H else B H)
  rw [if_pos rfl]
  exact h
/-! ### enumerate(tuple) -/
theorem meets_enumerate_newT (l : Addr) (items : Array Value) (n : Nat) (dct : Option Addr) (sl : Array (Option Value)) :
    Meets (Builtin.«enumerate.__new__» ⟨[.type "enumerate", .ref l], []⟩) (fun _ R s => s.heap.get? l = some { cls := .type "tuple", dict := dct, data := .seq items n, slots := sl } ∧
      R (.ok (.ret (.ref (s.heap.push { cls := .type "tuple_iterator", data := .fields #[.ref l, .int 0 0] }).objs.size)))
        { s with heap := (s.heap.push { cls := .type "tuple_iterator", data := .fields #[.ref l, .int 0 0] }).push { cls := .type "enumerate", data := .fields #[.none, .bool false, .ref s.heap.objs.size, rawInt 0, .none, .none] } }) :=
  .of_wp fun prog w A R s h => by
    obtain ⟨hp, g, d, tk, os⟩ := s
    obtain ⟨hl, h⟩ := h
    have hsub := sub_enumerate
    have hL : Heap.IsTuple (Shared.heap ⟨hp, g, d, tk, os⟩) l items := ⟨_, hl, rfl, n, rfl⟩
    wp_walk using AutoSeq1.wpAny_loadPart' hl
    refine wpAny_stack_any fun st => wpAny_pure ?_
    split
    · rename_i c _ _ _ _ _
      cases (c == Value.type "enumerate")
      · wp_walk using AutoSeq1.wpAny_loadPart' hl, wpAny_pyIter_tuple hL
        exact ⟨_, rfl, h⟩
      · wp_walk using AutoSeq1.wpAny_loadPart' hl, wpAny_pyIter_tuple hL
        exact ⟨_, rfl, h⟩
    · wp_walk using AutoSeq1.wpAny_loadPart' hl, wpAny_pyIter_tuple hL
      exact ⟨_, rfl, h⟩
theorem call_enumerate_tuple {prog : Program} {w : World} {A : Around} {E : Value → Shared → Prop} {s : Shared} {l : Addr} {items : Array Value} {Q : Value → Shared → Prop} (hL : s.heap.IsTuple l items)
    (h : ∀ h', IsEnum h' (s.heap.objs.size + 1) s.heap.objs.size 0 .none → h'.IsTupleIter s.heap.objs.size l 0 → (∀ b o, s.heap.get? b = some o → h'.get? b = some o) → Q (.ref (s.heap.objs.size + 1)) { s with heap := h' }) :
    wpAny (model prog w) A (call (.type "enumerate") [.ref l]) Q E s := by
  obtain ⟨⟨c, dct, dt, sl⟩, hl, hc, n, hd⟩ := hL
  replace hc : c = .type "tuple" := hc
  replace hd : dt = .seq items n := hd
  subst hc hd
  refine callType_new F.called_enumerate (by decide) (F.typeCall_enumerate_1 _) (F.newCall_enumerate_1 _) (fun obj => F.args_object_init_2 obj _) F.entry_enumerate_new
    (meets_enumerate_newT l items n dct sl) ⟨hl, ?_⟩
  have hz : (s.heap.push { cls := .type "tuple_iterator", data := .fields #[.ref l, .int 0 0] }).objs.size = s.heap.objs.size + 1 := Heap.size_push ..
  show _ ∧ _
  rw [hz]
  have he : IsEnum ((s.heap.push { cls := .type "tuple_iterator", data := .fields #[.ref l, .int 0 0] }).push
      { cls := .type "enumerate", data := .fields #[.none, .bool false, .ref s.heap.objs.size, rawInt 0, .none, .none] }) (s.heap.objs.size + 1) s.heap.objs.size 0 .none := by
    have z := Heap.get?_push_size (s.heap.push { cls := .type "tuple_iterator", data := .fields #[.ref l, .int 0 0] })
      (o := { cls := .type "enumerate", data := .fields #[.none, .bool false, .ref s.heap.objs.size, rawInt 0, .none, .none] }) rfl
    rw [hz] at z
    exact z
  exact ⟨⟨_, he, rfl⟩, h _ he ⟨_, Heap.get?_push_of_some _ (Heap.get?_push_size _ rfl), rfl, rfl⟩ fun b o x => Heap.get?_push_of_some _ (Heap.get?_push_of_some _ x)⟩
theorem pyNext_enumT_end {prog : Program} {w : World} {A : Around} {E : Value → Shared → Prop} {s : Shared} {e it l : Addr} {i : Nat} {items : Array Value} {old : Value} {Q : Option Value → Shared → Prop} (hh : A.handled = none)
    (he : IsEnum s.heap e it i old) (hit : s.heap.IsTupleIter it l i) (hl : s.heap.IsTuple l items) (hx : items[i]? = none)
    (hQ : ∀ h', Heap.ExtBut it s.heap h' → Q none { s with heap := h' }) : wpAny (model prog w) A (pyNext (.ref e)) Q E s := by
  have hT : s.TypeIs (.ref e) "enumerate" := ⟨_, he, rfl⟩
  unfold pyNext
  refine wpAny_bind (wpAny_attempt (wpAny_callSpecial?_slot (name := Str.ofString "__next__") hT F.slot_enumerate_next
    (wpAny_call_entry F.slot_enumerate_next hT F.entry_enumerate_next ?_ (F.args_enumerate_next_1 _))))
  show wpAny _ _ (field (.ref e) 2 >>= _) _ _ _
  refine wpAny_bind (wpAny_field he rfl (x := .ref it) rfl ?_)
  refine wpAny_bind (wpAny_nextOf_tuple_end (A := A.in1) hh hit hl hx fun h' x he' hx' => ?_)
  obtain ⟨o, ho, hc⟩ := hx'
  refine wpAny_bind (wpAny_isInstance (T := "StopIteration") (b := true) ⟨o, ho, hc⟩ isSubtype_stop ?_)
  exact wpAny_pure (hQ _ he')
/-- the tuple at a, each item in a new pair -/
def Iett (K : PySem.W.Frag) (a : Addr) : It :=
  ⟨fun i H => ∃ (xs : List V) (x : V), SqT K H a xs ∧ xs[i]? = some x, fun i H v H' => ∃ T x, v = .ref T ∧ H T = none ∧ H' = upd H T (.tup [.int (i : Nat), x]) ∧ ∀ xs, SqT K H a xs → xs[i]? = some x, fun i H => ∃ xs : List V, SqT K H a xs ∧ xs.length ≤ i⟩
theorem turn_enumT {P : Program} {w : World} {K : PySem.W.Frag} {elts : List Expr} {kk : Nat} {tpos : Pos} (a e it : Addr) :
    Turn P w K (.Tuple elts kk tpos) (Iett K a) [e, it] e (fun i h => (∃ old, IsEnum h e it ((i : Nat) : Int) old) ∧ h.IsTupleIter it a i ∧ e ≠ it ∧ a ≠ it ∧ a ≠ e) where
  mem := by simp
  obj := fun i h st b hb => by
    obtain ⟨⟨old, he⟩, ⟨o, ho, hc, hd⟩, _⟩ := st
    have e' : b = e ∨ b = it := by simpa using hb
    rcases e' with z | z
    · rw [z]; exact ⟨_, he, fun v q => nomatch q⟩
    · rw [z]; exact ⟨o, ho, fun v q => by rw [hd] at q; cases q⟩
  keep := fun i h h' st k => let ⟨⟨old, he⟩, hi, hne⟩ := st; ⟨⟨old, k e (by simp) _ he⟩, hi.at fun o q => k it (by simp) o q, hne⟩
  item := by
    intro X hP hw hK hc i pins s σ H E I hf st hg
    subst hP hw hK
    obtain ⟨⟨old, he⟩, hit, hne, hae, hea⟩ := st
    obtain ⟨xs, x, hq, hx⟩ := hg
    obtain ⟨its, rv, p, hz⟩ := I.tuple hq
    obtain ⟨u, hu, ru⟩ := rv.get hx
    have p' : s.heap.IsTuple a its.toArray := p
    have hel : e < s.heap.objs.size := Heap.lt_size he
    have hil : it < s.heap.objs.size := by obtain ⟨_, q, _⟩ := hit; exact Heap.lt_size q
    have hii : i < its.toArray.size := by
      have := (List.getElem?_eq_some_iff.mp hu).1
      simpa using this
    have D := Draws.tuple (prog := X.prog) (w := X.w) (A := X.A.in1) (I.ok.hd hc) it a hae its.toArray
    refine PySem.wpAny_pyNext_enum_itemC D he ⟨hit, p'⟩ hii hne (by simp [Ne.symm hea, hne]) fun y h' tk hy ho hst' hT hsz hk => ?_
    have hyu : y = u := by
      have e1 : its.toArray[i]? = some y := hy
      rw [List.getElem?_toArray] at e1
      rw [hu] at e1
      exact (Option.some.inj e1).symm
    subst hyu
    refine ⟨_, rfl, wpAny_letOwnedTupleGo_enum (s := { s with heap := h', toks := tk + 1 }) ho fun h'' he' sb => ?_⟩
    have hT2 : h''.get? s.heap.objs.size = some { cls := .type "tuple", data := .seq #[.int i tk, y] } := (sb.2 _ (Nat.ne_of_gt hel)).trans hT
    have new : ObjOk X.prog X.w (upd H s.heap.objs.size (.tup [.int (i : Nat), x])) h'' s.heap.objs.size (.tup [.int (i : Nat), x]) :=
      ⟨by show 2 ≤ sizeLine; decide, [.int i tk, y], .cons ⟨_, rfl⟩ (.cons ru .nil), ⟨_, hT2, rfl, _, rfl⟩⟩
    have I1 : Inv X pins σ (upd H s.heap.objs.size (.tup [.int (i : Nat), x])) { s with heap := h'', toks := tk + 1 } :=
      I.turnedNew (ch := [e, it]) (fun b ob hb q => (sb.2 b (fun z => hb (by simp [z]))).trans (hk b ob (fun z => hb (by simp [z])) (fun z => hb (by simp [z])) q)) hf (Nat.le_refl _) new
    refine ⟨.ref s.heap.objs.size, _, I1, rfl, ⟨_, x, rfl, I.hok.fresh (Nat.le_refl _), rfl, fun ys hy => by rw [I.tuple_inj hy hq]; exact hx⟩, ⟨⟨y, ?_⟩, hst'.1.at fun o q => (sb.2 it (Ne.symm hne)).trans q, hne, hae, hea⟩, fun b hb => ?_⟩
    · have e1 : ((i + 1 : Nat) : Int) = (i : Int) + 1 := by omega
      rw [e1]; exact he'
    · have hb' : b < s.heap.objs.size := by
        have e' : b = e ∨ b = it := by simpa using hb
        rcases e' with z | z
        · rw [z]; exact hel
        · rw [z]; exact hil
      rw [upd_ne (Nat.ne_of_lt hb')]
      exact (hf b hb).1
  done := by
    intro X hP hw hK hc i pins s σ H E I hf st hg
    subst hP hw hK
    obtain ⟨⟨old, he⟩, hit, hne, hae, hea⟩ := st
    obtain ⟨xs, hq, hx⟩ := hg
    obtain ⟨its, rv, p, hz⟩ := I.tuple hq
    obtain ⟨f0, f1, f2, f3, f4, f5⟩ := hf it (by simp)
    have hl := rv.length
    have p' : s.heap.IsTuple a its.toArray := p
    exact pyNext_enumT_end (I.ok.hd hc) he hit p' (by simp; omega) fun h' eb => ⟨rfl, I.turned (t' := s.toks) (fun b o hb q => eb b o hb q) f0 f1 f3 f4 f5⟩
  self := fun A i s Q E st h => let ⟨⟨_, he⟩, _⟩ := st; wpAny_pyIter_enum he h
/-- what stands at a: a list or a tuple -/
def SqB (K : PySem.W.Frag) (b : Bool) (H : Hp) (a : Addr) (xs : List V) : Prop := if b then SqT K H a xs else SqL K H a xs
def ItB (K : PySem.W.Frag) (b : Bool) (a : Addr) : It := if b then Iett K a else Ite K a
/-- enumerate over a list or a tuple -/
def iEnumS (K : PySem.W.Frag) (ta : TA) : TI := fun σ H R => ta σ H fun vs H1 => ∃ a xs b, vs = [.ref a] ∧ SqB K b H1 a xs ∧ R (ItB K b a) H1
theorem pi_enumS {X : Cx} {e : Expr} {ta : TA} {p pos tpos : Pos} {elts : List Expr} {kk : Nat} (hg : Gl X "enumerate") (hm : X.mg "enumerate" = none) (ha : PA X [e] ta) (hs : starEach [e] X.env = [(false, eval e X.env)] := by rfl) :
    PI X (.Tuple elts kk tpos) (.Call (.Name "enumerate" p) [e] [] pos) (iEnumS X.K ta) := by
  refine ⟨fun pins s σ H R I h => ?_⟩
  refine Call_ (ld_blt I hg hm boot_enumerate (PyProof.Rows.callWith_type1 (thn (ha.run pos pins s σ H _ I h) fun us s1 ⟨vs, H1, I1, r1, q1⟩ => ?_) hs rfl))
  obtain ⟨a, xs, bb, ex, hq, q⟩ := q1
  subst ex
  cases r1 with
  | cons r rr =>
    cases rr
    cases r
    cases bb
    · obtain ⟨its, rv, p', hz⟩ := I1.list hq
      refine call_enumerate_list p'.isList fun h' he hit hsz hk => wpAny_pyIter_enum he ?_
      have I2 : Inv X pins σ H1 { s1 with heap := h' } := I1.kept (t' := s1.toks) hk
      refine ⟨s1.heap.objs.size + 1, [s1.heap.objs.size + 1, s1.heap.objs.size], _, _, H1, rfl, I2, turn_enum a (s1.heap.objs.size + 1) s1.heap.objs.size, ⟨⟨.none, he⟩, hit, Nat.succ_ne_self _⟩, fun b hb => ?_, q⟩
      have e' : b = s1.heap.objs.size + 1 ∨ b = s1.heap.objs.size := by simpa using hb
      have hle : s1.heap.objs.size ≤ b := by
        rcases e' with z | z
        · rw [z]; exact Nat.le_add_right _ _
        · rw [z]; exact Nat.le_refl _
      exact I1.fpOk hle (I1.hok.fresh hle)
    · obtain ⟨its, rv, p', hz⟩ := I1.tuple hq
      have hL : s1.heap.IsTuple a its.toArray := p'
      have hlt : a < s1.heap.objs.size := by obtain ⟨_, q0, _⟩ := hL; exact Heap.lt_size q0
      refine call_enumerate_tuple hL fun h' he hit hk => wpAny_pyIter_enum he ?_
      have I2 : Inv X pins σ H1 { s1 with heap := h' } := I1.kept (t' := s1.toks) hk
      refine ⟨s1.heap.objs.size + 1, [s1.heap.objs.size + 1, s1.heap.objs.size], _, _, H1, rfl, I2, turn_enumT a (s1.heap.objs.size + 1) s1.heap.objs.size, ⟨⟨.none, he⟩, hit, Nat.succ_ne_self _, Nat.ne_of_lt hlt, Nat.ne_of_lt (Nat.lt_succ_of_lt hlt)⟩, fun b hb => ?_, q⟩
      have e' : b = s1.heap.objs.size + 1 ∨ b = s1.heap.objs.size := by simpa using hb
      have hle : s1.heap.objs.size ≤ b := by
        rcases e' with z | z
        · rw [z]; exact Nat.le_add_right _ _
        · rw [z]; exact Nat.le_refl _
      exact I1.fpOk hle (I1.hok.fresh hle)
/-- the turns of enumerate over a list or a tuple: Sq is how the items stand there -/
theorem for_enumI {K : PySem.W.Frag} {I : It} {Sq : Hp → Prop} {xs : List V} {g : TG} {tb : TS} {D : Ends} {σ : L2.St} {H : Hp} (Pv : Nat → L2.St → Hp → Prop) (h0 : Pv 0 σ H) (hl : ∀ i σ H, i ≤ xs.length → Pv i σ H → Sq H)
    (hgo : ∀ H i x, Sq H → xs[i]? = some x → I.go i H) (hy : ∀ H i x H', Sq H → I.yld i H x H' → ∃ T z, x = .ref T ∧ H T = none ∧ H' = upd H T (.tup [.int (i : Nat), z]) ∧ xs[i]? = some z) (hst : ∀ H, Sq H → I.stop xs.length H)
    (hs : ∀ i x σ H T, xs[i]? = some x → Pv i σ H → H T = none → g (.ref T) σ (upd H T (.tup [.int (i : Nat), x])) fun σ2 H2 => tb { D with nx := Pv (i + 1), ct := Pv (i + 1), bk := D.nx } σ2 H2) (hd : ∀ σ H, Pv xs.length σ H → D.nx σ H) :
    ∃ W : Nat → Nat → L2.St → Hp → Prop, (∃ m, W 0 m σ H) ∧ ∀ i m σ H, W i m σ H →
      (I.stop i H ∧ D.nx σ H) ∨ (I.go i H ∧ ∃ N : L2.St → Hp → Prop, (∀ σ' H', N σ' H' → ∃ m', m' < m ∧ W (i + 1) m' σ' H') ∧ ∀ x H', I.yld i H x H' → g x σ H' fun σ2 H2 => tb { D with nx := N, ct := N, bk := D.nx } σ2 H2) := by
  refine ⟨fun i m σ H => m = xs.length - i ∧ i ≤ xs.length ∧ Pv i σ H, ⟨xs.length, by simp, Nat.zero_le _, h0⟩, ?_⟩
  rintro i m σ H ⟨rfl, hi, p⟩
  have q := hl i σ H hi p
  by_cases hlt : i < xs.length
  · refine .inr ⟨hgo H i xs[i] q (by simp [hlt]), Pv (i + 1), fun σ' H' p' => ⟨xs.length - (i + 1), by omega, rfl, hlt, p'⟩, fun x H' y => ?_⟩
    obtain ⟨T, z, e1, e2, e3, e4⟩ := hy _ _ _ _ q y
    subst e1 e3
    exact hs i z σ H T e4 p e2
  · have e : i = xs.length := by omega
    subst e
    exact .inl ⟨hst H q, hd σ H p⟩
theorem for_enumB {K : PySem.W.Frag} {bb : Bool} {a : Addr} {xs : List V} {g : TG} {tb : TS} {D : Ends} {σ : L2.St} {H : Hp} (Pv : Nat → L2.St → Hp → Prop) (h0 : Pv 0 σ H) (hl : ∀ i σ H, i ≤ xs.length → Pv i σ H → SqB K bb H a xs)
    (hs : ∀ i x σ H T, xs[i]? = some x → Pv i σ H → H T = none → g (.ref T) σ (upd H T (.tup [.int (i : Nat), x])) fun σ2 H2 => tb { D with nx := Pv (i + 1), ct := Pv (i + 1), bk := D.nx } σ2 H2) (hd : ∀ σ H, Pv xs.length σ H → D.nx σ H) :
    ∃ W : Nat → Nat → L2.St → Hp → Prop, (∃ m, W 0 m σ H) ∧ ∀ i m σ H, W i m σ H →
      ((ItB K bb a).stop i H ∧ D.nx σ H) ∨ ((ItB K bb a).go i H ∧ ∃ N : L2.St → Hp → Prop, (∀ σ' H', N σ' H' → ∃ m', m' < m ∧ W (i + 1) m' σ' H') ∧ ∀ x H', (ItB K bb a).yld i H x H' → g x σ H' fun σ2 H2 => tb { D with nx := N, ct := N, bk := D.nx } σ2 H2) := by
  refine for_enumI (K := K) (I := ItB K bb a) (Sq := fun H => SqB K bb H a xs) Pv h0 hl ?_ ?_ ?_ hs hd
  · cases bb
    · exact fun H i x q e => ⟨xs, x, q, e⟩
    · exact fun H i x q e => ⟨xs, x, q, e⟩
  · cases bb
    · rintro H i x H' q ⟨T, z, e1, e2, e3, e4⟩
      exact ⟨T, z, e1, e2, e3, e4 xs q⟩
    · rintro H i x H' q ⟨T, z, e1, e2, e3, e4⟩
      exact ⟨T, z, e1, e2, e3, e4 xs q⟩
  · cases bb
    · exact fun H q => ⟨xs, q, Nat.le_refl _⟩
    · exact fun H q => ⟨xs, q, Nat.le_refl _⟩
/-! ### tuples in order -/
def plc (n : List Int) : List (List Int) → Nat
  | [] => 0
  | k :: ks => if HT.lexLt n k then 0 else plc n ks + 1
theorem plc_le (n : List Int) : ∀ ks, plc n ks ≤ ks.length
  | [] => Nat.le_refl _
  | k :: ks => by
    unfold plc
    split
    · exact Nat.zero_le _
    · exact Nat.succ_le_succ (plc_le n ks)
theorem plc_before {n : List Int} : ∀ {ks : List (List Int)} {j : Nat} {k : List Int}, j < plc n ks → ks[j]? = some k → HT.lexLt n k = false
  | [], j, k, _, h => by simp at h
  | k0 :: ks, j, k, hj, h => by
    unfold plc at hj
    split at hj
    · omega
    · rename_i hc
      cases j with
      | zero =>
        simp at h
        subst h
        simpa using hc
      | succ j => exact plc_before (ks := ks) (j := j) (by omega) (by simpa using h)
theorem plc_at {n : List Int} : ∀ {ks : List (List Int)} {k : List Int}, ks[plc n ks]? = some k → HT.lexLt n k = true
  | [], k, h => by simp at h
  | k0 :: ks, k, h => by
    unfold plc at h
    split at h
    · rename_i hc
      simp at h
      subst h
      exact hc
    · exact plc_at (ks := ks) (by simpa using h)
theorem plc_eq {n : List Int} {ks : List (List Int)} {p : Nat} (hp : p ≤ ks.length) (h1 : ∀ j k, j < p → ks[j]? = some k → HT.lexLt n k = false) (h2 : ∀ k, ks[p]? = some k → HT.lexLt n k = true) : plc n ks = p := by
  have hl := plc_le n ks
  rcases Nat.lt_trichotomy (plc n ks) p with h | h | h
  · have e : ks[plc n ks]? = some ks[plc n ks] := List.getElem?_eq_getElem (by omega)
    have a := plc_at e
    have b := h1 _ _ h e
    rw [a] at b
    cases b
  · exact h
  · have e : ks[p]? = some ks[p] := List.getElem?_eq_getElem (by omega)
    have a := h2 _ e
    have b := plc_before h e
    rw [a] at b
    cases b
def Sd (ks : List (List Int)) : Prop := ks.Pairwise fun a b => HT.lexLt b a = false
theorem Sd.ins {n : List Int} : ∀ {ks : List (List Int)}, Sd ks → Sd (ks.take (plc n ks) ++ [n] ++ ks.drop (plc n ks))
  | [], _ => by
    show Sd [n]
    exact List.pairwise_singleton _ _
  | k :: ks, h => by
    have h' := List.pairwise_cons.mp h
    unfold plc
    split
    · rename_i hc
      show Sd (n :: k :: ks)
      have a := NtL.lex_asym _ _ hc
      refine List.pairwise_cons.mpr ⟨fun b hb => ?_, h⟩
      rcases List.mem_cons.mp hb with rfl | hb
      · exact a
      · exact NtL.lex_tr _ _ _ a (h'.1 b hb)
    · rename_i hc
      show Sd (k :: (ks.take (plc n ks) ++ [n] ++ ks.drop (plc n ks)))
      refine List.pairwise_cons.mpr ⟨fun b hb => ?_, Sd.ins h'.2⟩
      rcases List.mem_append.mp hb with hb | hb
      · rcases List.mem_append.mp hb with hb | hb
        · exact h'.1 b (List.mem_of_mem_take hb)
        · rw [List.mem_singleton.mp hb]
          simpa using hc
      · exact h'.1 b (List.mem_of_mem_drop hb)
theorem Sd.le {ks : List (List Int)} (h : Sd ks) {i j : Nat} {x y : List Int} (hx : ks[i]? = some x) (hy : ks[j]? = some y) (hij : i < j) : HT.lexLt y x = false := by
  obtain ⟨h1, e1⟩ := List.getElem?_eq_some_iff.mp hx
  obtain ⟨h2, e2⟩ := List.getElem?_eq_some_iff.mp hy
  subst e1 e2
  exact List.pairwise_iff_getElem.mp h i j h1 h2 hij
def insA {α : Type} (l : List α) (p : Nat) (x : α) : List α := l.take p ++ [x] ++ l.drop p
theorem insA_perm {α : Type} (l : List α) (p : Nat) (x : α) : (insA l p x).Perm (x :: l) := by
  unfold insA
  rw [List.append_assoc]
  have h := List.perm_middle (l₁ := l.take p) (a := x) (l₂ := l.drop p)
  rw [List.take_append_drop] at h
  exact h
theorem insA_map {α β : Type} (f : α → β) (l : List α) (p : Nat) (x : α) : (insA l p x).map f = insA (l.map f) p (f x) := by
  unfold insA
  rw [List.map_append, List.map_append, List.map_take, List.map_drop]
  rfl
/-- the indexes below i in the order of their keys, equal keys in their own order -/
def ordN (key : Nat → List Int) : Nat → List Nat
  | 0 => []
  | i + 1 => insA (ordN key i) (plc (key i) ((ordN key i).map key)) i
theorem ordN_perm (key : Nat → List Int) (i : Nat) : (ordN key (i + 1)).Perm (i :: ordN key i) := insA_perm _ _ _
theorem ordN_len (key : Nat → List Int) : ∀ i, (ordN key i).length = i
  | 0 => rfl
  | i + 1 => by rw [(ordN_perm key i).length_eq, List.length_cons, ordN_len key i]
theorem ordN_lt (key : Nat → List Int) : ∀ i, ∀ x ∈ ordN key i, x < i
  | 0 => fun x hx => by cases hx
  | i + 1 => fun x hx => by
    rcases List.mem_cons.mp ((ordN_perm key i).mem_iff.mp hx) with rfl | h
    · exact Nat.lt_succ_self _
    · exact Nat.lt_succ_of_lt (ordN_lt key i x h)
theorem ordN_nd (key : Nat → List Int) : ∀ i, (ordN key i).Nodup
  | 0 => List.nodup_nil
  | i + 1 => (ordN_perm key i).nodup_iff.mpr (List.nodup_cons.mpr ⟨fun h => Nat.lt_irrefl _ (ordN_lt key i i h), ordN_nd key i⟩)
theorem ordN_map (key : Nat → List Int) (i : Nat) : (ordN key (i + 1)).map key = insA ((ordN key i).map key) (plc (key i) ((ordN key i).map key)) (key i) := insA_map ..
theorem ordN_sd (key : Nat → List Int) : ∀ i, Sd ((ordN key i).map key)
  | 0 => List.Pairwise.nil
  | i + 1 => by
    rw [ordN_map]
    exact Sd.ins (ordN_sd key i)
/-! ### lists of values, each one of its own kind -/
inductive Al {α : Type} (R : V → α → Prop) : List V → List α → Prop where
  | nil : Al R [] []
  | cons {x : V} {y : α} {xs : List V} {ys : List α} : R x y → Al R xs ys → Al R (x :: xs) (y :: ys)
section
variable {α : Type} {R R' : V → α → Prop}
theorem Al.len : ∀ {xs : List V} {ys : List α}, Al R xs ys → xs.length = ys.length
  | _, _, .nil => rfl
  | _, _, .cons _ t => congrArg Nat.succ t.len
theorem Al.mono (h : ∀ x y, R x y → R' x y) : ∀ {xs : List V} {ys : List α}, Al R xs ys → Al R' xs ys
  | _, _, .nil => .nil
  | _, _, .cons r t => .cons (h _ _ r) (t.mono h)
theorem Al.app : ∀ {xs xs' : List V} {ys ys' : List α}, Al R xs ys → Al R xs' ys' → Al R (xs ++ xs') (ys ++ ys')
  | _, _, _, _, .nil, u => u
  | _, _, _, _, .cons r t, u => .cons r (t.app u)
theorem Al.take : ∀ {xs : List V} {ys : List α} (n : Nat), Al R xs ys → Al R (xs.take n) (ys.take n)
  | _, _, 0, _ => .nil
  | _, _, _ + 1, .nil => .nil
  | _, _, n + 1, .cons r t => .cons r (t.take n)
theorem Al.drop : ∀ {xs : List V} {ys : List α} (n : Nat), Al R xs ys → Al R (xs.drop n) (ys.drop n)
  | _, _, 0, h => h
  | _, _, _ + 1, .nil => .nil
  | _, _, n + 1, .cons _ t => t.drop n
theorem Al.ins {xs : List V} {ys : List α} {x : V} {y : α} (h : Al R xs ys) (p : Nat) (r : R x y) : Al R (insA xs p x) (insA ys p y) := ((h.take p).app (.cons r .nil)).app (h.drop p)
theorem Al.snoc {xs : List V} {ys : List α} {x : V} {y : α} (h : Al R xs ys) (r : R x y) : Al R (xs ++ [x]) (ys ++ [y]) := h.app (.cons r .nil)
theorem Al.rev : ∀ {xs : List V} {ys : List α}, Al R xs ys → Al R xs.reverse ys.reverse
  | _, _, .nil => .nil
  | _, _, .cons r t => by
    rw [List.reverse_cons, List.reverse_cons]
    exact t.rev.app (.cons r .nil)
theorem Al.at : ∀ {xs : List V} {ys : List α} {i : Nat} {x : V}, Al R xs ys → xs[i]? = some x → ∃ y, ys[i]? = some y ∧ R x y
  | _, _, _, _, .nil, h => by simp at h
  | _, _, 0, _, .cons r _, h => ⟨_, rfl, by simp at h; subst h; exact r⟩
  | _, _, i + 1, _, .cons _ t, h => t.at (i := i) (by simpa using h)
theorem Al.at' {xs : List V} {ys : List α} {i : Nat} {y : α} (h : Al R xs ys) (hy : ys[i]? = some y) : ∃ x, xs[i]? = some x ∧ R x y := by
  have hi : i < xs.length := by rw [h.len]; exact (List.getElem?_eq_some_iff.mp hy).1
  obtain ⟨y', e, r⟩ := h.at (List.getElem?_eq_getElem hi)
  rw [hy] at e
  cases e
  exact ⟨_, List.getElem?_eq_getElem hi, r⟩
end
/-! ### set(list of ints), x in the set -/
theorem call_setI {X : Cx} (hc : X.calm = true) : CallR X (.type "set") (fun xs H Q => ∃ (l : Addr) (ns : List Int), xs = [.ref l] ∧ SqL X.K H l (ns.map V.int) ∧ ns.Nodup ∧ ns.length ≤ 4000 ∧
    ∀ (p : Addr) (S : Int → Bool) (n : Nat), H p = none → (∀ k, S k = decide (k ∈ ns)) → Q (.ref p) (upd H p (.set S n))) := by
  intro pins s σ H xs us Q I r h
  obtain ⟨l, ns, rfl, hq, hnd, hl, q⟩ := h
  cases r with
  | cons r rr =>
    cases rr
    cases r
    obtain ⟨its, r, pl, hz⟩ := I.list hq
    have hlen : its.toArray.size = ns.length := by rw [List.size_toArray, ← r.length, List.length_map]
    refine call_set_list (I.ok.hd hc) pl.isList (by simpa using RZ.intsAre_vals r) (by rw [hlen]; unfold scanBound; omega) fun h' tk hS hk => ?_
    rw [hlen, RZ.firstMet_nodup hnd ns.length (Nat.le_refl _), List.take_length] at hS
    refine ⟨.ref s.heap.objs.size, _, I.laid (t' := tk) (o := .set (fun k' => ns.any (· == k')) ns.length) (fun b o e => hk b o (Heap.lt_size e) e) (Nat.le_refl _) hS, rfl, q _ _ _ (I.hok.fresh (Nat.le_refl _)) fun k => ?_⟩
    show ns.any (· == k) = decide (k ∈ ns)
    rw [Bool.eq_iff_iff, List.any_eq_true, decide_eq_true_iff]
    constructor
    · rintro ⟨x, hx, e⟩
      rw [← eq_of_beq e]
      exact hx
    · intro hx
      exact ⟨k, hx, beq_self_eq_true k⟩
theorem op_inSet {X : Cx} : OpR X (compareOp .In) (fun x y H Q => ∃ (k : Int) (a : Addr) (S : Int → Bool) (n : Nat), x = .int k ∧ y = .ref a ∧ H a = some (.set S n) ∧ Q (.bl (S k)) H) := by
  intro pins s σ H x y v u Q I rx ry h
  obtain ⟨k, a, S, n, rfl, rfl, ha, q⟩ := h
  obtain ⟨t, rfl⟩ := rx
  cases ry
  have hS : s.heap.SetOf (intKind X.prog X.w) a S n := I.hok a _ ha
  exact wpAny_inSet_of (intKind_is X.prog X.w k t) rfl hS ⟨.bl (S k), H, I.tok _, rfl, q⟩
/-! ### terms -/
def sd (b : Bool) : Str := if b then "least" else "most"
def wd (k : Nat) : Str := (["stay", "need", "left", "want", "here", "got", "slack"] : List Str).getD k ""
/-- the measures of an open car (stay, need, left, want) -/
def ms (k : Nat) (s n l w : Int) : Int := match k with
  | 0 => s
  | 1 => n
  | 2 => l
  | 3 => w
  | 4 => s - l
  | 5 => n - w
  | _ => l - w
def kn (t : Bool × Nat) (s n l w : Int) : Int := if t.1 then ms t.2 s n l w else -(ms t.2 s n l w)
/-- x is the pair of a term -/
def TermV (K : PySem.W.Frag) (H : Hp) (x : V) (t : Bool × Nat) : Prop := t.2 < 7 ∧ ∃ p : Addr, x = .ref p ∧ SqT K H p [.str (sd t.1), .str (wd t.2)]
def TermsV (K : PySem.W.Frag) (H : Hp) (xs : List V) (ts : List (Bool × Nat)) : Prop := xs.length = ts.length ∧ ∀ (i : Nat) (x : V) (t : Bool × Nat), xs[i]? = some x → ts[i]? = some t → TermV K H x t
theorem sqt_same {K : PySem.W.Frag} {H H' : Hp} {a : Addr} {xs : List V} (h : SqT K H a xs) (e : Same H H') : SqT K H' a xs := by
  rcases h with (h | ⟨o, h⟩) | h
  · exact .inl (.inl (e _ _ h))
  · exact .inl (.inr ⟨o, e _ _ h⟩)
  · exact .inr h
theorem TermV.same {K : PySem.W.Frag} {H H' : Hp} {x : V} {t : Bool × Nat} (h : TermV K H x t) (e : Same H H') : TermV K H' x t := by
  obtain ⟨h7, p, ex, hp⟩ := h
  exact ⟨h7, p, ex, sqt_same hp e⟩
theorem TermsV.same {K : PySem.W.Frag} {H H' : Hp} {xs : List V} {ts : List (Bool × Nat)} (h : TermsV K H xs ts) (e : Same H H') : TermsV K H' xs ts := ⟨h.1, fun i x t h1 h2 => (h.2 i x t h1 h2).same e⟩
theorem TermsV.nil {K : PySem.W.Frag} {H : Hp} : TermsV K H [] [] := ⟨rfl, fun i x t h1 _ => by simp at h1⟩
theorem TermsV.snoc {K : PySem.W.Frag} {H : Hp} {xs : List V} {ts : List (Bool × Nat)} {x : V} {t : Bool × Nat} (h : TermsV K H xs ts) (r : TermV K H x t) : TermsV K H (xs ++ [x]) (ts ++ [t]) := by
  refine ⟨by rw [List.length_append, List.length_append, h.1] <;> rfl, fun i y u h1 h2 => ?_⟩
  by_cases hi : i < xs.length
  · rw [List.getElem?_append_left hi] at h1
    rw [List.getElem?_append_left (by rw [← h.1]; exact hi)] at h2
    exact h.2 i y u h1 h2
  · rw [List.getElem?_append_right (by omega)] at h1
    rw [List.getElem?_append_right (by rw [← h.1]; omega)] at h2
    rw [← h.1] at h2
    cases e : i - xs.length with
    | zero =>
      rw [e] at h1 h2
      simp at h1 h2
      subst h1
      subst h2
      exact r
    | succ m =>
      rw [e] at h1
      simp at h1
/-- a rule -/
def rlf (tp : Addr) : List (Str × V) := putF "terms" (.ref tp) []
theorem rlf_terms (tp : Addr) : (rlf tp).lookup ("terms" : Str) = some (.ref tp) := by
  unfold rlf
  rw [lookup_putF, if_pos rfl]
theorem rlf_no (tp : Addr) {m : Str} (h : ¬ m = "terms") : (rlf tp).lookup m = none := by
  unfold rlf
  rw [lookup_putF, if_neg h]
  all_goals rfl
def RuleAt (K : PySem.W.Frag) (C : Addr) (H : Hp) (a : Addr) (ts : List (Bool × Nat)) : Prop := ∃ (dx tp : Addr) (xs : List V), H a = some (.ins C dx (rlf tp)) ∧ H tp = some (.tup xs) ∧ TermsV K H xs ts
theorem RuleAt.same {K : PySem.W.Frag} {C : Addr} {H H' : Hp} {a : Addr} {ts : List (Bool × Nat)} (h : RuleAt K C H a ts) (e : Same H H') : RuleAt K C H' a ts := by
  obtain ⟨dx, tp, xs, h1, h2, h3⟩ := h
  exact ⟨dx, tp, xs, e _ _ h1, e _ _ h2, h3.same e⟩
def Okt (ts : List (Bool × Nat)) : Prop := (ts.map (·.2)).Nodup ∧ ∀ t ∈ ts, t.2 < 7
def sp_measures (K : PySem.W.Frag) : Sp := fun vs H Q _ => ∃ (a : Addr) (s n l w : Int), vs = [.ref a] ∧ SqT K H a [.int s, .int n, .int l, .int w] ∧
  ∀ (H' : Hp) (p : Addr) (M : List (Key × V)), Same H H' → H' p = some (.dK M) → (∀ k < 7, valV M (Sum.inr (wd k)) = some (.int (ms k s n l w))) → Q (.ref p) H'
def sp_numbers (K : PySem.W.Frag) : Sp := fun vs H Q _ => ∃ (tp a : Addr) (xs : List V) (ts : List (Bool × Nat)) (s n l w : Int), vs = [.ref tp, .ref a] ∧ SqT K H tp xs ∧ TermsV K H xs ts ∧ ts.length ≤ 1000 ∧ SqT K H a [.int s, .int n, .int l, .int w] ∧
  ∀ (H' : Hp) (p : Addr), Same H H' → H' p = some (.tup (ts.map fun t => .int (kn t s n l w))) → Q (.ref p) H'
def sp_Rule_call (K : PySem.W.Frag) (C : Addr) : Sp := fun vs H Q _ => ∃ (r a : Addr) (ts : List (Bool × Nat)) (s n l w : Int), vs = [.ref r, .ref a] ∧ RuleAt K C H r ts ∧ ts.length ≤ 1000 ∧ SqT K H a [.int s, .int n, .int l, .int w] ∧
  ∀ (H' : Hp) (p : Addr), Same H H' → H' p = some (.tup (ts.map fun t => .int (kn t s n l w))) → Q (.ref p) H'
/-- Rule(list of terms), all right -/
def sp_Rule_init (K : PySem.W.Frag) (C : Addr) : Sp := fun vs H Q _ => ∃ (x dx tp : Addr) (xs : List V) (ts : List (Bool × Nat)), vs = [.ref x, .ref tp] ∧ H x = some (.ins C dx []) ∧ SqL K H tp xs ∧ TermsV K H xs ts ∧ Okt ts ∧
  ∀ H', Kp x H H' → RuleAt K C H' x ts → Q .non H'
/-! ### cars and keys in lists -/
abbrev Car := Int × Int × Int × Int
def KeyV (K : PySem.W.Frag) (H : Hp) (x : V) (k : List Int) : Prop := ∃ p : Addr, x = .ref p ∧ SqT K H p (k.map V.int)
def LKeyV (K : PySem.W.Frag) (H : Hp) (x : V) (k : List Int) : Prop := ∃ p : Addr, x = .ref p ∧ SqL K H p (k.map V.int)
def CrV (K : PySem.W.Frag) (H : Hp) (x : V) (c : Car) : Prop := ∃ p : Addr, x = .ref p ∧ SqT K H p [.int c.1, .int c.2.1, .int c.2.2.1, .int c.2.2.2]
theorem KeyV.same {K : PySem.W.Frag} {H H' : Hp} {x : V} {k : List Int} (h : KeyV K H x k) (e : Same H H') : KeyV K H' x k := by
  obtain ⟨p, ex, hp⟩ := h
  exact ⟨p, ex, sqt_same hp e⟩
theorem LKeyV.same {K : PySem.W.Frag} {H H' : Hp} {x : V} {k : List Int} (h : LKeyV K H x k) (e : Same H H') : LKeyV K H' x k := by
  obtain ⟨p, ex, hp⟩ := h
  exact ⟨p, ex, Same.seq e hp⟩
theorem CrV.same {K : PySem.W.Frag} {H H' : Hp} {x : V} {c : Car} (h : CrV K H x c) (e : Same H H') : CrV K H' x c := by
  obtain ⟨p, ex, hp⟩ := h
  exact ⟨p, ex, sqt_same hp e⟩
abbrev Keys (K : PySem.W.Frag) (H : Hp) := Al (KeyV K H)
abbrev LKeys (K : PySem.W.Frag) (H : Hp) := Al (LKeyV K H)
abbrev Cars (K : PySem.W.Frag) (H : Hp) := Al (CrV K H)
theorem keysS {K : PySem.W.Frag} {H H' : Hp} {xs : List V} {ks : List (List Int)} (h : Keys K H xs ks) (e : Same H H') : Keys K H' xs ks := Al.mono (fun _ _ r => r.same e) h
theorem lkeysS {K : PySem.W.Frag} {H H' : Hp} {xs : List V} {ks : List (List Int)} (h : LKeys K H xs ks) (e : Same H H') : LKeys K H' xs ks := Al.mono (fun _ _ r => r.same e) h
theorem carsS {K : PySem.W.Frag} {H H' : Hp} {xs : List V} {cs : List Car} (h : Cars K H xs cs) (e : Same H H') : Cars K H' xs cs := Al.mono (fun _ _ r => r.same e) h
/-- the key of a car -/
def kc (ts : List (Bool × Nat)) (c : Car) : List Int := ts.map fun t => kn t c.1 c.2.1 c.2.2.1 c.2.2.2
def kcs (ts : List (Bool × Nat)) (cs : List Car) (i : Nat) : List Int := kc ts (cs.getD i (0, 0, 0, 0))
theorem kc_map (ts : List (Bool × Nat)) (c : Car) : (kc ts c).map V.int = ts.map fun t => V.int (kn t c.1 c.2.1 c.2.2.1 c.2.2.2) := by
  unfold kc
  rw [List.map_map]
  rfl
theorem kcs_at {ts : List (Bool × Nat)} {cs : List Car} {i : Nat} {c : Car} (h : cs[i]? = some c) : kcs ts cs i = kc ts c := by
  unfold kcs
  rw [List.getD_eq_getElem?_getD, h]
  rfl
def ixs (l : List Nat) : List V := l.map fun i => V.int (i : Nat)
theorem sqb_same {K : PySem.W.Frag} {b : Bool} {H H' : Hp} {a : Addr} {xs : List V} (h : SqB K b H a xs) (e : Same H H') : SqB K b H' a xs := by
  cases b
  · exact Same.seq e h
  · exact sqt_same h e
theorem sqb_or {K : PySem.W.Frag} {b : Bool} {H : Hp} {a : Addr} {xs : List V} (h : SqB K b H a xs) : SqL K H a xs ∨ SqT K H a xs := by
  cases b
  · exact .inl h
  · exact .inr h
def sp_place (K : PySem.W.Frag) : Sp := fun vs H Q _ => ∃ (lo np : Addr) (xs : List V) (ks : List (List Int)) (n : List Int), vs = [.ref lo, .ref np] ∧ SqL K H lo xs ∧ Keys K H xs ks ∧ Sd ks ∧ ks.length ≤ 1000 ∧ SqT K H np (n.map V.int) ∧
  Q (.int (plc n ks : Nat)) H
def sp_order (K : PySem.W.Frag) (C : Addr) : Sp := fun vs H Q _ => ∃ (r cl : Addr) (b : Bool) (xs : List V) (ts : List (Bool × Nat)) (cs : List Car), vs = [.ref r, .ref cl] ∧ RuleAt K C H r ts ∧ ts.length ≤ 1000 ∧ SqB K b H cl xs ∧ Cars K H xs cs ∧ cs.length ≤ 999 ∧
  ∀ (H' : Hp) (p : Addr), Same H H' → H p = none → H' p = some (.lst (ixs (ordN (kcs ts cs) cs.length))) → Q (.ref p) H'
/-- the indexes that are served -/
def srvN (key : Nat → List Int) (n w : Nat) : List Nat := (List.range n).filter fun k => decide (k ∈ (ordN key n).take w)
def sp_serve (K : PySem.W.Frag) (C : Addr) : Sp := fun vs H Q _ => ∃ (r cl : Addr) (b : Bool) (xs : List V) (ts : List (Bool × Nat)) (cs : List Car) (wd : Nat), vs = [.ref r, .ref cl, .int (wd : Nat)] ∧ RuleAt K C H r ts ∧ ts.length ≤ 1000 ∧ SqB K b H cl xs ∧ Cars K H xs cs ∧ cs.length ≤ 999 ∧ wd ≤ 1000000 ∧
  ∀ (H' : Hp) (p : Addr), Same H H' → H p = none → H' p = some (.lst (ixs (srvN (kcs ts cs) cs.length wd))) → Q (.ref p) H'
theorem mk_same {H J : Hp} {x dx C : Addr} (hx : H x = none) (hdx : H dx = none) (k : Kp x (upd (upd H dx (.own x)) x (.ins C dx [])) J) : Same H J := fun b o e => k b o (ne_of_none e hx) (by
  rw [upd_ne (ne_of_none e hx), upd_ne (ne_of_none e hdx)]
  exact e)
def topS (i : Nat) : Stmt := PySem.Challenge.pw_onecable_k10_rule_serves.main.body.getD i (.Pass ⟨0, 0, 0, 0⟩)
abbrev s_umeasures : Stmt := topS 7
theorem sc_umeasures : FnScope ["car", "stay", "need", "left", "want"] ["car"] (defScope s_umeasures) := ⟨rfl, rfl, rfl, by decide +kernel, rfl, by decide +kernel, by decide +kernel⟩
abbrev s_unumbers : Stmt := topS 8
theorem sc_unumbers : FnScope ["terms", "car", "measures", "side", "word"] ["terms", "car"] (defScope s_unumbers) := ⟨rfl, rfl, rfl, by decide +kernel, rfl, by decide +kernel, by decide +kernel⟩
abbrev s_uplace_behind : Stmt := topS 9
theorem sc_uplace_behind : FnScope ["ordered", "numbers", "low", "high", "middle"] ["ordered", "numbers"] (defScope s_uplace_behind) := ⟨rfl, rfl, rfl, by decide +kernel, rfl, by decide +kernel, by decide +kernel⟩
abbrev s_Rule_init : Stmt := inClass (topS 10) 0
theorem sc_Rule_init : FnScope ["self", "terms", "words", "place", "side", "word"] ["self", "terms"] (defScope s_Rule_init) := ⟨rfl, rfl, rfl, by decide +kernel, rfl, by decide +kernel, by decide +kernel⟩
abbrev s_Rule_call : Stmt := inClass (topS 10) 3
theorem sc_Rule_call : FnScope ["self", "car"] ["self", "car"] (defScope s_Rule_call) := ⟨rfl, rfl, rfl, by decide +kernel, rfl, by decide +kernel, by decide +kernel⟩
abbrev s_Rule_order : Stmt := inClass (topS 10) 4
theorem sc_Rule_order : FnScope ["self", "cars", "ordered", "indexes", "index", "car", "numbers", "place"] ["self", "cars"] (defScope s_Rule_order) := ⟨rfl, rfl, rfl, by decide +kernel, rfl, by decide +kernel, by decide +kernel⟩
abbrev s_Rule_serve : Stmt := inClass (topS 10) 5
theorem sc_Rule_serve : FnScope ["self", "cars", "width", "served", "index"] ["self", "cars", "width"] (defScope s_Rule_serve) := ⟨rfl, rfl, rfl, by decide +kernel, rfl, by decide +kernel, by decide +kernel⟩
abbrev s_Lcell : Stmt := topS 12
theorem sc_Lcell : FnScope ["_law_script", "_law_at"] ["_law_script", "_law_at"] (defScope s_Lcell) := ⟨rfl, rfl, rfl, by decide +kernel, rfl, by decide +kernel, by decide +kernel⟩
abbrev s_Lpool : Stmt := topS 13
theorem sc_Lpool : FnScope ["_law_cell_here"] ["_law_cell_here"] (defScope s_Lpool) := ⟨rfl, rfl, rfl, by decide +kernel, rfl, by decide +kernel, by decide +kernel⟩
abbrev s_Ltake : Stmt := topS 14
theorem sc_Ltake : FnScope ["_law_pool_here", "_law_many", "_law_digit", "_law_mixed"] ["_law_pool_here", "_law_many"] (defScope s_Ltake) := ⟨rfl, rfl, rfl, by decide +kernel, rfl, by decide +kernel, by decide +kernel⟩
abbrev s_Lsame : Stmt := topS 15
theorem sc_Lsame : FnScope ["_law_told", "_law_due", "_law_k"] ["_law_told", "_law_due"] (defScope s_Lsame) := ⟨rfl, rfl, rfl, by decide +kernel, rfl, by decide +kernel, by decide +kernel⟩
abbrev s_Lterms : Stmt := topS 16
theorem sc_Lterms : FnScope ["_law_pool_here", "_law_most", "_law_words", "_law_terms_here", "_law_k", "_law_word"] ["_law_pool_here", "_law_most"] (defScope s_Lterms) := ⟨rfl, rfl, rfl, by decide +kernel, rfl, by decide +kernel, by decide +kernel⟩
abbrev s_Lmeasure : Stmt := topS 17
theorem sc_Lmeasure : FnScope ["_law_car_here", "_law_word"] ["_law_car_here", "_law_word"] (defScope s_Lmeasure) := ⟨rfl, rfl, rfl, by decide +kernel, rfl, by decide +kernel, by decide +kernel⟩
abbrev s_Lkey : Stmt := topS 18
theorem sc_Lkey : FnScope ["_law_terms_here", "_law_car_here", "_law_key_here", "_law_term", "_law_number"] ["_law_terms_here", "_law_car_here"] (defScope s_Lkey) := ⟨rfl, rfl, rfl, by decide +kernel, rfl, by decide +kernel, by decide +kernel⟩
abbrev s_Lahead : Stmt := topS 19
theorem sc_Lahead : FnScope ["_law_one", "_law_two", "_law_k"] ["_law_one", "_law_two"] (defScope s_Lahead) := ⟨rfl, rfl, rfl, by decide +kernel, rfl, by decide +kernel, by decide +kernel⟩
abbrev s_Lorder : Stmt := topS 20
theorem sc_Lorder : FnScope ["_law_terms_here", "_law_cars_here", "_law_keys", "_law_order_here", "_law_k", "_law_at", "_law_car_here"] ["_law_terms_here", "_law_cars_here"] (defScope s_Lorder) := ⟨rfl, rfl, rfl, by decide +kernel, rfl, by decide +kernel, by decide +kernel⟩
abbrev s_Lcar : Stmt := topS 21
theorem sc_Lcar : FnScope ["_law_pool_here", "_law_longest", "_law_stay", "_law_need", "_law_left", "_law_most"] ["_law_pool_here", "_law_longest"] (defScope s_Lcar) := ⟨rfl, rfl, rfl, by decide +kernel, rfl, by decide +kernel, by decide +kernel⟩
abbrev s_Lcars : Stmt := topS 22
theorem sc_Lcars : FnScope ["_law_pool_here", "_law_size", "_law_alike", "_law_one", "_law_two", "_law_k"] ["_law_pool_here", "_law_size", "_law_alike"] (defScope s_Lcars) := ⟨rfl, rfl, rfl, by decide +kernel, rfl, by decide +kernel, by decide +kernel⟩
abbrev s_Lserves : Stmt := topS 23
theorem sc_Lserves : FnScope ["_law_rule", "_law_terms_here", "_law_cars_here", "_law_widths", "_law_given", "_law_due", "_law_told", "_law_width", "_law_first", "_law_served", "_law_k"] ["_law_rule", "_law_terms_here", "_law_cars_here", "_law_widths"] (defScope s_Lserves) := ⟨rfl, rfl, rfl, by decide +kernel, rfl, by decide +kernel, by decide +kernel⟩
abbrev s_law : Stmt := topS 24
theorem sc_law : FnScope ["_law_script", "_law_terms_here", "_law_pool_here", "_law_width", "_law_way", "_law_size", "_law_cars_here", "_law_widths", "_law_rule"] ["_law_script"] (defScope s_law) := ⟨rfl, rfl, rfl, by decide +kernel, rfl, by decide +kernel, by decide +kernel⟩
def CarV (K : PySem.W.Frag) (H : Hp) (a : Addr) (s n l w : Int) : Prop := SqT K H a [.int s, .int n, .int l, .int w]
def sp_Lterms (K : PySem.W.Frag) : Sp := fun vs H Q _ => ∃ (p : Addr) (m : Nat), vs = [.ref p, .int (m : Int)] ∧ m ≤ 7 ∧ PoolAt H p ∧
  ∀ (H' : Hp) (q : Addr) (xs : List V) (ts : List (Bool × Nat)), Kp p H H' → PoolAt H' p → H q = none → H' q = some (.lst xs) → TermsV K H' xs ts → Okt ts → ts.length ≤ 7 → Q (.ref q) H'
def sp_Lmeasure (K : PySem.W.Frag) : Sp := fun vs H Q _ => ∃ (a : Addr) (k : Nat) (s n l w : Int), vs = [.ref a, .str (wd k)] ∧ k < 7 ∧ CarV K H a s n l w ∧ Q (.int (ms k s n l w)) H
def sp_Lkey (K : PySem.W.Frag) : Sp := fun vs H Q _ => ∃ (tl a : Addr) (xs : List V) (ts : List (Bool × Nat)) (s n l w : Int), vs = [.ref tl, .ref a] ∧ SqL K H tl xs ∧ TermsV K H xs ts ∧ ts.length ≤ 1000 ∧ CarV K H a s n l w ∧
  ∀ (H' : Hp) (q : Addr), Same H H' → H q = none → H' q = some (.lst (ts.map fun t => .int (kn t s n l w))) → Q (.ref q) H'
/-- an open car as the law draws it -/
structure CarOk (s n l w m : Int) : Prop where
  s1 : 1 ≤ s
  sm : s ≤ m
  n1 : 1 ≤ n
  ns : n ≤ s
  l1 : 1 ≤ l
  ls : l ≤ s
  w1 : 1 ≤ w
  wn : w ≤ n
def sp_Lcar (K : PySem.W.Frag) : Sp := fun vs H Q _ => ∃ (p : Addr) (m : Int), vs = [.ref p, .int m] ∧ 0 < m ∧ m < 2 ^ 60 ∧ PoolAt H p ∧
  ∀ (H' : Hp) (q : Addr) (s n l w : Int), Kp p H H' → PoolAt H' p → H q = none → H' q = some (.tup [.int s, .int n, .int l, .int w]) → CarOk s n l w m → Q (.ref q) H'
theorem sqt_kp {K : PySem.W.Frag} {H H' : Hp} {a b : Addr} {xs ys : List V} (h : SqT K H b xs) (k : Kp a H H') (hl : H a = some (.lst ys)) : SqT K H' b xs := by
  rcases h with (h | ⟨o, h⟩) | h
  · exact .inl (.inl (k _ _ (fun w => by rw [w, hl] at h; cases h) h))
  · exact .inl (.inr ⟨o, k _ _ (fun w => by rw [w, hl] at h; cases h) h⟩)
  · exact .inr h
theorem TermV.kp {K : PySem.W.Frag} {H H' : Hp} {a : Addr} {x : V} {t : Bool × Nat} {ys : List V} (h : TermV K H x t) (k : Kp a H H') (hl : H a = some (.lst ys)) : TermV K H' x t := by
  obtain ⟨h7, p, ex, hp⟩ := h
  exact ⟨h7, p, ex, sqt_kp hp k hl⟩
theorem TermsV.kp {K : PySem.W.Frag} {H H' : Hp} {a : Addr} {xs : List V} {ts : List (Bool × Nat)} {ys : List V} (h : TermsV K H xs ts) (k : Kp a H H') (hl : H a = some (.lst ys)) : TermsV K H' xs ts := ⟨h.1, fun i x t h1 h2 => (h.2 i x t h1 h2).kp k hl⟩
theorem seq_ix {i : Int} {n : Nat} (h0 : 0 ≤ i) (h1 : i < (n : Int)) : seqIndex? i n = some i.toNat := by
  unfold seqIndex?
  first
    | (simp only; split <;> first | (split <;> first | rfl | omega) | omega)
    | (have e : ¬ i < 0 := by omega
       simp [e, h1, h0])
theorem erase_map {α β : Type} (f : α → β) : ∀ (l : List α) (i : Nat), (l.map f).eraseIdx i = (l.eraseIdx i).map f
  | [], _ => rfl
  | _ :: _, 0 => rfl
  | a :: l, i + 1 => by
    show f a :: (l.map f).eraseIdx i = f a :: (l.eraseIdx i).map f
    rw [erase_map f l i]
theorem get_erase_perm {α : Type} : ∀ {l : List α} {i : Nat} (h : i < l.length), (l[i] :: l.eraseIdx i).Perm l
  | _ :: _, 0, _ => .refl _
  | a :: l, i + 1, h => by
    have h' : i < l.length := Nat.lt_of_succ_lt_succ h
    show (l[i] :: a :: l.eraseIdx i).Perm (a :: l)
    exact (List.Perm.swap a l[i] _).trans (.cons a (get_erase_perm h'))
def sp_Lahead (K : PySem.W.Frag) : Sp := fun vs H Q _ => ∃ (a b : Addr) (n m : List Int), vs = [.ref a, .ref b] ∧ SqL K H a (n.map V.int) ∧ SqL K H b (m.map V.int) ∧ n.length = m.length ∧ n.length ≤ 1000 ∧ Q (.bl (HT.lexLt n m)) H
def sp_Lorder (K : PySem.W.Frag) : Sp := fun vs H Q _ => ∃ (tl cl : Addr) (xs ys : List V) (ts : List (Bool × Nat)) (cs : List Car), vs = [.ref tl, .ref cl] ∧ SqL K H tl xs ∧ TermsV K H xs ts ∧ ts.length ≤ 1000 ∧ SqL K H cl ys ∧ Cars K H ys cs ∧ cs.length ≤ 999 ∧
  ∀ (H' : Hp) (p : Addr), Same H H' → H p = none → H' p = some (.lst (ixs (ordN (kcs ts cs) cs.length))) → Q (.ref p) H'
def sp_Lcars (K : PySem.W.Frag) : Sp := fun vs H Q _ => ∃ (p : Addr) (n : Nat) (b : Bool), vs = [.ref p, .int (n : Nat), .bl b] ∧ n ≤ 900 ∧ PoolAt H p ∧
  ∀ (H' : Hp) (q : Addr) (xs : List V) (cs : List Car), Kp p H H' → PoolAt H' p → H q = none → H' q = some (.lst xs) → Cars K H' xs cs → cs.length = n → Q (.ref q) H'
def sp_Lserves (K : PySem.W.Frag) (C : Addr) : Sp := fun vs H Q _ => ∃ (r tl cl wl : Addr) (xs ys : List V) (ts : List (Bool × Nat)) (cs : List Car) (ws : List Nat), vs = [.ref r, .ref tl, .ref cl, .ref wl] ∧ RuleAt K C H r ts ∧ ts.length ≤ 7 ∧ SqL K H tl xs ∧ TermsV K H xs ts ∧
  SqL K H cl ys ∧ Cars K H ys cs ∧ cs.length ≤ 900 ∧ SqL K H wl (ixs ws) ∧ (∀ w ∈ ws, w ≤ 1000) ∧ ∀ H', Same H H' → Q (.bl true) H'
def sp_law (K : PySem.W.Frag) : Sp := fun vs H Q _ => ∃ (a : Addr) (ns : List Int), vs = [.ref a] ∧ SqL K H a (ns.map V.int) ∧ ns.length ≤ 63 ∧ ∀ H', Q (.bl true) H'
structure Txt (w : World) (K : PySem.W.Frag) (mg : Str → Option Value) (C_Rule A_WORDS A_OTHER_SIDE : Addr) : Prop where
  g_Rule : mg "Rule" = some (.ref C_Rule)
  cl_Rule : Cls K C_Rule
  nf_Rule_terms : NoAttr K C_Rule "terms"
  c_WORDS : mg "WORDS" = some (.ref A_WORDS)
  q_WORDS : ∀ H : Hp, SqT K H A_WORDS [V.str "stay", V.str "need", V.str "left", V.str "want", V.str "here", V.str "got", V.str "slack"]
  c_OTHER_SIDE : mg "OTHER_SIDE" = some (.ref A_OTHER_SIDE)
  d_OTHER_SIDE : ∃ (es : Array DictEntry) (n : Nat), KDict K w A_OTHER_SIDE es n
  e_OTHER_SIDE_least : ∃ u : Value, PySem.W.nsIn K A_OTHER_SIDE "least" = some (some u) ∧ RelV (.str "most") u
  e_OTHER_SIDE_most : ∃ u : Value, PySem.W.nsIn K A_OTHER_SIDE "most" = some (some u) ∧ RelV (.str "least") u
  n_tuple : mg "tuple" = none
  n_len : mg "len" = none
  n_enumerate : mg "enumerate" = none
  n_set : mg "set" = none
  n_range : mg "range" = none
  n_int : mg "int" = none
  n_abs : mg "abs" = none
  n_isinstance : mg "isinstance" = none
  n_bool : mg "bool" = none
  n_str : mg "str" = none
  n_list : mg "list" = none

section
variable {P : Program} {w : World} {K : PySem.W.Frag} {mg : Str → Option Value} {base : Heap} {C_Rule A_WORDS A_OTHER_SIDE : Addr}
theorem wd_flat (k : Nat) : flatV (.str (wd k)) = true := rfl
theorem sd_cases (b : Bool) : (b = true ∧ sd b = "least") ∨ (b = false ∧ sd b = "most") := by cases b <;> simp [sd]
theorem wd_inj : ∀ j < 7, ∀ k < 7, wd j = wd k → j = k := by decide +kernel
theorem ok_umeasures {f : Addr} {fd : FuncData} (F : Fun K "_measures" "_measures" s_umeasures f fd) (T : Txt w K mg C_Rule A_WORDS A_OTHER_SIDE)  :
    FnOk P w K mg base CX0 1 f fd ["car"] (sp_measures K) := by
  refine F.ok sc_umeasures (fun vs H Q E h => ?_) (fun cdv A outer s H vs Q E hr h => ?_)
  · obtain ⟨a, s', n, l, w', rfl, _⟩ := h
    rfl
  · obtain ⟨a, s', n, l, w', rfl, ha, q⟩ := h
    refine ⟨_, (pss_cons (ps_asg (pv 0) (pg_tup rfl (pgs_cons (pg_name (i := 1) sc_umeasures.nd rfl (Or.inl rfl)) (pgs_cons (pg_name (i := 2) sc_umeasures.nd rfl (Or.inl rfl)) (pgs_cons (pg_name (i := 3) sc_umeasures.nd rfl (Or.inl rfl)) (pgs_cons (pg_name (i := 4) sc_umeasures.nd rfl (Or.inl rfl)) pgs_nil))))))
      (pss_one (ps_ret (pe_disp (pps_cons pe_str (pv 1) (pps_cons pe_str (pv 2) (pps_cons pe_str (pv 3) (pps_cons pe_str (pv 4) (pps_cons pe_str (pe_op op_sub (pv 1) (pv 3)) (pps_cons pe_str (pe_op op_sub (pv 2) (pv 4)) (pps_cons pe_str (pe_op op_sub (pv 3) (pv 4)) pps_nil))))))) (by rfl) (by rfl) (fun z => by cases z) (by decide))))), ?_⟩
    refine ⟨_, rfl, a, _, rfl, ha, rfl, _, _, rfl, _, _, rfl, _, _, rfl, _, _, rfl, rfl, ?_⟩
    intro p hp
    refine ⟨_, rfl, _, rfl, _, rfl, _, rfl, _, rfl, _, rfl, _, _, rfl, rfl, _, rfl, _, rfl, _, _, rfl, rfl, _, rfl, _, rfl, _, _, rfl, rfl, upd_same, [(Sum.inr "stay", .int s'), (Sum.inr "need", .int n), (Sum.inr "left", .int l), (Sum.inr "want", .int w'), (Sum.inr "here", .int (s' - l)), (Sum.inr "got", .int (n - w')), (Sum.inr "slack", .int (l - w'))], rfl, (by show 7 ≤ 15; decide), ?_⟩
    refine q _ p _ (fun b o e => ?_) upd_same (fun k hk => ?_)
    · rw [upd_ne (ne_of_none e hp), upd_ne (ne_of_none e hp)]
      exact e
    · match k, hk with
      | 0, _ => rfl
      | 1, _ => rfl
      | 2, _ => rfl
      | 3, _ => rfl
      | 4, _ => rfl
      | 5, _ => rfl
      | 6, _ => rfl
theorem take_snoc {α : Type} {l : List α} {i : Nat} {x : α} (h : l[i]? = some x) : l.take i ++ [x] = l.take (i + 1) := by
  rw [List.take_add_one, h]
  rfl
theorem there {xs : List V} {ts : List (Bool × Nat)} {i : Nat} {x : V} (hl : xs.length = ts.length) (h : xs[i]? = some x) : ∃ t, ts[i]? = some t ∧ i < ts.length := by
  have hi : i < xs.length := (List.getElem?_eq_some_iff.mp h).1
  rw [hl] at hi
  exact ⟨ts[i], List.getElem?_eq_getElem hi, hi⟩
theorem ok_unumbers {f : Addr} {fd : FuncData} (F : Fun K "_numbers" "_numbers" s_unumbers f fd) (T : Txt w K mg C_Rule A_WORDS A_OTHER_SIDE) (c_umeasures : Cal CX0 P w K mg base 1 "_measures" (sp_measures K)) :
    FnOk P w K mg base CX0 2 f fd ["terms", "car"] (sp_numbers K) := by
  refine F.ok sc_unumbers (fun vs H Q E h => ?_) (fun cdv A outer s H vs Q E hr h => ?_)
  · obtain ⟨tp, a, xs, ts, s', n, l, w', rfl, _⟩ := h
    rfl
  · obtain ⟨tp, a, xs, ts, s', n, l, w', rfl, htp, hts, hz, ha, q⟩ := h
    refine ⟨_, (pss_cons (ps_set (i := 2) sc_unumbers.nd rfl (Or.inr rfl) (pc_c c_umeasures hr (by decide) rfl pass0 (pa_cons (pv 1) pa_nil)))
      (pss_one (ps_ret (pe_callTy call_tuple_of (by rfl) T.n_tuple (by decide +kernel) (pa_cons (pe_lc (own := [("side", 3), ("word", 4)]) (g := (gTup K 2 (gCons (gName 3) (gCons (gName 4) gNil)))) (tt := tYes) rfl sc_unumbers.nd (pi_tup (pv 0)) (blkOk_by (own := [("side", 3), ("word", 4)]) (N := ["terms", "car", "measures", "side", "word"]) (sc := defScope s_unumbers) (by decide +kernel)) (fun _ _ _ _ _ => (pg_tup rfl (pgs_cons (pg_name (i := 3) sc_unumbers.nd rfl (Or.inl rfl)) (pgs_cons (pg_name (i := 4) sc_unumbers.nd rfl (Or.inl rfl)) pgs_nil)))) (fun _ _ _ _ _ => pts_nil) (fun _ _ _ _ _ => (pe_ifExp (pt_cmpR op_eq (pv 3) pe_str (nomark _)) (pe_dget (hu_of hr) (pv 2) (pv 4) (fun _ _ => rfl)) (pe_un un_neg (pe_dget (hu_of hr) (pv 2) (pv 4) (fun _ _ => rfl)))))) pa_nil))))), ?_⟩
    refine ⟨_, rfl, a, s', n, l, w', rfl, ha, fun H1 p M s1 hM hm => ?_⟩
    have s1t := sqt_same htp s1
    refine ⟨_, rfl, tp, rfl, ⟨_, s1t⟩, fun D hD => lc_tup (K := K) (a := tp) (xs := xs) (fun i H' => Same H1 H' ∧ H' D = some (.lst ((ts.map fun t => V.int (kn t s' n l w')).take i))) ⟨same_upd hD, by rw [upd_same] <;> rfl⟩ (fun i H' _ ⟨s2, _⟩ => sqt_same s1t s2) ?_ ?_⟩
    · rintro i x H' hx ⟨s2, hl⟩
      obtain ⟨t, ht, hi⟩ := there hts.1 hx
      obtain ⟨h7, pt, rfl, hpt⟩ := hts.2 i x t hx ht
      have hpt' := sqt_same hpt (s1.trans s2)
      have hlen : (List.take i (ts.map fun t => V.int (kn t s' n l w'))).length < sizeLine := small1000 (by rw [List.length_take, List.length_map]; omega)
      have hnx : ∀ H2 : Hp, Same H' H2 → H2 D = some (.lst ((ts.map fun t => V.int (kn t s' n l w')).take i)) → Same H1 (upd H2 D (.lst ((ts.map fun t => V.int (kn t s' n l w')).take i ++ [.int (kn t s' n l w')]))) ∧ (upd H2 D (.lst ((ts.map fun t => V.int (kn t s' n l w')).take i ++ [.int (kn t s' n l w')]))) D = some (.lst ((ts.map fun t => V.int (kn t s' n l w')).take (i + 1))) := fun H2 s3 h2 => by
        refine ⟨fun b o e => ?_, ?_⟩
        · have nb : b ≠ D := ne_of_none e hD
          rw [upd_ne nb]
          exact s3 _ _ (s2 _ _ e)
        · rw [upd_same, take_snoc (by rw [List.getElem?_map, ht] <;> rfl)]
      refine ⟨pt, _, rfl, hpt', rfl, _, _, rfl, _, _, rfl, rfl, rfl, ?_⟩
      refine tyes ?_
      refine ⟨_, rfl, rfl, _, rfl, ?_⟩
      have dg : DGet H' p (.str (wd t.2)) (some (.int (ms t.2 s' n l w'))) := .inl ⟨M, Sum.inr (wd t.2), .inl (s2 _ _ hM), rfl, (hm _ h7).symm⟩
      rcases sd_cases t.1 with ⟨e1, e2⟩ | ⟨e1, e2⟩
      · rw [decide_eq_true (show V.str (sd t.1) = V.str "least" by rw [e2])]
        refine iteT ⟨_, rfl, _, rfl, p, _, rfl, dg, _, hl, hlen, ?_⟩
        have ek : ms t.2 s' n l w' = kn t s' n l w' := by unfold kn; rw [e1, if_pos rfl]
        rw [ek]
        exact hnx H' (Same.of _) hl
      · rw [decide_eq_false (show ¬ V.str (sd t.1) = V.str "least" by rw [e2]; decide +kernel)]
        refine iteF ⟨_, rfl, _, rfl, p, _, rfl, dg, _, rfl, _, hl, hlen, ?_⟩
        have ek : -(ms t.2 s' n l w') = kn t s' n l w' := by unfold kn; rw [e1, if_neg Bool.false_ne_true]
        have z := hnx H' (Same.of _) hl
        rw [← ek] at z
        exact z
    · rintro H' ⟨s2, hl⟩
      refine ⟨D, _, rfl, .inl ⟨SqL.of hl, fun z hz' => ?_⟩⟩
      refine q _ z ((s1.trans s2).trans (same_upd hz')) ?_
      rw [upd_same, hts.1, ← List.length_map (f := fun t => V.int (kn t s' n l w')) (as := ts), List.take_length]
theorem ok_Rule_call {f : Addr} {fd : FuncData} (F : Fun K "__call__" "Rule.__call__" s_Rule_call f fd) (T : Txt w K mg C_Rule A_WORDS A_OTHER_SIDE) (c_unumbers : Cal CX0 P w K mg base 2 "_numbers" (sp_numbers K)) :
    FnOk P w K mg base CX0 3 f fd ["self", "car"] (sp_Rule_call K C_Rule) := by
  refine F.ok sc_Rule_call (fun vs H Q E h => ?_) (fun cdv A outer s H vs Q E hr h => ?_)
  · obtain ⟨r, a, ts, s', n, l, w', rfl, _⟩ := h
    rfl
  · obtain ⟨r, a, ts, s', n, l, w', rfl, ⟨dx, tp, xs, hr0, htp, hts⟩, hz, ha, q⟩ := h
    refine ⟨_, (pss_one (ps_ret (pc_c c_unumbers hr (by decide) rfl pass0 (pa_cons (pe_fld (pv 0) rfl) (pa_cons (pv 1) pa_nil))))), ?_⟩
    exact ⟨_, rfl, r, C_Rule, dx, _, _, rfl, hr0, T.cl_Rule, T.nf_Rule_terms, rlf_terms _, _, rfl, tp, a, xs, ts, s', n, l, w', rfl, .inl (.inl htp), hts, hz, ha, q⟩
theorem in_words {ws : List Nat} {k : Nat} : inV (.str (wd k)) (ws.map fun j => V.str (wd j)) = true ↔ ∃ j ∈ ws, wd j = wd k := by
  unfold inV
  rw [List.any_map, List.any_eq_true]
  constructor
  · rintro ⟨j, hj, e⟩
    exact ⟨j, hj, eq_of_beq e⟩
  · rintro ⟨j, hj, e⟩
    exact ⟨j, hj, by show (wd j == wd k) = true; rw [e]; exact beq_self_eq_true _⟩
theorem words_in {k : Nat} (h : k < 7) : inV (.str (wd k)) [V.str "stay", V.str "need", V.str "left", V.str "want", V.str "here", V.str "got", V.str "slack"] = true := by
  match k, h with
  | 0, _ => decide +kernel
  | 1, _ => decide +kernel
  | 2, _ => decide +kernel
  | 3, _ => decide +kernel
  | 4, _ => decide +kernel
  | 5, _ => decide +kernel
  | 6, _ => decide +kernel
theorem flat_words (ws : List Nat) : (ws.map fun j => V.str (wd j)).all flatV = true := by
  rw [List.all_map, List.all_eq_true]
  intro j _
  rfl
theorem ok_Rule_init {f : Addr} {fd : FuncData} (F : Fun K "__init__" "Rule.__init__" s_Rule_init f fd) (T : Txt w K mg C_Rule A_WORDS A_OTHER_SIDE)  :
    FnOk P w K mg base CX0 1 f fd ["self", "terms"] (sp_Rule_init K C_Rule) := by
  refine F.ok sc_Rule_init (fun vs H Q E h => ?_) (fun cdv A outer s H vs Q E hr h => ?_)
  · obtain ⟨x, dx, tp, xs, ts, rfl, _⟩ := h
    rfl
  · obtain ⟨x, dx, tp, xs, ts, rfl, hx, htp, hts, ⟨hnd, h7⟩, q⟩ := h
    refine ⟨_, (pss_cons (ps_set (i := 2) sc_Rule_init.nd rfl (Or.inl rfl) (pe_lst pa_nil))
      (pss_cons (ps_for PassesOwn.never rfl (pi_enum (by rfl) T.n_enumerate (pa_cons (pv 1) pa_nil)) (pg_tup rfl (pgs_cons (pg_name (i := 3) sc_Rule_init.nd rfl (Or.inl rfl)) (pgs_cons (pg_tup rfl (pgs_cons (pg_name (i := 4) sc_Rule_init.nd rfl (Or.inl rfl)) (pgs_cons (pg_name (i := 5) sc_Rule_init.nd rfl (Or.inl rfl)) pgs_nil))) pgs_nil)))
        (pss_cons (ps_if (PW.pt (pw_or (pt_cmpR (op_notIn_kdE T.d_OTHER_SIDE) (pv 4) (pe_glob (v := .ref A_OTHER_SIDE) rfl T.c_OTHER_SIDE rfl) (by rfl)) (pw_or (pt_cmpR op_notIn_seq (pv 5) (pe_glob (v := .ref A_WORDS) rfl T.c_WORDS rfl) (by rfl)) (pw_or1 (pt_cmpR op_in_seq (pv 5) (pv 2) (by rfl)))))) (pss_one ps_never) pss_nil)
      (pss_one (ps_expr (pe_bm PySem.F.plainAttrs_list PySem.F.slot_list_append PySem.F.type_list_append mt_append (pv 2) (pa_cons (pv 5) pa_nil))))))
      (pss_one (ps_fld (pv 0) (pe_callTy call_tuple_of (by rfl) T.n_tuple (by decide +kernel) (pa_cons (pe_lc (own := [("side", 4), ("word", 5)]) (g := (gTup K 2 (gCons (gName 4) (gCons (gName 5) gNil)))) (tt := tYes) rfl sc_Rule_init.nd (pi_list (pv 1)) (blkOk_by (own := [("side", 4), ("word", 5)]) (N := ["self", "terms", "words", "place", "side", "word"]) (sc := defScope s_Rule_init) (by decide +kernel)) (fun _ _ _ _ _ => (pg_tup rfl (pgs_cons (pg_name (i := 4) sc_Rule_init.nd rfl (Or.inl rfl)) (pgs_cons (pg_name (i := 5) sc_Rule_init.nd rfl (Or.inl rfl)) pgs_nil)))) (fun _ _ _ _ _ => pts_nil) (fun _ _ _ _ _ => (pe_tup (pa_cons (pv 4) (pa_cons (pv 5) pa_nil))))) pa_nil)) rfl)))), ?_⟩
    have hlen : ts.length ≤ 7 := by
      have e : (ts.map (·.2)) ⊆ List.range 7 := fun k hk => by
        obtain ⟨t, ht, e⟩ := List.mem_map.mp hk
        rw [← e]
        exact List.mem_range.mpr (h7 t ht)
      have z := List.Nodup.length_le_of_subset hnd e
      rw [List.length_map, List.length_range] at z
      exact z
    refine ⟨Nat.zero_le _, fun lw hlw => ?_⟩
    have nlx : x ≠ lw := ne_of_none hx hlw
    have s0 : Same H (upd H lw (.lst [])) := same_upd hlw
    have htp0 := Same.seq s0 htp
    refine ⟨_, rfl, tp, xs, rfl, htp0, for_enum (K := K) (a := tp) (xs := xs) (fun i σ H' => ∃ v3 v4 v5 : Option V, σ = [some (.ref x), some (.ref tp), some (.ref lw), v3, v4, v5] ∧ Same H H' ∧ H' lw = some (.lst (((ts.map (·.2)).take i).map fun j => V.str (wd j))))
      ⟨none, none, none, rfl, s0, upd_same⟩ (fun i σ H' _ ⟨_, _, _, _, s1, _⟩ => Same.seq s1 htp) ?_ ?_⟩
    · rintro i y σ H' T' hy ⟨v3, v4, v5, rfl, s1, hlw1⟩ hT
      obtain ⟨t, ht, hi⟩ := there hts.1 hy
      obtain ⟨k7, pt, rfl, hpt⟩ := hts.2 i y t hy ht
      have hpt' := sqt_same hpt (s1.trans (same_upd (o := .tup [.int (i : Nat), .ref pt]) hT))
      have hlw2 : (upd H' T' (.tup [.int (i : Nat), .ref pt])) lw = some (.lst (((ts.map (·.2)).take i).map fun j => V.str (wd j))) := by rw [upd_ne (ne_of_none hlw1 hT)]; exact hlw1
      obtain ⟨u, hu, _⟩ : ∃ u : Value, PySem.W.nsIn K A_OTHER_SIDE (sd t.1) = some (some u) ∧ True := by
        rcases sd_cases t.1 with ⟨_, e2⟩ | ⟨_, e2⟩
        · obtain ⟨u, h1, _⟩ := T.e_OTHER_SIDE_least
          exact ⟨u, by rw [e2]; exact h1, trivial⟩
        · obtain ⟨u, h1, _⟩ := T.e_OTHER_SIDE_most
          exact ⟨u, by rw [e2]; exact h1, trivial⟩
      refine ⟨T', _, rfl, SqT.of upd_same, rfl, _, _, rfl, _, _, rfl, pt, _, rfl, hpt', rfl, _, _, rfl, _, _, rfl, rfl, rfl, ?_⟩
      refine ⟨_, rfl, _, _, rfl, rfl, hu, _, rfl, iteF ?_⟩
      refine ⟨_, rfl, A_WORDS, _, rfl, .inr (T.q_WORDS _), rfl, rfl, _, rfl, ?_⟩
      rw [words_in k7]
      refine iteF ?_
      have hni : inV (.str (wd t.2)) (((ts.map (·.2)).take i).map fun j => V.str (wd j)) = false := by
        refine Bool.eq_false_iff.mpr fun z => ?_
        obtain ⟨j, hj, e⟩ := in_words.mp z
        have hj7 : j < 7 := by
          obtain ⟨t', ht', e'⟩ := List.mem_map.mp (List.mem_of_mem_take hj)
          rw [← e']
          exact h7 t' ht'
        have ej := wd_inj j hj7 t.2 k7 e
        subst ej
        obtain ⟨m, hm, em⟩ := List.getElem_of_mem hj
        rw [List.getElem_take] at em
        have hm' : m < i := by rw [List.length_take] at hm; omega
        have e2 : (ts.map (·.2))[i]? = some t.2 := by rw [List.getElem?_map, ht] <;> rfl
        have hi' : i < (ts.map (·.2)).length := by rw [List.length_map]; exact hi
        rw [List.getElem?_eq_getElem hi'] at e2
        have := (List.getElem_inj hnd (h₀ := by omega) (h₁ := hi')).mp (em.trans (Option.some.inj e2).symm)
        omega
      refine ⟨_, rfl, _, rfl, lw, _, rfl, .inl (SqL.of hlw2), rfl, flat_words _, _, rfl, ?_⟩
      rw [hni]
      refine iteF ?_
      refine ⟨_, rfl, .inl ⟨rfl, _, SqL.of hlw2⟩, _, rfl, lw, _, _, rfl, rfl, hlw2, small1000 (by rw [List.length_map, List.length_take, List.length_map]; omega), ?_⟩
      refine ⟨_, _, _, rfl, fun b o e => ?_, ?_⟩
      · have nb : b ≠ lw := ne_of_none e hlw
        rw [upd_ne nb, upd_ne (ne_of_none (s1 _ _ e) hT)]
        exact s1 _ _ e
      · rw [upd_same, ← take_snoc (show (ts.map (·.2))[i]? = some t.2 by rw [List.getElem?_map, ht] <;> rfl), List.map_append]
        rfl
    · rintro σ H' ⟨v3, v4, v5, rfl, s1, hlw1⟩
      have htp1 := Same.seq s1 htp
      refine ⟨_, rfl, tp, rfl, ⟨_, htp1⟩, fun D hD => lc_list (K := K) (a := tp) (xs := xs) (fun i H2 => Same H' H2 ∧ ∃ ys, H2 D = some (.lst ys) ∧ TermsV K H2 ys (ts.take i)) ⟨same_upd hD, [], upd_same, TermsV.nil⟩ (fun i H2 _ ⟨s2, _⟩ => Same.seq s2 htp1) ?_ ?_⟩
      · rintro i y H2 hy ⟨s2, ys, hD2, hys⟩
        obtain ⟨t, ht, hi⟩ := there hts.1 hy
        obtain ⟨k7, pt, rfl, hpt⟩ := hts.2 i y t hy ht
        have hpt' := sqt_same hpt (s1.trans s2)
        refine ⟨pt, _, rfl, hpt', rfl, _, _, rfl, _, _, rfl, rfl, rfl, ?_⟩
        refine tyes ?_
        refine ⟨_, rfl, _, rfl, (by show 2 ≤ sizeLine; decide), fun T' hT => ?_⟩
        have hD3 : (upd H2 T' (.tup [.str (sd t.1), .str (wd t.2)])) D = some (.lst ys) := by rw [upd_ne (ne_of_none hD2 hT)]; exact hD2
        have e1 : ys.length ≤ 1000 := by rw [hys.1, List.length_take]; omega
        refine ⟨ys, hD3, small1000 e1, fun b o e => ?_, _, upd_same, ?_⟩
        · rw [upd_ne (ne_of_none e hD), upd_ne (ne_of_none (s2 _ _ e) hT)]
          exact s2 _ _ e
        · have sK : Kp D H2 (upd (upd H2 T' (.tup [.str (sd t.1), .str (wd t.2)])) D (.lst (ys ++ [.ref T']))) := fun b o nb e => by
            rw [upd_ne nb, upd_ne (ne_of_none e hT)]
            exact e
          have nTD : T' ≠ D := fun z => by rw [z, hD2] at hT; cases hT
          have up : TermsV K (upd (upd H2 T' (.tup [.str (sd t.1), .str (wd t.2)])) D (.lst (ys ++ [.ref T']))) ys (ts.take i) := ⟨hys.1, fun j z u h1 h2 => by
            obtain ⟨u7, pz, ez, hz⟩ := hys.2 j z u h1 h2
            refine ⟨u7, pz, ez, ?_⟩
            rcases hz with (hz | ⟨o, hz⟩) | hz
            · exact .inl (.inl (sK _ _ (fun w => by rw [w, hD2] at hz; cases hz) hz))
            · exact .inl (.inr ⟨o, sK _ _ (fun w => by rw [w, hD2] at hz; cases hz) hz⟩)
            · exact .inr hz⟩
          rw [← take_snoc ht]
          exact up.snoc ⟨k7, T', rfl, SqT.of (by rw [upd_ne nTD, upd_same])⟩
      · rintro H2 ⟨s2, ys, hD2, hys⟩
        rw [hts.1, List.take_length] at hys
        refine ⟨D, _, rfl, .inl ⟨SqL.of hD2, fun z hz => ?_⟩⟩
        have s12 := s1.trans s2
        have hx2 : (upd H2 z (.tup ys)) x = some (.ins C_Rule dx []) := by rw [upd_ne (ne_of_none (s12 _ _ hx) hz)]; exact s12 _ _ hx
        refine ⟨_, rfl, x, C_Rule, dx, [], rfl, hx2, T.cl_Rule, T.nf_Rule_terms, (by show 0 < 1000; decide), ?_⟩
        have kK : Kp x H2 (upd (upd H2 z (.tup ys)) x (.ins C_Rule dx (putF "terms" (.ref z) []))) := fun b o nb e => by
          rw [upd_ne nb, upd_ne (ne_of_none e hz)]
          exact e
        refine q _ (fun b o nb e => kK _ _ nb (s12 _ _ e)) ⟨dx, z, ys, upd_same, ?_, hys.1, fun j v u h1 h2 => ?_⟩
        · rw [upd_ne (fun w => by rw [w, s12 _ _ hx] at hz; cases hz), upd_same]
        · obtain ⟨u7, pz, ez, hz2⟩ := hys.2 j v u h1 h2
          refine ⟨u7, pz, ez, ?_⟩
          rcases hz2 with (h | ⟨o, h⟩) | h
          · exact .inl (.inl (kK _ _ (fun w => by rw [w, s12 _ _ hx] at h; cases h) h))
          · exact .inl (.inr ⟨o, kK _ _ (fun w => by rw [w, s12 _ _ hx] at h; cases h) h⟩)
          · exact .inr h
theorem plc_step_hi {n : List Int} {ks : List (List Int)} (h : Sd ks) {mid : Nat} {km : List Int} (hm : ks[mid]? = some km) (c : HT.lexLt n km = true) : ∀ j k, mid ≤ j → ks[j]? = some k → HT.lexLt n k = true := fun j k hj hk => by
  by_cases e : mid = j
  · subst e
    rw [hm] at hk
    cases hk
    exact c
  · have a := h.le hm hk (by omega)
    cases hc : HT.lexLt n k with
    | true => rfl
    | false =>
      have z := NtL.lex_tr _ _ _ a hc
      rw [c] at z
      cases z
theorem plc_step_lo {n : List Int} {ks : List (List Int)} (h : Sd ks) {mid : Nat} {km : List Int} (hm : ks[mid]? = some km) (c : HT.lexLt n km = false) : ∀ j k, j < mid + 1 → ks[j]? = some k → HT.lexLt n k = false := fun j k hj hk => by
  by_cases e : j = mid
  · subst e
    rw [hm] at hk
    cases hk
    exact c
  · exact NtL.lex_tr _ _ _ (h.le hk hm (by omega)) c
theorem ok_uplace_behind {f : Addr} {fd : FuncData} (F : Fun K "_place_behind" "_place_behind" s_uplace_behind f fd) (T : Txt w K mg C_Rule A_WORDS A_OTHER_SIDE)  :
    FnOk P w K mg base CX0 1 f fd ["ordered", "numbers"] (sp_place K) := by
  refine F.ok sc_uplace_behind (fun vs H Q E h => ?_) (fun cdv A outer s H vs Q E hr h => ?_)
  · obtain ⟨lo, np, xs, ks, n, rfl, _⟩ := h
    rfl
  · obtain ⟨lo, np, xs, ks, n, rfl, hlo, hks, hsd, hz, hnp, q⟩ := h
    refine ⟨_, (pss_cons (ps_set (i := 2) sc_uplace_behind.nd rfl (Or.inl rfl) pe_int)
      (pss_cons (ps_set (i := 3) sc_uplace_behind.nd rfl (Or.inl rfl) (pe_callB call_len_seq (by rfl) T.n_len PySem.boot_len (pa_cons (pv 0) pa_nil)))
      (pss_cons (ps_while PassesOwn.never (pt_cmpR op_lt (pv 2) (pv 3) (nomark _)) (pss_cons (ps_set (i := 4) sc_uplace_behind.nd rfl (Or.inl rfl) (pe_op op_fdivW (pe_op op_add (pv 2) (pv 3)) pe_int))
      (pss_one (ps_if (pt_cmpR (op_ltT (Room.units0 hr)) (pv 1) (pe_ix ix_list (pv 0) (pv 4) (fun _ _ => rfl)) (nomark _)) (pss_one (ps_set (i := 3) sc_uplace_behind.nd rfl (Or.inl rfl) (pv 4))) (pss_one (ps_set (i := 2) sc_uplace_behind.nd rfl (Or.inl rfl) (pe_op op_add (pv 4) pe_int)))))))
      (pss_one (ps_ret (pv 2)))))), ?_⟩
    have hlen := hks.len
    refine ⟨_, rfl, lo, _, rfl, .inl hlo, ?_⟩
    refine ⟨fun m σ H' => H' = H ∧ ∃ (a b : Nat) (v : Option V), σ = [some (.ref lo), some (.ref np), some (.int (a : Nat)), some (.int (b : Nat)), v] ∧ m = b - a ∧ a ≤ b ∧ b ≤ ks.length ∧ (∀ j k, j < a → ks[j]? = some k → HT.lexLt n k = false) ∧ (∀ j k, b ≤ j → ks[j]? = some k → HT.lexLt n k = true),
      ⟨_, rfl, 0, xs.length, none, rfl, rfl, Nat.zero_le _, by omega, fun j k hj => by omega, fun j k hj hk => by
        have := (List.getElem?_eq_some_iff.mp hk).1
        omega⟩, ?_⟩
    rintro m σ H' ⟨rfl, a, b, v, rfl, rfl, hab, hb, h1, h2⟩
    refine ⟨_, rfl, _, rfl, _, _, rfl, rfl, _, rfl, ?_⟩
    refine ite2 (fun hc => ?_) (fun hc => ?_)
    · have hc' := of_decide_eq_true hc
      have hlt : a < b := by omega
      refine ⟨_, fun σ' H'' h => h, ?_⟩
      refine ⟨_, rfl, _, rfl, _, _, rfl, rfl, _, _, rfl, rfl, wide_div (b := 300) (by decide) (by decide) (by decide) (by decide), ?_⟩
      have em : (fun i j : Int => V.int (i / j)) ((a : Int) + (b : Int)) 2 = V.int (((a + b) / 2 : Nat) : Int) := congrArg V.int (by omega)
      rw [em]
      have hmid : (a + b) / 2 < ks.length := by omega
      have hm : ks[(a + b) / 2]? = some ks[(a + b) / 2] := List.getElem?_eq_getElem hmid
      obtain ⟨x, hx, pk, rfl, hpk⟩ := hks.at' hm
      refine ⟨_, rfl, _, rfl, _, rfl, lo, _, _, _, rfl, rfl, hlo, atI_nat hx, np, pk, n, _, rfl, rfl, hnp, hpk, _, rfl, ?_⟩
      refine ite2 (fun hc2 => ?_) (fun hc2 => ?_)
      · exact ⟨_, rfl, _, by omega, rfl, a, (a + b) / 2, _, rfl, rfl, by omega, by omega, h1, plc_step_hi hsd hm hc2⟩
      · have hc3 : HT.lexLt n ks[(a + b) / 2] = false := by simpa using hc2
        exact ⟨_, rfl, _, _, rfl, rfl, _, by omega, rfl, (a + b) / 2 + 1, b, _, rfl, rfl, by omega, hb, plc_step_lo hsd hm hc3, h2⟩
    · have hc' : ¬ ((a : Nat) : Int) < ((b : Nat) : Int) := fun z => hc (decide_eq_true z)
      have e : a = b := by omega
      subst e
      refine ⟨_, rfl, ?_⟩
      rw [← plc_eq (n := n) (ks := ks) hb h1 fun k hk => h2 _ k (Nat.le_refl _) hk]
      exact q
theorem KeyV.kp {K : PySem.W.Frag} {H H' : Hp} {a : Addr} {x : V} {k : List Int} {ys : List V} (h : KeyV K H x k) (e : Kp a H H') (hl : H a = some (.lst ys)) : KeyV K H' x k := by
  obtain ⟨p, ex, hp⟩ := h
  exact ⟨p, ex, sqt_kp hp e hl⟩
theorem LKeyV.kp {K : PySem.W.Frag} {H H' : Hp} {a : Addr} {x : V} {k : List Int} {ys : List V} (h : LKeyV K H x k) (e : Kp a H H') (hn : ∀ p : Addr, x = .ref p → p ≠ a) : LKeyV K H' x k := by
  obtain ⟨p, ex, hp⟩ := h
  refine ⟨p, ex, ?_⟩
  rcases hp with (hp | ⟨o, hp⟩) | hp
  · exact .inl (.inl (e _ _ (hn p ex) hp))
  · exact .inl (.inr ⟨o, e _ _ (hn p ex) hp⟩)
  · exact .inr hp
theorem CrV.kp {K : PySem.W.Frag} {H H' : Hp} {a : Addr} {x : V} {c : Car} {ys : List V} (h : CrV K H x c) (e : Kp a H H') (hl : H a = some (.lst ys)) : CrV K H' x c := by
  obtain ⟨p, ex, hp⟩ := h
  exact ⟨p, ex, sqt_kp hp e hl⟩
theorem ixs_ins (l : List Nat) (p i : Nat) : ixs (insA l p i) = insA (ixs l) p (.int (i : Nat)) := insA_map ..
theorem ixs_len (l : List Nat) : (ixs l).length = l.length := List.length_map ..
theorem ok_Rule_order {f : Addr} {fd : FuncData} (F : Fun K "order" "Rule.order" s_Rule_order f fd) (T : Txt w K mg C_Rule A_WORDS A_OTHER_SIDE) (c_unumbers : Cal CX0 P w K mg base 2 "_numbers" (sp_numbers K)) (c_uplace_behind : Cal CX0 P w K mg base 1 "_place_behind" (sp_place K)) :
    FnOk P w K mg base CX0 3 f fd ["self", "cars"] (sp_order K C_Rule) := by
  refine F.ok sc_Rule_order (fun vs H Q E h => ?_) (fun cdv A outer s H vs Q E hr h => ?_)
  · obtain ⟨r, cl, b, xs, ts, cs, rfl, _⟩ := h
    rfl
  · obtain ⟨r, cl, bb, xs, ts, cs, rfl, hr0, hz, hcl, hcs, hcz, q⟩ := h
    refine ⟨_, (pss_cons (ps_set (i := 2) sc_Rule_order.nd rfl (Or.inl rfl) (pe_lst pa_nil))
      (pss_cons (ps_set (i := 3) sc_Rule_order.nd rfl (Or.inl rfl) (pe_lst pa_nil))
      (pss_cons (ps_for PassesOwn.never rfl (pi_enumS (by rfl) T.n_enumerate (pa_cons (pv 1) pa_nil)) (pg_tup rfl (pgs_cons (pg_name (i := 4) sc_Rule_order.nd rfl (Or.inl rfl)) (pgs_cons (pg_name (i := 5) sc_Rule_order.nd rfl (Or.inl rfl)) pgs_nil)))
        (pss_cons (ps_set (i := 6) sc_Rule_order.nd rfl (Or.inl rfl) (pc_c c_unumbers hr (by decide) rfl pass0 (pa_cons (pe_fld (pv 0) rfl) (pa_cons (pv 5) pa_nil))))
      (pss_cons (ps_set (i := 7) sc_Rule_order.nd rfl (Or.inl rfl) (pc_c c_uplace_behind hr (by decide) rfl pass0 (pa_cons (pv 2) (pa_cons (pv 6) pa_nil))))
      (pss_cons (ps_expr (pe_bm PySem.F.plainAttrs_list PySem.F.slot_list_insert PySem.F.type_list_insert mt_insert (pv 2) (pa_cons (pv 7) (pa_cons (pv 6) pa_nil))))
      (pss_one (ps_expr (pe_bm PySem.F.plainAttrs_list PySem.F.slot_list_insert PySem.F.type_list_insert mt_insert (pv 3) (pa_cons (pv 7) (pa_cons (pv 4) pa_nil)))))))))
      (pss_one (ps_ret (pv 3)))))), ?_⟩
    have hlen := hcs.len
    refine ⟨Nat.zero_le _, fun lo hlo => ⟨Nat.zero_le _, fun li hli => ?_⟩⟩
    have nil' : li ≠ lo := fun w => by rw [w, upd_same] at hli; cases hli
    have hli0 : H li = none := by rw [upd_ne nil'] at hli; exact hli
    have s0 : Same H (upd (upd H lo (.lst [])) li (.lst [])) := (same_upd hlo).trans (same_upd hli)
    refine ⟨_, rfl, cl, xs, bb, rfl, sqb_same hcl s0, for_enumB (K := K) (bb := bb) (a := cl) (xs := xs) (fun i σ H' => ∃ (v4 v5 v6 v7 : Option V) (ys : List V), σ = [some (.ref r), some (.ref cl), some (.ref lo), some (.ref li), v4, v5, v6, v7] ∧ Same H H' ∧ H' lo = some (.lst ys) ∧ Keys K H' ys ((ordN (kcs ts cs) i).map (kcs ts cs)) ∧ H' li = some (.lst (ixs (ordN (kcs ts cs) i))))
      ⟨none, none, none, none, [], rfl, s0, by rw [upd_ne nil'.symm, upd_same] <;> rfl, .nil, upd_same⟩ (fun i σ H' _ ⟨_, _, _, _, _, _, s1, _⟩ => sqb_same hcl s1) ?_ ?_⟩
    · rintro i y σ H' T' hy ⟨v4, v5, v6, v7, ys, rfl, s1, hlo1, hk1, hli1⟩ hT
      obtain ⟨c, hc, pc, rfl, hpc⟩ := hcs.at hy
      have hi : i < cs.length := (List.getElem?_eq_some_iff.mp hc).1
      have s2 := s1.trans (same_upd (o := .tup [.int (i : Nat), .ref pc]) hT)
      obtain ⟨dx, tp, zs, hr1, htp1, hts1⟩ := hr0.same s2
      have key := kcs_at (ts := ts) hc
      refine ⟨T', _, rfl, SqT.of upd_same, rfl, _, _, rfl, _, _, rfl, rfl, ?_⟩
      refine ⟨_, rfl, r, C_Rule, dx, _, _, rfl, hr1, T.cl_Rule, T.nf_Rule_terms, rlf_terms _, _, rfl, tp, pc, zs, ts, _, _, _, _, rfl, .inl (.inl htp1), hts1, hz, sqt_same hpc s2, fun H3 np s3 hnp => ?_⟩
      have s13 := (same_upd (o := .tup [.int (i : Nat), .ref pc]) hT).trans s3
      have hlo3 := s13 _ _ hlo1
      have hli3 := s13 _ _ hli1
      have hk3 := keysS hk1 s13
      have hnp' : SqT K H3 np ((kcs ts cs i).map V.int) := by
        rw [key, kc_map]
        exact SqT.of hnp
      have hkl : ((ordN (kcs ts cs) i).map (kcs ts cs)).length = i := by rw [List.length_map, ordN_len]
      have hyl : ys.length = i := by rw [hk3.len, hkl]
      refine ⟨_, rfl, _, rfl, lo, np, ys, _, kcs ts cs i, rfl, SqL.of hlo3, hk3, ordN_sd _ _, by rw [hkl]; omega, hnp', ?_⟩
      have hple := plc_le (kcs ts cs i) ((ordN (kcs ts cs) i).map (kcs ts cs))
      rw [hkl] at hple
      refine ⟨_, rfl, .inl ⟨rfl, _, SqL.of hlo3⟩, _, rfl, _, rfl, lo, ys, _, _, rfl, rfl, hlo3, small1000 (by omega), by omega, by omega, ?_⟩
      have k4 : Kp lo H3 (upd H3 lo (.lst (insA ys (plc (kcs ts cs i) ((ordN (kcs ts cs) i).map (kcs ts cs))) (.ref np)))) := Kp.upd
      have hli4 := k4 _ _ nil' hli3
      refine ⟨_, rfl, .inl ⟨rfl, _, SqL.of hli4⟩, _, rfl, _, rfl, li, _, _, _, rfl, rfl, hli4, small1000 (by rw [ixs_len, ordN_len]; omega), by omega, by omega, ?_⟩
      have k5 : Kp li (upd H3 lo (.lst (insA ys (plc (kcs ts cs i) ((ordN (kcs ts cs) i).map (kcs ts cs))) (.ref np)))) (upd (upd H3 lo (.lst (insA ys (plc (kcs ts cs i) ((ordN (kcs ts cs) i).map (kcs ts cs))) (.ref np)))) li (.lst (ixs (ordN (kcs ts cs) (i + 1))))) := Kp.upd
      refine ⟨_, _, _, _, insA ys (plc (kcs ts cs i) ((ordN (kcs ts cs) i).map (kcs ts cs))) (.ref np), rfl, ?_, ?_, ?_, ?_⟩
      · intro b o e
        rw [upd_ne (ne_of_none e hli0), upd_ne (ne_of_none e hlo)]
        exact s13 _ _ (s1 _ _ e)
      · rw [upd_ne nil'.symm, upd_same]
        rfl
      · rw [ordN_map]
        refine Al.mono (fun x k hx => KeyV.kp (KeyV.kp hx k4 hlo3) (Kp.upd (p := li)) hli4) (hk3.ins _ ⟨np, rfl, hnp'⟩)
      · rw [upd_same]
        show some (HO.lst (insA (ixs _) _ _)) = some (HO.lst (ixs (insA _ _ _)))
        rw [ixs_ins]
        rfl
    · rintro σ H' ⟨v4, v5, v6, v7, ys, rfl, s1, hlo1, hk1, hli1⟩
      rw [hlen] at hli1
      exact ⟨_, rfl, q _ li s1 hli0 hli1⟩
theorem srvN_at {key : Nat → List Int} {n w i : Nat} : (List.range (i + 1)).filter (fun k => decide (k ∈ (ordN key n).take w)) = (List.range i).filter (fun k => decide (k ∈ (ordN key n).take w)) ++ (if i ∈ (ordN key n).take w then [i] else []) := by
  rw [List.range_succ, List.filter_append]
  congr 1
  by_cases h : i ∈ (ordN key n).take w
  · rw [if_pos h]
    simp [h]
  · rw [if_neg h]
    simp [h]
theorem ixs_app (l m : List Nat) : ixs (l ++ m) = ixs l ++ ixs m := List.map_append ..
theorem cut_take (xs : List V) (w : Nat) : cutV xs none (some (w : Int)) = xs.take w := by
  have e0 : HT.sIx xs.length 0 none = 0 := rfl
  have e1 : HT.sIx xs.length xs.length (some (w : Int)) = min w xs.length := by
    simp only [HT.sIx]
    split <;> omega
  unfold cutV
  rw [e0, e1, List.drop_zero, Nat.sub_zero]
  by_cases h : w ≤ xs.length
  · rw [Nat.min_eq_left h]
  · rw [Nat.min_eq_right (by omega), List.take_length, List.take_of_length_le (by omega)]
theorem ixs_take (l : List Nat) (w : Nat) : (ixs l).take w = ixs (l.take w) := List.map_take.symm
def nint (l : List Nat) : List Int := l.map fun (i : Nat) => (i : Int)
theorem ixs_ints (l : List Nat) : ixs l = (nint l).map V.int := by
  unfold ixs nint
  rw [List.map_map]
  rfl
theorem nint_mem {l : List Nat} {k : Nat} : ((k : Int) ∈ nint l) ↔ k ∈ l := by
  unfold nint
  rw [List.mem_map]
  constructor
  · rintro ⟨x, hx, e⟩
    have : x = k := by omega
    rw [← this]
    exact hx
  · intro h
    exact ⟨k, h, rfl⟩
theorem nint_nd {l : List Nat} (h : l.Nodup) : (nint l).Nodup := List.Pairwise.map _ (fun a b (n : a ≠ b) (e : (a : Int) = b) => n (by omega)) h
theorem ok_Rule_serve {f : Addr} {fd : FuncData} (F : Fun K "serve" "Rule.serve" s_Rule_serve f fd) (T : Txt w K mg C_Rule A_WORDS A_OTHER_SIDE) (c_Rule_order : Met CX0 P w K mg base 3 C_Rule "order" (sp_order K C_Rule)) :
    FnOk P w K mg base CX0 4 f fd ["self", "cars", "width"] (sp_serve K C_Rule) := by
  refine F.ok sc_Rule_serve (fun vs H Q E h => ?_) (fun cdv A outer s H vs Q E hr h => ?_)
  · obtain ⟨r, cl, b, xs, ts, cs, wd, rfl, _⟩ := h
    rfl
  · obtain ⟨r, cl, bb, xs, ts, cs, wd, rfl, hr0, hz, hcl, hcs, hcz, hw, q⟩ := h
    refine ⟨_, (pss_cons (ps_set (i := 3) sc_Rule_serve.nd rfl (Or.inr rfl) (pe_callTy (call_setI rfl) (by rfl) T.n_set (by decide +kernel) (pa_cons (pe_slice sl_list (pc_mt c_Rule_order hr (by decide) pass0 (pv 0) (pa_cons (pv 1) pa_nil)) po_none (po_some (pv 2))) pa_nil)))
      (pss_one (ps_ret (pe_lc (own := [("index", 4)]) (g := (gName 4)) rfl sc_Rule_serve.nd (pi_range1 (by rfl) T.n_range (pa_cons (pe_callB call_len_seq (by rfl) T.n_len PySem.boot_len (pa_cons (pv 1) pa_nil)) pa_nil)) (blkOk_by (own := [("index", 4)]) (N := ["self", "cars", "width", "served", "index"]) (sc := defScope s_Rule_serve) (by decide +kernel)) (fun _ _ _ _ _ => (pg_name (i := 4) sc_Rule_serve.nd rfl (Or.inl rfl))) (fun _ _ _ _ _ => (pts_one (pt_cmpR op_inSet (pv 4) (pv 3) (by rfl)))) (fun _ _ _ _ _ => (pv 4)))))), ?_⟩
    have hlen := hcs.len
    obtain ⟨dx, tp, zs, hr1, htp1, hts1⟩ := id hr0
    refine ⟨_, rfl, r, dx, _, rfl, hr1, rlf_no _ (by decide +kernel), _, rfl, r, cl, bb, xs, ts, cs, rfl, hr0, hz, hcl, hcs, hcz, fun H1 p s1 hp0 hp => ?_⟩
    refine ⟨_, rfl, _, rfl, p, _, rfl, SqL.of hp, fun p2 hp2 => ?_⟩
    rw [cut_take, ixs_take]
    have s2 := s1.trans (same_upd (o := .lst (ixs ((ordN (kcs ts cs) cs.length).take wd))) hp2)
    refine ⟨p2, nint ((ordN (kcs ts cs) cs.length).take wd), rfl, ?_, ?_, ?_, fun ps S n hps hS => ?_⟩
    · rw [← ixs_ints]
      exact SqL.of upd_same
    · exact nint_nd ((ordN_nd _ _).sublist (List.take_sublist ..))
    · show ((List.take _ _).map _).length ≤ 4000
      rw [List.length_map, List.length_take, ordN_len]
      omega
    · have s3 := s2.trans (same_upd (o := .set S n) hps)
      have hcl3 := sqb_same hcl s3
      refine ⟨_, rfl, cl, _, rfl, sqb_or hcl3, _, rfl, by omega, by omega, fun D hD => lc_range (lo := 0) (n := ((xs.length : Nat) : Int).toNat) (fun i H' => Same H H' ∧ H' ps = some (.set S n) ∧ H' D = some (.lst (ixs ((List.range i).filter fun k => decide (k ∈ (ordN (kcs ts cs) cs.length).take wd)))))
        ⟨s3.trans (same_upd hD), same_upd hD _ _ upd_same, upd_same⟩ ?_ ?_⟩
      · rintro i H' hi ⟨s4, hps4, hD4⟩
        have hi' : i < cs.length := by omega
        have hDn : H D = none := by
          cases e : H D with
          | none => rfl
          | some o =>
            rw [s3 _ _ e] at hD
            cases hD
        refine ⟨rfl, _, rfl, _, rfl, _, ps, S, n, rfl, rfl, hps4, _, rfl, ?_⟩
        have eS : S (0 + ((i : Nat) : Int)) = decide (i ∈ (ordN (kcs ts cs) cs.length).take wd) := by
          rw [hS, Int.zero_add]
          exact decide_eq_decide.mpr nint_mem
        rw [eS]
        refine ite2 (fun hc => ?_) (fun hc => ?_)
        · have hc' := of_decide_eq_true hc
          refine ⟨_, rfl, _, hD4, small1000 ?_, ?_, ?_, ?_⟩
          · rw [ixs_len]
            exact Nat.le_trans (List.length_filter_le ..) (by rw [List.length_range]; omega)
          · intro b o e
            rw [upd_ne (ne_of_none e hDn)]
            exact s4 _ _ e
          · rw [upd_ne (fun w => by rw [w] at hps4; rw [hD4] at hps4; cases hps4)]
            exact hps4
          · rw [upd_same, srvN_at, if_pos hc', ixs_app, Int.zero_add]
            rfl
        · have hc' : ¬ i ∈ (ordN (kcs ts cs) cs.length).take wd := fun z => hc (decide_eq_true z)
          refine ⟨s4, hps4, ?_⟩
          rw [srvN_at, if_neg hc', List.append_nil]
          exact hD4
      · rintro H' ⟨s4, hps4, hD4⟩
        refine q _ D s4 ?_ ?_
        · cases e : H D with
          | none => rfl
          | some o =>
            rw [s3 _ _ e] at hD
            cases hD
        · rw [hD4]
          show some (HO.lst (ixs ((List.range xs.length).filter _))) = _
          rw [hlen]
          rfl
theorem ok_Lcell {f : Addr} {fd : FuncData} (F : Fun K "_law_cell" "_law_cell" s_Lcell f fd) (T : Txt w K mg C_Rule A_WORDS A_OTHER_SIDE)  :
    FnOk P w K mg base CX0 1 f fd ["_law_script", "_law_at"] (sp_Lcell K) := by
  refine F.ok sc_Lcell (fun vs H Q E h => ?_) (fun cdv A outer s H vs Q E hr h => ?_)
  · obtain ⟨l, ns, j, rfl, _⟩ := h
    rfl
  · obtain ⟨l, ns, j, rfl, hs, q⟩ := h
    refine ⟨_, (pss_cons (ps_if (pt_cmpR op_lt (pv 1) (pe_callB call_len_seq (by rfl) T.n_len PySem.boot_len (pa_cons (pv 0) pa_nil)) (nomark _)) (pss_one (ps_ret (pe_callB call_abs (by rfl) T.n_abs (by decide +kernel) (pa_cons (pe_callTy call_int1 (by rfl) T.n_int (by decide +kernel) (pa_cons (pe_ix ix_list (pv 0) (pv 1) (fun _ _ => rfl)) pa_nil)) pa_nil)))) pss_nil)
      (pss_one (ps_ret pe_int))), ?_⟩
    refine ⟨_, rfl, _, rfl, l, _, rfl, .inl hs, _, _, rfl, rfl, _, rfl, ?_⟩
    refine ite2 (fun hlt => ?_) (fun _ => q 0 (by decide))
    have hj : j < ns.length := by
      have z := of_decide_eq_true hlt
      rw [List.length_map] at z
      omega
    have hat : (ns.map V.int)[j]? = some (V.int ns[j]) := by rw [List.getElem?_map, List.getElem?_eq_getElem hj] <;> rfl
    refine ⟨_, rfl, _, rfl, l, _, _, _, rfl, rfl, hs, atI_nat hat, .inl ⟨_, rfl, _, rfl, q _ ?_⟩⟩
    split <;> omega
theorem ok_Lpool {f : Addr} {fd : FuncData} (F : Fun K "_law_pool" "_law_pool" s_Lpool f fd) (T : Txt w K mg C_Rule A_WORDS A_OTHER_SIDE)  :
    FnOk P w K mg base CX0 1 f fd ["_law_cell_here"] sp_Lpool := by
  refine F.ok sc_Lpool (fun vs H Q E h => ?_) (fun cdv A outer s H vs Q E hr h => ?_)
  · obtain ⟨c, rfl, _⟩ := h
    rfl
  · obtain ⟨c, rfl, q⟩ := h
    refine ⟨_, (pss_cons (ps_if (pt_cmpR op_ge (pv 0) (pe_op op_pow pe_int pe_int) (nomark _)) (pss_one (ps_ret (pe_lst (pa_cons (pv 0) (pa_cons (pv 0) (pa_cons pe_int pa_nil)))))) pss_nil)
      (pss_one (ps_ret (pe_lst (pa_cons pe_int (pa_cons (pv 0) (pa_cons pe_int pa_nil))))))), ?_⟩
    refine ⟨_, rfl, _, _, rfl, rfl, ⟨by decide, by decide, by decide⟩, _, _, rfl, rfl, _, rfl, ?_⟩
    refine ite2 (fun _ => ?_) (fun _ => ?_)
    · exact ⟨_, rfl, _, rfl, (by show 3 ≤ sizeLine; decide), fun p hp => q p _ hp (same_upd hp) ⟨_, _, _, upd_same⟩⟩
    · exact ⟨_, rfl, (by show 3 ≤ sizeLine; decide), fun p hp => q p _ hp (same_upd hp) ⟨_, _, _, upd_same⟩⟩
theorem ok_Ltake {f : Addr} {fd : FuncData} (F : Fun K "_law_take" "_law_take" s_Ltake f fd) (T : Txt w K mg C_Rule A_WORDS A_OTHER_SIDE)  :
    FnOk P w K mg base CX0 1 f fd ["_law_pool_here", "_law_many"] sp_Ltake := by
  refine F.ok sc_Ltake (fun vs H Q E h => ?_) (fun cdv A outer s H vs Q E hr h => ?_)
  · obtain ⟨p, many, rfl, _⟩ := h
    rfl
  · obtain ⟨p, many, rfl, ⟨x, y, z, hp⟩, hm, hb, q⟩ := h
    refine ⟨_, (pss_cons (ps_asg (pe_op op_add (pe_ix ix_list (pv 0) pe_int (fun _ _ => rfl)) pe_int) (pg_sub (pv 0) pe_int set_list))
      (pss_cons (ps_if (pt_cmpR op_gt (pe_ix ix_list (pv 0) pe_int (fun _ _ => rfl)) pe_int (nomark _)) (pss_cons (ps_set (i := 2) sc_Ltake.nd rfl (Or.inl rfl) (pe_op op_mod (pe_callTy call_int1 (by rfl) T.n_int (by decide +kernel) (pa_cons (pe_ix ix_list (pv 0) pe_int (fun _ _ => rfl)) pa_nil)) (pv 1)))
      (pss_cons (ps_asg (pe_op op_fdivW (pe_ix ix_list (pv 0) pe_int (fun _ _ => rfl)) (pv 1)) (pg_sub (pv 0) pe_int set_list))
      (pss_one (ps_ret (pv 2))))) pss_nil)
      (pss_cons (ps_set (i := 3) sc_Ltake.nd rfl (Or.inl rfl) (pe_op op_mod (pe_callTy call_int1 (by rfl) T.n_int (by decide +kernel) (pa_cons (pe_op op_mulA (pe_op op_add (pe_ix ix_list (pv 0) pe_int (fun _ _ => rfl)) (pe_op op_mulA pe_int (pe_ix ix_list (pv 0) pe_int (fun _ _ => rfl)))) pe_int) pa_nil)) pe_int))
      (pss_cons (ps_set (i := 3) sc_Ltake.nd rfl (Or.inl rfl) (pe_op op_mod (pe_callTy call_int1 (by rfl) T.n_int (by decide +kernel) (pa_cons (pe_op op_add (pe_op op_mulA (pv 3) pe_int) (pe_op op_mulA pe_int (pe_ix ix_list (pv 0) pe_int (fun _ _ => rfl)))) pa_nil)) pe_int))
      (pss_one (ps_ret (pe_op op_mod (pe_callTy call_int1 (by rfl) T.n_int (by decide +kernel) (pa_cons (pe_op op_fdivW (pv 3) pe_int) pa_nil)) (pv 1)))))))), ?_⟩
    refine ⟨_, rfl, p, _, _, _, rfl, rfl, SqL.of hp, at2, _, _, rfl, rfl, _, rfl, p, _, _, _, rfl, rfl, hp, rfl, ?_⟩
    refine ⟨_, rfl, p, _, _, _, rfl, rfl, SqL.of upd_same, at0, _, _, rfl, rfl, _, rfl, ?_⟩
    refine ite2 (fun _ => ?_) (fun _ => ?_)
    · refine ⟨_, rfl, p, _, _, _, rfl, rfl, SqL.of upd_same, at0, .inl ⟨_, rfl, _, rfl, _, _, rfl, rfl, hm, ?_⟩⟩
      refine ⟨_, rfl, p, _, _, _, rfl, rfl, SqL.of upd_same, at0, _, rfl, _, _, rfl, rfl, wide_div hm hb (by decide) (by decide), _, rfl, p, _, _, _, rfl, rfl, upd_same, rfl, ?_⟩
      exact ⟨_, rfl, q _ _ (Kp.trans Kp.upd Kp.upd) ⟨_, _, _, upd_same⟩ (Int.emod_nonneg _ (by omega)) (Int.emod_lt_of_pos _ hm)⟩
    · refine ⟨_, rfl, p, _, _, _, rfl, rfl, SqL.of upd_same, at1, _, rfl, p, _, _, _, rfl, rfl, SqL.of upd_same, at2, _, _, rfl, rfl, .inl (.inl ⟨by decide, by decide⟩), _, _, rfl, rfl, _, _, rfl, rfl, .inl (.inr ⟨by decide, by decide⟩), .inl ⟨_, rfl, _, _, rfl, rfl, (by show (0 : Int) < 2147483647; decide), ?_⟩⟩
      refine ⟨_, rfl, _, _, rfl, rfl, .inl (.inr ⟨by decide, by decide⟩), _, rfl, p, _, _, _, rfl, rfl, SqL.of upd_same, at2, _, _, rfl, rfl, .inl (.inl ⟨by decide, by decide⟩), _, _, rfl, rfl, .inl ⟨_, rfl, _, _, rfl, rfl, (by show (0 : Int) < 2147483399; decide), ?_⟩⟩
      refine ⟨_, rfl, _, _, rfl, rfl, wide_div (b := 300) (by decide) (by decide) (by decide) (by decide), .inl ⟨_, rfl, _, rfl, _, _, rfl, rfl, hm, ?_⟩⟩
      exact q _ _ Kp.upd ⟨_, _, _, upd_same⟩ (Int.emod_nonneg _ (by omega)) (Int.emod_lt_of_pos _ hm)
theorem okr_Lsame {f : Addr} {fd : FuncData} {j n : Nat} (F : Fun K "_law_same" "_law_same" s_Lsame f fd) (T : Txt w K mg C_Rule A_WORDS A_OTHER_SIDE) (c_Lsame : Cal CX0 P w K mg base j "_law_same" (sp_Lsame K n)) :
    FnOk P w K mg base CX0 (j + 1) f fd ["_law_told", "_law_due"] (sp_Lsame K (n + 1)) := by
  refine F.ok sc_Lsame (fun vs H Q E h => ?_) (fun cdv A outer s H vs Q E hr h => ?_)
  · obtain ⟨x, y, rfl, _⟩ := h
    rfl
  · obtain ⟨x, y, rfl, hv, q⟩ := h
    refine ⟨_, (pss_cons (ps_if (pt_cmpR op_isN (pv 1) pe_non (nomark _)) (pss_one (ps_ret (pe_cmpR op_isN (pv 0) pe_non (nomark _)))) pss_nil)
      (pss_cons (ps_if (pt_cmpR op_isB (pv 1) pe_bl (nomark _)) (pss_one (ps_ret (pe_cmpR op_isB (pv 0) pe_bl (nomark _)))) pss_nil)
      (pss_cons (ps_if (pt_cmpR op_isB (pv 1) pe_bl (nomark _)) (pss_one (ps_ret (pe_cmpR op_isB (pv 0) pe_bl (nomark _)))) pss_nil)
      (pss_cons (ps_if (pt_val (pe_callB call_isi (by rfl) T.n_isinstance (by decide +kernel) (pa_cons (pv 1) (pa_cons (pe_bltn (v := .ty "int") (by rfl) T.n_int (by decide +kernel) rfl) pa_nil)))) (pss_one (ps_ret (pe_and (pe_callB call_isi (by rfl) T.n_isinstance (by decide +kernel) (pa_cons (pv 0) (pa_cons (pe_bltn (v := .ty "int") (by rfl) T.n_int (by decide +kernel) rfl) pa_nil))) (pe_and (pe_not (pe_callB call_isi (by rfl) T.n_isinstance (by decide +kernel) (pa_cons (pv 0) (pa_cons (pe_bltn (v := .ty "bool") (by rfl) T.n_bool (by decide +kernel) rfl) pa_nil)))) (pe_one (pe_cmpR op_eq (pv 0) (pv 1) (nomark _))))))) pss_nil)
      (pss_cons (ps_if (pt_val (pe_callB call_isi (by rfl) T.n_isinstance (by decide +kernel) (pa_cons (pv 1) (pa_cons (pe_bltn (v := .ty "str") (by rfl) T.n_str (by decide +kernel) rfl) pa_nil)))) (pss_one (ps_ret (pe_and (pe_callB call_isi (by rfl) T.n_isinstance (by decide +kernel) (pa_cons (pv 0) (pa_cons (pe_bltn (v := .ty "str") (by rfl) T.n_str (by decide +kernel) rfl) pa_nil))) (pe_one (pe_cmpR op_eq (pv 0) (pv 1) (nomark _)))))) pss_nil)
      (pss_cons (ps_if (PW.pt (pw_and (pt_val (pe_callB call_isi (by rfl) T.n_isinstance (by decide +kernel) (pa_cons (pv 1) (pa_cons (pe_bltn (v := .ty "tuple") (by rfl) T.n_tuple (by decide +kernel) rfl) pa_nil)))) (pw_and1 (pt_not (pt_val (pe_callB call_isi (by rfl) T.n_isinstance (by decide +kernel) (pa_cons (pv 0) (pa_cons (pe_bltn (v := .ty "tuple") (by rfl) T.n_tuple (by decide +kernel) rfl) pa_nil)))))))) (pss_one (ps_ret pe_bl)) pss_nil)
      (pss_cons (ps_if (PW.pt (pw_and (pt_val (pe_callB call_isi (by rfl) T.n_isinstance (by decide +kernel) (pa_cons (pv 1) (pa_cons (pe_bltn (v := .ty "list") (by rfl) T.n_list (by decide +kernel) rfl) pa_nil)))) (pw_and1 (pt_not (pt_val (pe_callB call_isi (by rfl) T.n_isinstance (by decide +kernel) (pa_cons (pv 0) (pa_cons (pe_bltn (v := .ty "list") (by rfl) T.n_list (by decide +kernel) rfl) pa_nil)))))))) (pss_one (ps_ret pe_bl)) pss_nil)
      (pss_cons (ps_if (pt_cmpR op_ne (pe_callB call_len_seq (by rfl) T.n_len PySem.boot_len (pa_cons (pv 0) pa_nil)) (pe_callB call_len_seq (by rfl) T.n_len PySem.boot_len (pa_cons (pv 1) pa_nil)) (nomark _)) (pss_one (ps_ret pe_bl)) pss_nil)
      (pss_cons (ps_for PassesOwn.never rfl (pi_range1 (by rfl) T.n_range (pa_cons (pe_callB call_len_seq (by rfl) T.n_len PySem.boot_len (pa_cons (pv 1) pa_nil)) pa_nil)) (pg_name (i := 2) sc_Lsame.nd rfl (Or.inl rfl))
        (pss_one (ps_if (pt_not (pt_val (pc_c c_Lsame hr (Nat.le_refl _) rfl pass0 (pa_cons (pe_ix ix_seq (pv 0) (pv 2) (fun _ _ => rfl)) (pa_cons (pe_ix ix_seq (pv 1) (pv 2) (fun _ _ => rfl)) pa_nil))))) (pss_one (ps_ret pe_bl)) pss_nil)))
      (pss_one (ps_ret pe_bl))))))))))), ?_⟩
    have kL1 : PySem.W.kitOne K (.type "list") (.type "int") = some false := kit_ty (by decide +kernel)
    have kL2 : PySem.W.kitOne K (.type "list") (.type "str") = some false := kit_ty (by decide +kernel)
    have kL3 : PySem.W.kitOne K (.type "list") (.type "tuple") = some false := kit_ty (by decide +kernel)
    have kL4 : PySem.W.kitOne K (.type "list") (.type "list") = some true := kit_ty (by decide +kernel)
    have kT1 : PySem.W.kitOne K (.type "tuple") (.type "int") = some false := kit_ty (by decide +kernel)
    have kT2 : PySem.W.kitOne K (.type "tuple") (.type "str") = some false := kit_ty (by decide +kernel)
    have kT3 : PySem.W.kitOne K (.type "tuple") (.type "tuple") = some true := kit_ty (by decide +kernel)
    have kT4 : PySem.W.kitOne K (.type "tuple") (.type "list") = some false := kit_ty (by decide +kernel)
    have hv' : (flatD x = true ∧ x = y) ∨ (∃ m, n = m + 1 ∧ ∃ (a b : Addr) (xs ys : List V), x = .ref a ∧ y = .ref b ∧ SqL K H a xs ∧ SqL K H b ys ∧ xs.length ≤ sizeLine ∧ Pairs (SameV K H m) xs ys) ∨
        (∃ m, n = m + 1 ∧ ∃ (a b : Addr) (xs ys : List V), x = .ref a ∧ y = .ref b ∧ SqT K H a xs ∧ SqT K H b ys ∧ xs.length ≤ sizeLine ∧ Pairs (SameV K H m) xs ys) := by
      cases n with
      | zero => exact .inl hv
      | succ m =>
        rcases hv with h | h | h
        · exact .inl h
        · exact .inr (.inl ⟨m, rfl, h⟩)
        · exact .inr (.inr ⟨m, rfl, h⟩)
    rcases hv' with ⟨hf, e⟩ | ⟨m, rfl, a, b, xs, ys, rfl, rfl, ha, hb, hl, hp⟩ | ⟨m, rfl, a, b, xs, ys, rfl, rfl, ha, hb, hl, hp⟩
    · subst e
      cases x with
      | non => exact ⟨_, rfl, rfl, _, rfl, iteDT rfl ⟨_, rfl, rfl, q⟩⟩
      | bl b =>
        refine ⟨_, rfl, rfl, _, rfl, iteDF (by intro z; cases z) ?_⟩
        cases b with
        | true => exact ⟨_, rfl, _, rfl, _, rfl, iteDT rfl ⟨_, rfl, _, rfl, q⟩⟩
        | false => exact ⟨_, rfl, _, rfl, _, rfl, iteDF (by intro z; cases z) ⟨_, rfl, _, rfl, _, rfl, iteDT rfl ⟨_, rfl, _, rfl, q⟩⟩⟩
      | int i =>
        refine ⟨_, rfl, rfl, _, rfl, iteDF (by intro z; cases z) ?_⟩
        refine ⟨_, rfl, _, rfl, _, rfl, iteDF (by intro z; cases z) ?_⟩
        refine ⟨_, rfl, _, rfl, _, rfl, iteDF (by intro z; cases z) ?_⟩
        refine ⟨_, rfl, _, _, _, .type "int", true, rfl, .ty "int", .base (.int i), kit_ty (by decide +kernel), true, rfl, iteT ?_⟩
        refine ⟨_, rfl, _, _, _, .type "int", true, rfl, .ty "int", .base (.int i), kit_ty (by decide +kernel), true, rfl, iteT ?_⟩
        refine ⟨_, rfl, _, _, _, .type "bool", false, rfl, .ty "bool", .base (.int i), kit_ty (by decide +kernel), false, rfl, true, rfl, iteT ?_⟩
        refine ⟨_, rfl, _, rfl, rfl, ?_⟩
        rw [decide_eq_true (show V.int i = V.int i from rfl)]
        exact q
      | str i =>
        refine ⟨_, rfl, rfl, _, rfl, iteDF (by intro z; cases z) ?_⟩
        refine ⟨_, rfl, _, rfl, _, rfl, iteDF (by intro z; cases z) ?_⟩
        refine ⟨_, rfl, _, rfl, _, rfl, iteDF (by intro z; cases z) ?_⟩
        refine ⟨_, rfl, _, _, _, .type "int", false, rfl, .ty "int", .base (.str i), kit_ty (by decide +kernel), false, rfl, iteF ?_⟩
        refine ⟨_, rfl, _, _, _, .type "str", true, rfl, .ty "str", .base (.str i), kit_ty (by decide +kernel), true, rfl, iteT ?_⟩
        refine ⟨_, rfl, _, _, _, .type "str", true, rfl, .ty "str", .base (.str i), kit_ty (by decide +kernel), true, rfl, iteT ?_⟩
        refine ⟨_, rfl, _, rfl, rfl, ?_⟩
        rw [decide_eq_true (show V.str i = V.str i from rfl)]
        exact q
      | _ => exact absurd (show false = true from hf) Bool.false_ne_true
    · refine ⟨_, rfl, rfl, _, rfl, iteDF (by intro z; cases z) ?_⟩
      refine ⟨_, rfl, _, rfl, _, rfl, iteDF (by intro z; cases z) ?_⟩
      refine ⟨_, rfl, _, rfl, _, rfl, iteDF (by intro z; cases z) ?_⟩
      refine ⟨_, rfl, _, _, _, .type "int", false, rfl, .ty "int", tyx_list hb, kL1, false, rfl, iteF ?_⟩
      refine ⟨_, rfl, _, _, _, .type "str", false, rfl, .ty "str", tyx_list hb, kL2, false, rfl, iteF ?_⟩
      refine ⟨_, rfl, _, _, _, .type "tuple", false, rfl, .ty "tuple", tyx_list hb, kL3, false, rfl, iteF (iteF ?_)⟩
      refine ⟨_, rfl, _, _, _, .type "list", true, rfl, .ty "list", tyx_list hb, kL4, true, rfl, iteT ?_⟩
      refine ⟨_, rfl, _, _, _, .type "list", true, rfl, .ty "list", tyx_list ha, kL4, true, rfl, iteF ?_⟩
      refine ⟨_, rfl, a, _, rfl, .inl ha, _, rfl, b, _, rfl, .inl hb, rfl, _, rfl, ?_⟩
      rw [decide_eq_true (show V.int (xs.length : Nat) = V.int (ys.length : Nat) by rw [hp.1])]
      refine iteF ?_
      have hy : ys.length ≤ 16777216 := by rw [← hp.1, ← sizeLine_eq]; exact hl
      refine ⟨_, rfl, b, _, rfl, .inl hb, _, rfl, by omega, by omega, for_range (lo := 0) (n := ((ys.length : Nat) : Int).toNat) (fun i σ H' => H' = H ∧ ∃ v : Option V, σ = [some (.ref a), some (.ref b), v]) ⟨rfl, none, rfl⟩ ?_ ?_⟩
      · rintro i σ H' hi ⟨rfl, v, rfl⟩
        have i1 : i < ys.length := by omega
        have i2 : i < xs.length := by rw [hp.1]; exact i1
        have ex : xs[i]? = some xs[i] := List.getElem?_eq_getElem i2
        have ey : ys[i]? = some ys[i] := List.getElem?_eq_getElem i1
        have ex' := atI_nat ex
        have ey' := atI_nat ey
        rw [show ((i : Nat) : Int) = 0 + ((i : Nat) : Int) by omega] at ex' ey'
        refine ⟨_, rfl, _, rfl, .inl ⟨a, _, _, _, rfl, rfl, ha, ex', _, rfl, _, rfl, .inl ⟨b, _, _, _, rfl, rfl, hb, ey', _, _, rfl, hp.2 i _ _ ex ey, true, rfl, iteF ?_⟩⟩⟩
        exact ⟨rfl, _, rfl⟩
      · rintro σ H' ⟨rfl, v, rfl⟩
        exact q
    · refine ⟨_, rfl, rfl, _, rfl, iteDF (by intro z; cases z) ?_⟩
      refine ⟨_, rfl, _, rfl, _, rfl, iteDF (by intro z; cases z) ?_⟩
      refine ⟨_, rfl, _, rfl, _, rfl, iteDF (by intro z; cases z) ?_⟩
      refine ⟨_, rfl, _, _, _, .type "int", false, rfl, .ty "int", tyx_tup hb, kT1, false, rfl, iteF ?_⟩
      refine ⟨_, rfl, _, _, _, .type "str", false, rfl, .ty "str", tyx_tup hb, kT2, false, rfl, iteF ?_⟩
      refine ⟨_, rfl, _, _, _, .type "tuple", true, rfl, .ty "tuple", tyx_tup hb, kT3, true, rfl, iteT ?_⟩
      refine ⟨_, rfl, _, _, _, .type "tuple", true, rfl, .ty "tuple", tyx_tup ha, kT3, true, rfl, iteF ?_⟩
      refine ⟨_, rfl, _, _, _, .type "list", false, rfl, .ty "list", tyx_tup hb, kT4, false, rfl, iteF (iteF ?_)⟩
      refine ⟨_, rfl, a, _, rfl, .inr ha, _, rfl, b, _, rfl, .inr hb, rfl, _, rfl, ?_⟩
      rw [decide_eq_true (show V.int (xs.length : Nat) = V.int (ys.length : Nat) by rw [hp.1])]
      refine iteF ?_
      have hy : ys.length ≤ 16777216 := by rw [← hp.1, ← sizeLine_eq]; exact hl
      refine ⟨_, rfl, b, _, rfl, .inr hb, _, rfl, by omega, by omega, for_range (lo := 0) (n := ((ys.length : Nat) : Int).toNat) (fun i σ H' => H' = H ∧ ∃ v : Option V, σ = [some (.ref a), some (.ref b), v]) ⟨rfl, none, rfl⟩ ?_ ?_⟩
      · rintro i σ H' hi ⟨rfl, v, rfl⟩
        have i1 : i < ys.length := by omega
        have i2 : i < xs.length := by rw [hp.1]; exact i1
        have ex : xs[i]? = some xs[i] := List.getElem?_eq_getElem i2
        have ey : ys[i]? = some ys[i] := List.getElem?_eq_getElem i1
        have ex' := atI_nat ex
        have ey' := atI_nat ey
        rw [show ((i : Nat) : Int) = 0 + ((i : Nat) : Int) by omega] at ex' ey'
        refine ⟨_, rfl, _, rfl, .inr (.inl ⟨a, _, _, _, rfl, rfl, ha, ex', _, rfl, _, rfl, .inr (.inl ⟨b, _, _, _, rfl, rfl, hb, ey', _, _, rfl, hp.2 i _ _ ex ey, true, rfl, iteF ?_⟩)⟩)⟩
        exact ⟨rfl, _, rfl⟩
      · rintro σ H' ⟨rfl, v, rfl⟩
        exact q
theorem ok_Lsame {f : Addr} {fd : FuncData} (F : Fun K "_law_same" "_law_same" s_Lsame f fd) (T : Txt w K mg C_Rule A_WORDS A_OTHER_SIDE) (m : mg "_law_same" = some (.ref f)) (kp : PySem.W.keepIn K (.ref f) = true) (b : Binds K fd ["_law_told", "_law_due"] []) :
    ∀ n : Nat, FnOk P w K mg base CX0 (n + 1) f fd ["_law_told", "_law_due"] (sp_Lsame K n)
  | 0 => F.ok sc_Lsame (fun _ _ _ _ h => False.elim h) (fun _ _ _ _ _ _ _ _ _ h => False.elim h)
  | n + 1 => okr_Lsame F T (cal_mk (ok_Lsame F T m kp b n) m kp b)
theorem ok_Lmeasure {f : Addr} {fd : FuncData} (F : Fun K "_law_measure" "_law_measure" s_Lmeasure f fd) (T : Txt w K mg C_Rule A_WORDS A_OTHER_SIDE)  :
    FnOk P w K mg base CX0 1 f fd ["_law_car_here", "_law_word"] (sp_Lmeasure K) := by
  refine F.ok sc_Lmeasure (fun vs H Q E h => ?_) (fun cdv A outer s H vs Q E hr h => ?_)
  · obtain ⟨a, k, s', n, l, w', rfl, _⟩ := h
    rfl
  · obtain ⟨a, k, s', n, l, w', rfl, hk, ha, q⟩ := h
    refine ⟨_, (pss_cons (ps_if (pt_cmpR op_eq (pv 1) pe_str (nomark _)) (pss_one (ps_ret (pe_ix ix_tup (pv 0) pe_int (fun _ _ => rfl)))) pss_nil)
      (pss_cons (ps_if (pt_cmpR op_eq (pv 1) pe_str (nomark _)) (pss_one (ps_ret (pe_ix ix_tup (pv 0) pe_int (fun _ _ => rfl)))) pss_nil)
      (pss_cons (ps_if (pt_cmpR op_eq (pv 1) pe_str (nomark _)) (pss_one (ps_ret (pe_ix ix_tup (pv 0) pe_int (fun _ _ => rfl)))) pss_nil)
      (pss_cons (ps_if (pt_cmpR op_eq (pv 1) pe_str (nomark _)) (pss_one (ps_ret (pe_ix ix_tup (pv 0) pe_int (fun _ _ => rfl)))) pss_nil)
      (pss_cons (ps_if (pt_cmpR op_eq (pv 1) pe_str (nomark _)) (pss_one (ps_ret (pe_op op_sub (pe_ix ix_tup (pv 0) pe_int (fun _ _ => rfl)) (pe_ix ix_tup (pv 0) pe_int (fun _ _ => rfl))))) pss_nil)
      (pss_cons (ps_if (pt_cmpR op_eq (pv 1) pe_str (nomark _)) (pss_one (ps_ret (pe_op op_sub (pe_ix ix_tup (pv 0) pe_int (fun _ _ => rfl)) (pe_ix ix_tup (pv 0) pe_int (fun _ _ => rfl))))) pss_nil)
      (pss_one (ps_ret (pe_op op_sub (pe_ix ix_tup (pv 0) pe_int (fun _ _ => rfl)) (pe_ix ix_tup (pv 0) pe_int (fun _ _ => rfl))))))))))), ?_⟩
    have z0 : atI [V.int s', V.int n, V.int l, V.int w'] 0 = some (.int s') := rfl
    have z1 : atI [V.int s', V.int n, V.int l, V.int w'] 1 = some (.int n) := rfl
    have z2 : atI [V.int s', V.int n, V.int l, V.int w'] 2 = some (.int l) := rfl
    have z3 : atI [V.int s', V.int n, V.int l, V.int w'] 3 = some (.int w') := rfl
    match k, hk, q with
    | 0, _, q => exact ⟨_, rfl, rfl, _, rfl, iteDT (by decide +kernel) ⟨_, rfl, a, _, _, _, rfl, rfl, ha, z0, q⟩⟩
    | 1, _, q => exact ⟨_, rfl, rfl, _, rfl, iteDF (by decide +kernel) ⟨_, rfl, rfl, _, rfl, iteDT (by decide +kernel) ⟨_, rfl, a, _, _, _, rfl, rfl, ha, z1, q⟩⟩⟩
    | 2, _, q => exact ⟨_, rfl, rfl, _, rfl, iteDF (by decide +kernel) ⟨_, rfl, rfl, _, rfl, iteDF (by decide +kernel) ⟨_, rfl, rfl, _, rfl, iteDT (by decide +kernel) ⟨_, rfl, a, _, _, _, rfl, rfl, ha, z2, q⟩⟩⟩⟩
    | 3, _, q => exact ⟨_, rfl, rfl, _, rfl, iteDF (by decide +kernel) ⟨_, rfl, rfl, _, rfl, iteDF (by decide +kernel) ⟨_, rfl, rfl, _, rfl, iteDF (by decide +kernel) ⟨_, rfl, rfl, _, rfl, iteDT (by decide +kernel) ⟨_, rfl, a, _, _, _, rfl, rfl, ha, z3, q⟩⟩⟩⟩⟩
    | 4, _, q => exact ⟨_, rfl, rfl, _, rfl, iteDF (by decide +kernel) ⟨_, rfl, rfl, _, rfl, iteDF (by decide +kernel) ⟨_, rfl, rfl, _, rfl, iteDF (by decide +kernel) ⟨_, rfl, rfl, _, rfl, iteDF (by decide +kernel) ⟨_, rfl, rfl, _, rfl, iteDT (by decide +kernel) ⟨_, rfl, a, _, _, _, rfl, rfl, ha, z0, _, rfl, a, _, _, _, rfl, rfl, ha, z2, _, _, rfl, rfl, q⟩⟩⟩⟩⟩⟩
    | 5, _, q => exact ⟨_, rfl, rfl, _, rfl, iteDF (by decide +kernel) ⟨_, rfl, rfl, _, rfl, iteDF (by decide +kernel) ⟨_, rfl, rfl, _, rfl, iteDF (by decide +kernel) ⟨_, rfl, rfl, _, rfl, iteDF (by decide +kernel) ⟨_, rfl, rfl, _, rfl, iteDF (by decide +kernel) ⟨_, rfl, rfl, _, rfl, iteDT (by decide +kernel) ⟨_, rfl, a, _, _, _, rfl, rfl, ha, z1, _, rfl, a, _, _, _, rfl, rfl, ha, z3, _, _, rfl, rfl, q⟩⟩⟩⟩⟩⟩⟩
    | 6, _, q => exact ⟨_, rfl, rfl, _, rfl, iteDF (by decide +kernel) ⟨_, rfl, rfl, _, rfl, iteDF (by decide +kernel) ⟨_, rfl, rfl, _, rfl, iteDF (by decide +kernel) ⟨_, rfl, rfl, _, rfl, iteDF (by decide +kernel) ⟨_, rfl, rfl, _, rfl, iteDF (by decide +kernel) ⟨_, rfl, rfl, _, rfl, iteDF (by decide +kernel) ⟨_, rfl, a, _, _, _, rfl, rfl, ha, z2, _, rfl, a, _, _, _, rfl, rfl, ha, z3, _, _, rfl, rfl, q⟩⟩⟩⟩⟩⟩⟩
theorem ok_Lkey {f : Addr} {fd : FuncData} (F : Fun K "_law_key" "_law_key" s_Lkey f fd) (T : Txt w K mg C_Rule A_WORDS A_OTHER_SIDE) (c_Lmeasure : Cal CX0 P w K mg base 1 "_law_measure" (sp_Lmeasure K)) :
    FnOk P w K mg base CX0 2 f fd ["_law_terms_here", "_law_car_here"] (sp_Lkey K) := by
  refine F.ok sc_Lkey (fun vs H Q E h => ?_) (fun cdv A outer s H vs Q E hr h => ?_)
  · obtain ⟨tl, a, xs, ts, s', n, l, w', rfl, _⟩ := h
    rfl
  · obtain ⟨tl, a, xs, ts, s', n, l, w', rfl, htl, hts, hz, ha, q⟩ := h
    refine ⟨_, (pss_cons (ps_set (i := 2) sc_Lkey.nd rfl (Or.inl rfl) (pe_lst pa_nil))
      (pss_cons (ps_for PassesOwn.never rfl (pi_list (pv 0)) (pg_name (i := 3) sc_Lkey.nd rfl (Or.inl rfl))
        (pss_cons (ps_set (i := 4) sc_Lkey.nd rfl (Or.inl rfl) (pc_c c_Lmeasure hr (by decide) rfl pass0 (pa_cons (pv 1) (pa_cons (pe_ix ix_tup (pv 3) pe_int (fun _ _ => rfl)) pa_nil))))
      (pss_cons (ps_if (pt_cmpR op_eq (pe_ix ix_tup (pv 3) pe_int (fun _ _ => rfl)) pe_str (nomark _)) (pss_one (ps_set (i := 4) sc_Lkey.nd rfl (Or.inl rfl) (pe_op op_sub pe_int (pv 4)))) pss_nil)
      (pss_one (ps_expr (pe_bm PySem.F.plainAttrs_list PySem.F.slot_list_append PySem.F.type_list_append mt_append (pv 2) (pa_cons (pv 4) pa_nil)))))))
      (pss_one (ps_ret (pv 2))))), ?_⟩
    refine ⟨Nat.zero_le _, fun D hD => ?_⟩
    refine ⟨_, rfl, tl, rfl, ⟨_, Same.seq (same_upd hD) htl⟩, for_list (K := K) (a := tl) (xs := xs) (fun i σ H' => ∃ v3 v4 : Option V, σ = [some (.ref tl), some (.ref a), some (.ref D), v3, v4] ∧ Same H H' ∧ H' D = some (.lst ((ts.map fun t => V.int (kn t s' n l w')).take i)))
      ⟨none, none, rfl, same_upd hD, by rw [upd_same] <;> rfl⟩ (fun i σ H' _ ⟨_, _, _, s1, _⟩ => Same.seq s1 htl) ?_ ?_⟩
    · rintro i x σ H' hx ⟨v3, v4, rfl, s1, hl⟩
      obtain ⟨t, ht, hi⟩ := there hts.1 hx
      obtain ⟨h7, pt, rfl, hpt⟩ := hts.2 i x t hx ht
      have hpt' := sqt_same hpt s1
      have ha' := sqt_same ha s1
      have y0 : atI [V.str (sd t.1), V.str (wd t.2)] 0 = some (.str (sd t.1)) := rfl
      have y1 : atI [V.str (sd t.1), V.str (wd t.2)] 1 = some (.str (wd t.2)) := rfl
      have hlen : (List.take i (ts.map fun t => V.int (kn t s' n l w'))).length < sizeLine := small1000 (by rw [List.length_take, List.length_map]; omega)
      have fin : ∀ c : Int, c = kn t s' n l w' → Same H (upd H' D (.lst ((ts.map fun t => V.int (kn t s' n l w')).take i ++ [.int c]))) ∧ (upd H' D (.lst ((ts.map fun t => V.int (kn t s' n l w')).take i ++ [.int c]))) D = some (.lst ((ts.map fun t => V.int (kn t s' n l w')).take (i + 1))) := fun c hc => by
        subst hc
        refine ⟨fun b o e => ?_, ?_⟩
        · rw [upd_ne (ne_of_none e hD)]
          exact s1 _ _ e
        · rw [upd_same, take_snoc (by rw [List.getElem?_map, ht] <;> rfl)]
      refine ⟨_, rfl, _, rfl, pt, _, _, _, rfl, rfl, hpt', y1, a, t.2, s', n, l, w', rfl, h7, ha', ?_⟩
      refine ⟨_, rfl, pt, _, _, _, rfl, rfl, hpt', y0, rfl, _, rfl, ?_⟩
      rcases sd_cases t.1 with ⟨e1, e2⟩ | ⟨e1, e2⟩
      · refine iteDF (by rw [e2]; decide +kernel) ?_
        refine ⟨_, rfl, .inl ⟨rfl, _, SqL.of hl⟩, _, rfl, D, _, _, rfl, rfl, hl, hlen, _, _, rfl, fin _ (by unfold kn; rw [e1, if_pos rfl])⟩
      · refine iteDT (by rw [e2]) ?_
        refine ⟨_, rfl, _, _, rfl, rfl, _, rfl, .inl ⟨rfl, _, SqL.of hl⟩, _, rfl, D, _, _, rfl, rfl, hl, hlen, _, _, rfl, fin _ (by unfold kn; rw [e1, if_neg Bool.false_ne_true]; omega)⟩
    · rintro σ H' ⟨v3, v4, rfl, s1, hl⟩
      refine ⟨_, rfl, q _ D s1 hD ?_⟩
      rw [hl, hts.1, ← List.length_map (f := fun t => V.int (kn t s' n l w')) (as := ts), List.take_length]
theorem ok_Lcar {f : Addr} {fd : FuncData} (F : Fun K "_law_car" "_law_car" s_Lcar f fd) (T : Txt w K mg C_Rule A_WORDS A_OTHER_SIDE) (c_Ltake : Cal CX0 P w K mg base 1 "_law_take" sp_Ltake) :
    FnOk P w K mg base CX0 2 f fd ["_law_pool_here", "_law_longest"] (sp_Lcar K) := by
  refine F.ok sc_Lcar (fun vs H Q E h => ?_) (fun cdv A outer s H vs Q E hr h => ?_)
  · obtain ⟨p, m, rfl, _⟩ := h
    rfl
  · obtain ⟨p, m, rfl, m0, m1, hp, q⟩ := h
    refine ⟨_, (pss_cons (ps_set (i := 2) sc_Lcar.nd rfl (Or.inl rfl) (pe_op op_add pe_int (pc_c c_Ltake hr (by decide) rfl pass0 (pa_cons (pv 0) (pa_cons (pv 1) pa_nil)))))
      (pss_cons (ps_set (i := 3) sc_Lcar.nd rfl (Or.inl rfl) (pe_op op_add pe_int (pc_c c_Ltake hr (by decide) rfl pass0 (pa_cons (pv 0) (pa_cons (pv 2) pa_nil)))))
      (pss_cons (ps_set (i := 4) sc_Lcar.nd rfl (Or.inl rfl) (pe_op op_add pe_int (pc_c c_Ltake hr (by decide) rfl pass0 (pa_cons (pv 0) (pa_cons (pv 2) pa_nil)))))
      (pss_cons (ps_set (i := 5) sc_Lcar.nd rfl (Or.inl rfl) (pe_op op_add (pe_op op_sub (pv 2) (pv 4)) pe_int))
      (pss_cons (ps_if (pt_cmpR op_lt (pv 3) (pv 5) (nomark _)) (pss_one (ps_set (i := 5) sc_Lcar.nd rfl (Or.inl rfl) (pv 3))) pss_nil)
      (pss_one (ps_ret (pe_tup (pa_cons (pv 2) (pa_cons (pv 3) (pa_cons (pv 4) (pa_cons (pe_op op_sub (pv 3) (pc_c c_Ltake hr (by decide) rfl pass0 (pa_cons (pv 0) (pa_cons (pv 5) pa_nil)))) pa_nil)))))))))))), ?_⟩
    refine ⟨_, rfl, _, rfl, p, m, rfl, hp, m0, by omega, fun H1 r1 k1 p1 a0 a1 => ⟨_, _, rfl, rfl, ?_⟩⟩
    refine ⟨_, rfl, _, rfl, p, _, rfl, p1, by omega, by omega, fun H2 r2 k2 p2 b0 b1 => ⟨_, _, rfl, rfl, ?_⟩⟩
    refine ⟨_, rfl, _, rfl, p, _, rfl, p2, by omega, by omega, fun H3 r3 k3 p3 c0 c1 => ⟨_, _, rfl, rfl, ?_⟩⟩
    refine ⟨_, rfl, _, rfl, _, _, rfl, rfl, _, _, rfl, rfl, ?_⟩
    have kk := (k1.trans k2).trans k3
    have last : ∀ mo : Int, 1 ≤ mo → mo ≤ 1 + r2 → mo < 2 ^ 62 → ∀ (H4 : Hp) (r4 : Int), Kp p H3 H4 → PoolAt H4 p → 0 ≤ r4 → r4 < mo → ∀ z, H4 z = none → Q (.ref z) (upd H4 z (.tup [.int (1 + r1), .int (1 + r2), .int (1 + r3), .int (1 + r2 - r4)])) := by
      intro mo o1 o2 _ H4 r4 k4 p4 d0 d1 z hz
      have nz : p ≠ z := fun w => by
        obtain ⟨x, y, zz, e⟩ := p4
        rw [← w, e] at hz
        cases hz
      have hz0 : H z = none := by
        cases e : H z with
        | none => rfl
        | some o =>
          have := (kk.trans k4) z o nz.symm e
          rw [this] at hz
          cases hz
      exact q _ z _ _ _ _ ((kk.trans k4).trans (fun b o nb e => by rw [upd_ne (ne_of_none e hz)]; exact e)) (p4.same (same_upd hz)) hz0 upd_same ⟨by omega, by omega, by omega, by omega, by omega, by omega, by omega, by omega⟩
    refine ⟨_, rfl, _, rfl, _, _, rfl, rfl, _, rfl, ?_⟩
    refine ite2 (fun hc => ?_) (fun hc => ?_)
    · have hc' := of_decide_eq_true hc
      refine ⟨_, rfl, _, rfl, _, rfl, _, rfl, _, rfl, _, rfl, _, rfl, p, _, rfl, p3, by omega, by omega, fun H4 r4 k4 p4 d0 d1 => ⟨_, _, rfl, rfl, (by show 4 ≤ sizeLine; decide), fun z hz => ?_⟩⟩
      exact last _ (by omega) (by omega) (by omega) H4 r4 k4 p4 d0 d1 z hz
    · have hc' : ¬ 1 + r2 < 1 + r1 - (1 + r3) + 1 := fun z => hc (decide_eq_true z)
      refine ⟨_, rfl, _, rfl, _, rfl, _, rfl, _, rfl, _, rfl, p, _, rfl, p3, by omega, by omega, fun H4 r4 k4 p4 d0 d1 => ⟨_, _, rfl, rfl, (by show 4 ≤ sizeLine; decide), fun z hz => ?_⟩⟩
      exact last _ (by omega) (by omega) (by omega) H4 r4 k4 p4 d0 d1 z hz
theorem side_at {r : Int} (h0 : 0 ≤ r) (h1 : r < 2) : atI [V.str "least", V.str "most"] r = some (.str (sd (decide (r = 0)))) := by
  have : r = 0 ∨ r = 1 := by omega
  rcases this with e | e
  · subst e; rfl
  · subst e; rfl
theorem ok_Lterms {f : Addr} {fd : FuncData} (F : Fun K "_law_terms" "_law_terms" s_Lterms f fd) (T : Txt w K mg C_Rule A_WORDS A_OTHER_SIDE) (c_Ltake : Cal CX0 P w K mg base 1 "_law_take" sp_Ltake) :
    FnOk P w K mg base CX0 2 f fd ["_law_pool_here", "_law_most"] (sp_Lterms K) := by
  refine F.ok sc_Lterms (fun vs H Q E h => ?_) (fun cdv A outer s H vs Q E hr h => ?_)
  · obtain ⟨p, m, rfl, _⟩ := h
    rfl
  · obtain ⟨p, m, rfl, hm, hp, q⟩ := h
    refine ⟨_, (pss_cons (ps_set (i := 2) sc_Lterms.nd rfl (Or.inl rfl) (pe_lst (pa_cons pe_str (pa_cons pe_str (pa_cons pe_str (pa_cons pe_str (pa_cons pe_str (pa_cons pe_str (pa_cons pe_str pa_nil)))))))))
      (pss_cons (ps_set (i := 3) sc_Lterms.nd rfl (Or.inl rfl) (pe_lst pa_nil))
      (pss_cons (ps_for PassesOwn.never rfl (pi_range1 (by rfl) T.n_range (pa_cons (pc_c c_Ltake hr (by decide) rfl pass0 (pa_cons (pv 0) (pa_cons (pe_op op_add (pv 1) pe_int) pa_nil))) pa_nil)) (pg_name (i := 4) sc_Lterms.nd rfl (Or.inl rfl))
        (pss_cons (ps_set (i := 5) sc_Lterms.nd rfl (Or.inl rfl) (pe_bm PySem.F.plainAttrs_list PySem.F.slot_list_pop PySem.F.type_list_pop mt_popAt (pv 2) (pa_cons (pc_c c_Ltake hr (by decide) rfl pass0 (pa_cons (pv 0) (pa_cons (pe_callB call_len_seq (by rfl) T.n_len PySem.boot_len (pa_cons (pv 2) pa_nil)) pa_nil))) pa_nil)))
      (pss_one (ps_expr (pe_bm PySem.F.plainAttrs_list PySem.F.slot_list_append PySem.F.type_list_append mt_append (pv 3) (pa_cons (pe_tup (pa_cons (pe_ix ix_list (pe_lst (pa_cons pe_str (pa_cons pe_str pa_nil))) (pc_c c_Ltake hr (by decide) rfl pass0 (pa_cons (pv 0) (pa_cons pe_int pa_nil))) (fun _ _ => rfl)) (pa_cons (pv 5) pa_nil))) pa_nil))))))
      (pss_one (ps_ret (pv 3)))))), ?_⟩
    refine ⟨(by show 7 ≤ sizeLine; decide), fun lw hlw => ?_⟩
    refine ⟨Nat.zero_le _, fun lt hlt => ?_⟩
    have nlt : lt ≠ lw := fun w => by rw [w, upd_same] at hlt; cases hlt
    have hlt0 : H lt = none := by rw [upd_ne nlt] at hlt; exact hlt
    have npw : p ≠ lw := fun w => by obtain ⟨x, y, z, e⟩ := hp; rw [w, hlw] at e; cases e
    have npt : p ≠ lt := fun w => by obtain ⟨x, y, z, e⟩ := hp; rw [w, hlt0] at e; cases e
    have s0 : Same H (upd (upd H lw (.lst [.str "stay", .str "need", .str "left", .str "want", .str "here", .str "got", .str "slack"])) lt (.lst [])) := (same_upd hlw).trans (same_upd hlt)
    refine ⟨_, rfl, _, rfl, _, _, rfl, rfl, p, _, rfl, hp.same s0, by omega, by omega, fun H1 r k1 p1 r0 r1 => ?_⟩
    refine ⟨r, rfl, by omega, by omega, for_range (lo := 0) (n := r.toNat) (fun i σ H' => ∃ (v4 v5 : Option V) (W : List Nat) (ts : List (Bool × Nat)) (xs : List V), σ = [some (.ref p), some (.int (m : Int)), some (.ref lw), some (.ref lt), v4, v5] ∧ Kp p H H' ∧ PoolAt H' p ∧
        H' lw = some (.lst (W.map fun k => V.str (wd k))) ∧ H' lt = some (.lst xs) ∧ TermsV K H' xs ts ∧ W.length + i = 7 ∧ ts.length = i ∧ (W ++ ts.map (·.2)).Nodup ∧ (∀ k ∈ W, k < 7) ∧ (∀ t ∈ ts, t.2 < 7))
      ⟨none, none, [0, 1, 2, 3, 4, 5, 6], [], [], rfl, fun b o nb e => k1 _ _ nb (s0 _ _ e), p1, k1 _ _ npw.symm (by rw [upd_ne nlt.symm, upd_same] <;> rfl), k1 _ _ npt.symm upd_same, TermsV.nil, rfl, rfl, by decide, by decide, by intro t ht; cases ht⟩ ?_ ?_⟩
    · rintro i σ H' hi ⟨v4, v5, W, ts, xs, rfl, kk, pp, hw, ht, hts, hW, hT, hnd, hW7, hT7⟩
      have i7 : i < 7 := by omega
      have hz : (W.map fun k => V.str (wd k)).length = W.length := List.length_map ..
      refine ⟨_, rfl, .inl ⟨rfl, _, SqL.of hw⟩, _, rfl, _, rfl, lw, _, rfl, .inl (SqL.of hw), p, _, rfl, pp, by rw [hz]; omega, by rw [hz]; omega, fun H2 r2 k2 p2 a0 a1 => ?_⟩
      rw [hz] at a1
      have kW : r2.toNat < W.length := by omega
      have hw2 := k2 _ _ npw.symm hw
      have ht2 := k2 _ _ npt.symm ht
      obtain ⟨x0, y0, z0, e0⟩ := id pp
      have hts2 := hts.kp k2 e0
      have hget : (W.map fun k => V.str (wd k))[r2.toNat]? = some (.str (wd W[r2.toNat])) := by rw [List.getElem?_map, List.getElem?_eq_getElem kW] <;> rfl
      refine ⟨lw, _, r2, r2.toNat, _, rfl, rfl, hw2, by omega, by omega, seq_ix a0 (by rw [hz]; exact a1), hget, ?_⟩
      have kL : Kp lw H2 (upd H2 lw (.lst ((W.map fun k => V.str (wd k)).eraseIdx r2.toNat))) := Kp.upd
      have hts3 := hts2.kp kL hw2
      have ht3 := kL _ _ nlt ht2
      have p3 : PoolAt (upd H2 lw (.lst ((W.map fun k => V.str (wd k)).eraseIdx r2.toNat))) p := p2.kp kL npw
      have hw3 : (upd H2 lw (.lst ((W.map fun k => V.str (wd k)).eraseIdx r2.toNat))) lw = some (.lst ((W.eraseIdx r2.toNat).map fun k => V.str (wd k))) := by rw [upd_same, erase_map]
      generalize hH3 : upd H2 lw (.lst ((W.map fun k => V.str (wd k)).eraseIdx r2.toNat)) = H3 at *
      have kk3 : Kp p H H3 := fun b o nb e => kL _ _ (fun w => by rw [w, hlw] at e; cases e) (k2 _ _ nb (kk _ _ nb e))
      refine ⟨_, rfl, .inl ⟨rfl, _, SqL.of ht3⟩, (by show 2 ≤ sizeLine; decide), fun z hz' => ?_⟩
      have sz : Same H3 (upd H3 z (.lst [.str "least", .str "most"])) := same_upd hz'
      refine ⟨_, rfl, p, 2, rfl, p3.same sz, by decide, by decide, fun H4 r4 k4 p4 c0 c1 => ?_⟩
      have npz : p ≠ z := fun w => by obtain ⟨x, y, zz, e⟩ := p3; rw [w, hz'] at e; cases e
      have hz4 := k4 z _ npz.symm upd_same
      refine ⟨z, _, _, _, rfl, rfl, SqL.of hz4, side_at c0 c1, _, rfl, (by show 2 ≤ sizeLine; decide), fun T' hT' => ?_⟩
      obtain ⟨x3, y3, z3, e3⟩ := p3.same sz
      have hts4 := ((hts3.same sz).kp k4 e3).same (same_upd (o := .tup [.str (sd (decide (r4 = 0))), .str (wd W[r2.toNat])]) hT')
      have ht4 : (upd H4 T' (.tup [.str (sd (decide (r4 = 0))), .str (wd W[r2.toNat])])) lt = some (.lst xs) := same_upd hT' _ _ (k4 _ _ npt.symm (sz _ _ ht3))
      have hw4 : (upd H4 T' (.tup [.str (sd (decide (r4 = 0))), .str (wd W[r2.toNat])])) lw = some (.lst ((W.eraseIdx r2.toNat).map fun k => V.str (wd k))) := same_upd hT' _ _ (k4 _ _ npw.symm (sz _ _ hw3))
      refine ⟨lt, _, _, rfl, rfl, ht4, small1000 (by rw [hts.1]; omega), ?_⟩
      have kT : Kp lt (upd H4 T' (.tup [.str (sd (decide (r4 = 0))), .str (wd W[r2.toNat])])) (upd (upd H4 T' (.tup [.str (sd (decide (r4 = 0))), .str (wd W[r2.toNat])])) lt (.lst (xs ++ [.ref T']))) := Kp.upd
      have nTt : T' ≠ lt := fun w => by rw [w] at hT'; have := k4 _ _ npt.symm (sz _ _ ht3); rw [this] at hT'; cases hT'
      have pm : (W.eraseIdx r2.toNat ++ (ts ++ [(decide (r4 = 0), W[r2.toNat])]).map (·.2)).Perm (W ++ ts.map (·.2)) := by
        rw [List.map_append]
        have p1 := get_erase_perm kW
        refine List.Perm.trans ?_ (List.Perm.append_right (ts.map (·.2)) p1)
        rw [← List.append_assoc]
        exact List.perm_append_comm.trans (List.Perm.refl _)
      refine ⟨_, _, W.eraseIdx r2.toNat, ts ++ [(decide (r4 = 0), W[r2.toNat])], xs ++ [.ref T'], rfl, fun b o nb e => ?_, ?_, kT _ _ nlt.symm hw4, upd_same, (hts4.kp kT ht4).snoc ⟨hW7 _ (List.getElem_mem kW), T', rfl, SqT.of (kT _ _ nTt upd_same)⟩, ?_, ?_, pm.nodup_iff.mpr hnd, fun k hk => hW7 k (List.mem_of_mem_eraseIdx hk), fun t h' => ?_⟩
      · exact kT _ _ (fun w => by rw [w, hlt0] at e; cases e) (same_upd hT' _ _ (k4 _ _ nb (sz _ _ (kk3 _ _ nb e))))
      · exact (p4.same (same_upd hT')).kp kT npt
      · rw [List.length_eraseIdx_of_lt kW]; omega
      · rw [List.length_append, hT] <;> rfl
      · rcases List.mem_append.mp h' with h' | h'
        · exact hT7 t h'
        · rw [List.mem_singleton] at h'
          rw [h']
          exact hW7 _ (List.getElem_mem kW)
    · rintro σ H' ⟨v4, v5, W, ts, xs, rfl, kk, pp, hw, ht, hts, hW, hT, hnd, hW7, hT7⟩
      exact ⟨_, rfl, q _ lt xs ts kk pp hlt0 ht hts ⟨(List.nodup_append.mp hnd).2.1, hT7⟩ (by omega)⟩
theorem ok_Lahead {f : Addr} {fd : FuncData} (F : Fun K "_law_ahead" "_law_ahead" s_Lahead f fd) (T : Txt w K mg C_Rule A_WORDS A_OTHER_SIDE)  :
    FnOk P w K mg base CX0 1 f fd ["_law_one", "_law_two"] (sp_Lahead K) := by
  refine F.ok sc_Lahead (fun vs H Q E h => ?_) (fun cdv A outer s H vs Q E hr h => ?_)
  · obtain ⟨a, b, n, m, rfl, _⟩ := h
    rfl
  · obtain ⟨a, b, n, m, rfl, ha, hb, hl, hz, q⟩ := h
    refine ⟨_, (pss_cons (ps_for PassesOwn.never rfl (pi_range1 (by rfl) T.n_range (pa_cons (pe_callB call_len_seq (by rfl) T.n_len PySem.boot_len (pa_cons (pv 0) pa_nil)) pa_nil)) (pg_name (i := 2) sc_Lahead.nd rfl (Or.inl rfl))
        (pss_one (ps_if (pt_cmpR op_ne (pe_ix ix_list (pv 0) (pv 2) (fun _ _ => rfl)) (pe_ix ix_list (pv 1) (pv 2) (fun _ _ => rfl)) (nomark _)) (pss_one (ps_ret (pe_cmpR op_lt (pe_ix ix_list (pv 0) (pv 2) (fun _ _ => rfl)) (pe_ix ix_list (pv 1) (pv 2) (fun _ _ => rfl)) (nomark _)))) pss_nil)))
      (pss_one (ps_ret pe_bl))), ?_⟩
    refine ⟨_, rfl, a, _, rfl, .inl ha, _, rfl, by rw [List.length_map]; omega, by rw [List.length_map]; omega, for_range (lo := 0) (n := (((n.map V.int).length : Nat) : Int).toNat) (fun i σ H' => H' = H ∧ (∃ v : Option V, σ = [some (.ref a), some (.ref b), v]) ∧ HT.lexLt (n.drop i) (m.drop i) = HT.lexLt n m) ⟨rfl, ⟨none, rfl⟩, rfl⟩ ?_ ?_⟩
    · rintro i σ H' hi ⟨rfl, ⟨v, rfl⟩, e⟩
      have i1 : i < n.length := by simpa using hi
      have i2 : i < m.length := by omega
      have ex0 : (n.map V.int)[i]? = some (V.int n[i]) := by rw [List.getElem?_map, List.getElem?_eq_getElem i1] <;> rfl
      have ey0 : (m.map V.int)[i]? = some (V.int m[i]) := by rw [List.getElem?_map, List.getElem?_eq_getElem i2] <;> rfl
      have ex := atI_nat ex0
      have ey := atI_nat ey0
      rw [show ((i : Nat) : Int) = 0 + ((i : Nat) : Int) by omega] at ex ey
      rw [List.drop_eq_getElem_cons i1, List.drop_eq_getElem_cons i2, HT.lexLt_cons] at e
      refine ⟨_, rfl, _, rfl, a, _, _, _, rfl, rfl, ha, ex, _, rfl, _, rfl, b, _, _, _, rfl, rfl, hb, ey, rfl, _, rfl, ?_⟩
      refine ite2 (fun hc => ?_) (fun hc => ?_)
      · have hne : ¬ n[i] = m[i] := fun z => by rw [z] at hc; simp at hc
        rw [if_neg hne] at e
        refine ⟨_, rfl, _, rfl, a, _, _, _, rfl, rfl, ha, ex, _, rfl, _, rfl, b, _, _, _, rfl, rfl, hb, ey, _, _, rfl, rfl, ?_⟩
        rw [← e] at q
        exact q
      · have he : n[i] = m[i] := by
          simp at hc
          exact hc
        rw [if_pos he] at e
        exact ⟨rfl, ⟨_, rfl⟩, e⟩
    · rintro σ H' ⟨rfl, ⟨v, rfl⟩, e⟩
      rw [show (((n.map V.int).length : Nat) : Int).toNat = n.length by simp] at e
      rw [List.drop_length, hl, List.drop_length, HT.lexLt_nil_nil] at e
      rw [← e] at q
      exact q
theorem ok_Lorder {f : Addr} {fd : FuncData} (F : Fun K "_law_order" "_law_order" s_Lorder f fd) (T : Txt w K mg C_Rule A_WORDS A_OTHER_SIDE) (c_Lkey : Cal CX0 P w K mg base 2 "_law_key" (sp_Lkey K)) (c_Lahead : Cal CX0 P w K mg base 1 "_law_ahead" (sp_Lahead K)) :
    FnOk P w K mg base CX0 3 f fd ["_law_terms_here", "_law_cars_here"] (sp_Lorder K) := by
  refine F.ok sc_Lorder (fun vs H Q E h => ?_) (fun cdv A outer s H vs Q E hr h => ?_)
  · obtain ⟨tl, cl, xs, ys, ts, cs, rfl, _⟩ := h
    rfl
  · obtain ⟨tl, cl, xs, ys, ts, cs, rfl, htl, hts, hz, hcl, hcs, hcz, q⟩ := h
    refine ⟨_, (pss_cons (ps_setLc (i := 2) (own := [("_law_car_here", 6)]) (g := (gName 6)) (tt := tYes) rfl sc_Lorder.nd rfl rfl (sw_true rfl rfl rfl (by decide +kernel)) (pi_list (pv 1)) (blkOk_by (own := [("_law_car_here", 6)]) (N := ["_law_terms_here", "_law_cars_here", "_law_keys", "_law_order_here", "_law_k", "_law_at", "_law_car_here"]) (sc := defScope s_Lorder) (by decide +kernel)) (fun _ _ _ _ _ => (pg_name (i := 6) sc_Lorder.nd rfl (Or.inl rfl))) (fun _ _ _ _ _ => pts_nil) (fun _ _ _ _ _ => (pc_c c_Lkey hr (by decide) rfl pass0 (pa_cons (pv 0) (pa_cons (pv 6) pa_nil)))))
      (pss_cons (ps_set (i := 3) sc_Lorder.nd rfl (Or.inl rfl) (pe_lst pa_nil))
      (pss_cons (ps_for PassesOwn.never rfl (pi_range1 (by rfl) T.n_range (pa_cons (pe_callB call_len_seq (by rfl) T.n_len PySem.boot_len (pa_cons (pv 1) pa_nil)) pa_nil)) (pg_name (i := 4) sc_Lorder.nd rfl (Or.inl rfl))
        (pss_cons (ps_set (i := 5) sc_Lorder.nd rfl (Or.inl rfl) pe_int)
      (pss_cons (ps_while PassesOwn.never (PW.pt (pw_and (pt_cmpR op_lt (pv 5) (pe_callB call_len_seq (by rfl) T.n_len PySem.boot_len (pa_cons (pv 3) pa_nil)) (nomark _)) (pw_and1 (pt_not (pt_val (pc_c c_Lahead hr (by decide) rfl pass0 (pa_cons (pe_ix ix_list (pv 2) (pv 4) (fun _ _ => rfl)) (pa_cons (pe_ix ix_list (pv 2) (pe_ix ix_list (pv 3) (pv 5) (fun _ _ => rfl)) (fun _ _ => rfl)) pa_nil)))))))) (pss_one (ps_set (i := 5) sc_Lorder.nd rfl (Or.inl rfl) (pe_op op_add (pv 5) pe_int))))
      (pss_one (ps_expr (pe_bm PySem.F.plainAttrs_list PySem.F.slot_list_insert PySem.F.type_list_insert mt_insert (pv 3) (pa_cons (pv 5) (pa_cons (pv 4) pa_nil))))))))
      (pss_one (ps_ret (pv 3)))))), ?_⟩
    have hlen := hcs.len
    have key : ∀ i c, cs[i]? = some c → kcs ts cs i = kc ts c := fun i c h => kcs_at h
    refine ⟨_, rfl, cl, rfl, ⟨_, hcl⟩, fun D hD => lc_list (K := K) (a := cl) (xs := ys) (fun i H' => Same H H' ∧ ∃ zs, H' D = some (.lst zs) ∧ Al (fun x k => LKeyV K H' x k ∧ x ≠ .ref D) zs ((cs.take i).map (kc ts)))
      ⟨same_upd hD, [], upd_same, .nil⟩ (fun i H' _ ⟨s1, _⟩ => Same.seq s1 hcl) ?_ ?_⟩
    · rintro i x H' hx ⟨s1, zs, hD1, hk1⟩
      obtain ⟨c, hc, pc, rfl, hpc⟩ := hcs.at hx
      have hi : i < cs.length := (List.getElem?_eq_some_iff.mp hc).1
      refine ⟨rfl, tyes ?_⟩
      refine ⟨_, rfl, _, rfl, tl, pc, xs, ts, _, _, _, _, rfl, Same.seq s1 htl, hts.same s1, hz, sqt_same hpc s1, fun H2 kp s2 hkn hkp => ?_⟩
      have hD2 := s2 _ _ hD1
      have hzl : zs.length = i := by rw [hk1.len, List.length_map, List.length_take]; omega
      have nkD : kp ≠ D := fun w => by rw [w, hD1] at hkn; cases hkn
      refine ⟨zs, hD2, small1000 (by omega), fun b o e => ?_, _, upd_same, ?_⟩
      · rw [upd_ne (ne_of_none e hD)]
        exact s2 _ _ (s1 _ _ e)
      · rw [← take_snoc hc, List.map_append]
        refine (Al.mono (fun x k ⟨h1, h2⟩ => ⟨(h1.same s2).kp (ys := zs) Kp.upd (fun p ep w => h2 (by rw [ep, w])), h2⟩) hk1).snoc ⟨⟨kp, rfl, ?_⟩, fun w => nkD (V.ref.inj w)⟩
        rw [kc_map]
        exact SqL.of (by rw [upd_ne nkD]; exact hkp)
    · rintro H1 ⟨s1, zs, hD1, hk1⟩
      rw [hlen, List.take_length] at hk1
      have hk : LKeys K H1 zs (cs.map (kc ts)) := Al.mono (fun x k h => h.1) hk1
      have hcl1 := Same.seq s1 hcl
      refine ⟨Nat.zero_le _, fun Do hDo0 => ?_⟩
      have hDn : H1 Do = none := hDo0
      have s2' : Same H1 (upd H1 Do (.lst [])) := same_upd hDo0
      refine ⟨_, rfl, cl, _, rfl, .inl (Same.seq s2' hcl1), _, rfl, by omega, by omega, for_range (lo := 0) (n := ((ys.length : Nat) : Int).toNat) (fun i σ H' => ∃ v4 v5 v6 : Option V, σ = [some (.ref tl), some (.ref cl), some (.ref D), some (.ref Do), v4, v5, v6] ∧ Same H1 H' ∧ H' Do = some (.lst (ixs (ordN (kcs ts cs) i))))
        ⟨_, _, _, rfl, s2', upd_same⟩ ?_ ?_⟩
      · rintro i σ H' hi ⟨v4, v5, v6, rfl, s2, hDo⟩
        have hi' : i < cs.length := by omega
        have hkl : ((ordN (kcs ts cs) i).map (kcs ts cs)).length = i := by rw [List.length_map, ordN_len]
        have hD2 := s2 _ _ hD1
        have ci : cs[i]? = some cs[i] := List.getElem?_eq_getElem hi'
        have hk2 := lkeysS hk s2
        obtain ⟨xk, hxk, pk, rfl, hpk⟩ := hk2.at' (i := i) (y := kc ts cs[i]) (by rw [List.getElem?_map, ci] <;> rfl)
        have ekey := key i _ ci
        refine ⟨fun m σ H'' => H'' = H' ∧ ∃ a : Nat, σ = [some (.ref tl), some (.ref cl), some (.ref D), some (.ref Do), some (.int (0 + ((i : Nat) : Int))), some (.int (a : Nat)), v6] ∧ m = i - a ∧ a ≤ i ∧ (∀ j k, j < a → ((ordN (kcs ts cs) i).map (kcs ts cs))[j]? = some k → HT.lexLt (kcs ts cs i) k = false),
          ⟨_, rfl, 0, rfl, rfl, Nat.zero_le _, fun j k hj => by omega⟩, ?_⟩
        rintro m σ H'' ⟨rfl, a, rfl, rfl, ha, h1⟩
        refine ⟨_, rfl, _, rfl, Do, _, rfl, .inl (SqL.of hDo), _, _, rfl, rfl, _, rfl, ?_⟩
        refine ite2 (fun hc => ?_) (fun hc => ?_)
        · have hc' := of_decide_eq_true hc
          rw [ixs_len, ordN_len] at hc'
          have hlt : a < i := by omega
          obtain ⟨jo, hao⟩ : ∃ j, (ordN (kcs ts cs) i)[a]? = some j := ⟨_, List.getElem?_eq_getElem (by rw [ordN_len]; exact hlt)⟩
          have hax : (ixs (ordN (kcs ts cs) i))[a]? = some (.int ((jo : Nat) : Int)) := by
            show (List.map _ _)[a]? = _
            rw [List.getElem?_map, hao] <;> rfl
          have hlj := ordN_lt (kcs ts cs) i _ (List.mem_of_getElem? hao)
          have cj : cs[jo]? = some cs[jo] := List.getElem?_eq_getElem (by omega)
          obtain ⟨xj, hxj, pj, rfl, hpj⟩ := hk2.at' (i := jo) (y := kc ts cs[jo]) (by rw [List.getElem?_map, cj] <;> rfl)
          have hxk' := atI_nat hxk
          rw [show ((i : Nat) : Int) = 0 + ((i : Nat) : Int) by omega] at hxk'
          refine ⟨_, rfl, _, rfl, D, _, _, _, rfl, rfl, SqL.of hD2, hxk', _, rfl, _, rfl, _, rfl, Do, _, _, _, rfl, rfl, SqL.of hDo, atI_nat hax, D, _, _, _, rfl, rfl, SqL.of hD2, atI_nat hxj, pk, pj, _, _, rfl, hpk, hpj, by unfold kc; rw [List.length_map, List.length_map], by unfold kc; rw [List.length_map]; exact hz, ?_⟩
          rw [← key _ _ ci, ← key _ _ cj]
          have hka : ((ordN (kcs ts cs) i).map (kcs ts cs))[a]? = some (kcs ts cs jo) := by rw [List.getElem?_map, hao] <;> rfl
          cases hb : HT.lexLt (kcs ts cs i) (kcs ts cs jo) with
          | false =>
            refine ⟨_, rfl, ?_⟩
            refine iteT ⟨_, fun σ' H'' h => h, ?_⟩
            exact ⟨_, rfl, _, _, rfl, rfl, _, by omega, rfl, a + 1, rfl, rfl, by omega, fun j k hj hk' => by
              by_cases e : j = a
              · subst e
                rw [hka] at hk'
                cases hk'
                exact hb
              · exact h1 j k (by omega) hk'⟩
          | true =>
            have ep : plc (kcs ts cs i) ((ordN (kcs ts cs) i).map (kcs ts cs)) = a := plc_eq (by omega) h1 fun k hk' => by rw [hka] at hk'; cases hk'; exact hb
            refine ⟨_, rfl, ?_⟩
            refine iteF ?_
            refine ⟨_, rfl, .inl ⟨rfl, _, SqL.of hDo⟩, _, rfl, _, rfl, Do, _, _, _, rfl, rfl, hDo, small1000 (by rw [ixs_len, ordN_len]; omega), by omega, by omega, ?_⟩
            refine ⟨_, _, _, rfl, fun b o e => ?_, ?_⟩
            · rw [upd_ne (ne_of_none e hDn)]
              exact s2 _ _ e
            · rw [upd_same]
              show some (HO.lst (insA (ixs _) _ _)) = some (HO.lst (ixs (insA _ _ _)))
              rw [ixs_ins, ep, Int.zero_add]
              rfl
        · have hc' : ¬ ((a : Nat) : Int) < (((ixs (ordN (kcs ts cs) i)).length : Nat) : Int) := fun z => hc (decide_eq_true z)
          rw [ixs_len, ordN_len] at hc'
          have ep : plc (kcs ts cs i) ((ordN (kcs ts cs) i).map (kcs ts cs)) = a := plc_eq (by omega) h1 fun k hk' => by
            have := (List.getElem?_eq_some_iff.mp hk').1
            omega
          refine ⟨_, rfl, .inl ⟨rfl, _, SqL.of hDo⟩, _, rfl, _, rfl, Do, _, _, _, rfl, rfl, hDo, small1000 (by rw [ixs_len, ordN_len]; omega), by omega, by omega, ?_⟩
          refine ⟨_, _, _, rfl, fun b o e => ?_, ?_⟩
          · rw [upd_ne (ne_of_none e hDn)]
            exact s2 _ _ e
          · rw [upd_same]
            show some (HO.lst (insA (ixs _) _ _)) = some (HO.lst (ixs (insA _ _ _)))
            rw [ixs_ins, ep, Int.zero_add]
            rfl
      · rintro σ H' ⟨v4, v5, v6, rfl, s2, hDo⟩
        refine ⟨_, rfl, q _ Do (s1.trans s2) ?_ ?_⟩
        · cases e : H Do with
          | none => rfl
          | some o =>
            rw [s1 _ _ e] at hDn
            cases hDn
        · rw [hDo, ← hlen]
          rfl
theorem ok_Lcars {f : Addr} {fd : FuncData} (F : Fun K "_law_cars" "_law_cars" s_Lcars f fd) (T : Txt w K mg C_Rule A_WORDS A_OTHER_SIDE) (c_Lcar : Cal CX0 P w K mg base 2 "_law_car" (sp_Lcar K)) (c_Ltake : Cal CX0 P w K mg base 1 "_law_take" sp_Ltake) :
    FnOk P w K mg base CX0 3 f fd ["_law_pool_here", "_law_size", "_law_alike"] (sp_Lcars K) := by
  refine F.ok sc_Lcars (fun vs H Q E h => ?_) (fun cdv A outer s H vs Q E hr h => ?_)
  · obtain ⟨p, n, b, rfl, _⟩ := h
    rfl
  · obtain ⟨p, n, b, rfl, hn, hp, q⟩ := h
    refine ⟨_, (pss_cons (ps_if (pt_not (pt_val (pv 2))) (pss_one (ps_ret (pe_lc (own := [("_law_k", 5)]) (g := (gName 5)) (tt := tYes) rfl sc_Lcars.nd (pi_range1 (by rfl) T.n_range (pa_cons (pv 1) pa_nil)) (blkOk_by (own := [("_law_k", 5)]) (N := ["_law_pool_here", "_law_size", "_law_alike", "_law_one", "_law_two", "_law_k"]) (sc := defScope s_Lcars) (by decide +kernel)) (fun _ _ _ _ _ => (pg_name (i := 5) sc_Lcars.nd rfl (Or.inl rfl))) (fun _ _ _ _ _ => pts_nil) (fun _ _ _ _ _ => (pc_c c_Lcar hr (by decide) rfl pass0 (pa_cons (pv 0) (pa_cons pe_int pa_nil))))))) pss_nil)
      (pss_cons (ps_set (i := 3) sc_Lcars.nd rfl (Or.inr rfl) (pc_c c_Lcar hr (by decide) rfl pass0 (pa_cons (pv 0) (pa_cons pe_int pa_nil))))
      (pss_cons (ps_set (i := 4) sc_Lcars.nd rfl (Or.inr rfl) (pc_c c_Lcar hr (by decide) rfl pass0 (pa_cons (pv 0) (pa_cons pe_int pa_nil))))
      (pss_one (ps_ret (pe_lc (own := [("_law_k", 5)]) (g := (gName 5)) (tt := tYes) rfl sc_Lcars.nd (pi_range1 (by rfl) T.n_range (pa_cons (pv 1) pa_nil)) (blkOk_by (own := [("_law_k", 5)]) (N := ["_law_pool_here", "_law_size", "_law_alike", "_law_one", "_law_two", "_law_k"]) (sc := defScope s_Lcars) (by decide +kernel)) (fun _ _ _ _ _ => (pg_name (i := 5) sc_Lcars.nd rfl (Or.inl rfl))) (fun _ _ _ _ _ => pts_nil) (fun _ _ _ _ _ => (pe_ix (show IxR _ (rIxL K) from ix_list) (pe_lst (pa_cons (pv 3) (pa_cons (pv 4) pa_nil))) (pc_c c_Ltake hr (by decide) rfl pass0 (pa_cons (pv 0) (pa_cons pe_int pa_nil))) (fun _ _ => rfl))))))))), ?_⟩
    have step : ∀ (D : Addr) (H' H2 : Hp) (xs : List V) (cs : List Car) (a : Addr) (c : Car), H D = none → D ≠ p → Kp p H H' → Kp p H' H2 → PoolAt H' p → PoolAt H2 p → H' D = some (.lst xs) → Cars K H' xs cs → CrV K H2 (.ref a) c → xs.length < 1000 →
        ∃ acc, H2 D = some (.lst acc) ∧ acc.length < sizeLine ∧ Kp p H (upd H2 D (.lst (acc ++ [.ref a]))) ∧ PoolAt (upd H2 D (.lst (acc ++ [.ref a]))) p ∧ ∃ xs' cs', (upd H2 D (.lst (acc ++ [.ref a]))) D = some (.lst xs') ∧ Cars K (upd H2 D (.lst (acc ++ [.ref a]))) xs' cs' ∧ cs' = cs ++ [c] := by
      intro D H' H2 xs cs a c hD nD k1 k2 p1 p2 hD1 hc hr hl
      obtain ⟨x, y, z, ep⟩ := id p1
      have hD2 := k2 _ _ nD hD1
      refine ⟨xs, hD2, small1000 (by omega), fun b o nb e => ?_, p2.kp Kp.upd nD.symm, _, _, upd_same, (Al.mono (fun x c h => (CrV.kp (CrV.kp h k2 ep) Kp.upd hD2)) hc).snoc (CrV.kp hr Kp.upd hD2), rfl⟩
      rw [upd_ne (ne_of_none e hD)]
      exact k2 _ _ nb (k1 _ _ nb e)
    have key : ∀ (D : Addr) (H1 : Hp), Kp p H H1 → PoolAt H1 p → H1 D = none → H D = none ∧ D ≠ p := by
      intro D H1 k1 p1 hD
      have nD : D ≠ p := fun w => by
        obtain ⟨x, y, z, ep⟩ := p1
        rw [← w, hD] at ep
        cases ep
      refine ⟨?_, nD⟩
      cases e : H D with
      | none => rfl
      | some o =>
        rw [k1 _ _ nD e] at hD
        cases hD
    refine ⟨_, rfl, b, rfl, ?_⟩
    cases b with
    | false =>
      refine iteT ?_
      refine ⟨_, rfl, _, rfl, by omega, by omega, fun D hD => lc_range (lo := 0) (n := ((n : Nat) : Int).toNat) (fun i H' => Kp p H H' ∧ PoolAt H' p ∧ ∃ xs cs, H' D = some (.lst xs) ∧ Cars K H' xs cs ∧ cs.length = i)
        ⟨fun b o _ e => same_upd hD b o e, hp.same (same_upd hD), [], [], upd_same, .nil, rfl⟩ ?_ ?_⟩
      · rintro i H' hi ⟨k1, p1, xs, cs, hD1, hc, hl⟩
        obtain ⟨hD0, nD⟩ := key D H Kp.refl hp hD
        refine ⟨rfl, tyes ?_⟩
        refine ⟨_, rfl, p, 12, rfl, by decide, by decide, p1, fun H2 a s1 n1 l1 w1 k2 p2 ha0 ha ok => ?_⟩
        obtain ⟨acc, e1, e2, e3, e4, xs', cs', e5, e6, e7⟩ := step D H' H2 xs cs a (s1, n1, l1, w1) hD0 nD k1 k2 p1 p2 hD1 hc ⟨a, rfl, SqT.of ha⟩ (by rw [hc.len]; omega)
        exact ⟨acc, e1, e2, e3, e4, xs', cs', e5, e6, by rw [e7, List.length_append, hl] <;> rfl⟩
      · rintro H' ⟨k1, p1, xs, cs, hD1, hc, hl⟩
        exact q _ D xs cs k1 p1 (key D H Kp.refl hp hD).1 hD1 hc (by omega)
    | true =>
      refine iteF ?_
      refine ⟨_, rfl, p, 12, rfl, by decide, by decide, hp, fun H1 a s1 n1 l1 w1 k1 p1 ha0 ha ok => ?_⟩
      refine ⟨_, rfl, p, 12, rfl, by decide, by decide, p1, fun H2 a2 s2 n2 l2 w2 k2 p2 hb0 hb ok2 => ?_⟩
      obtain ⟨nap, na2p⟩ : a ≠ p ∧ a2 ≠ p := by
        obtain ⟨x, y, z, ep⟩ := id hp
        obtain ⟨x', y', z', ep'⟩ := id p1
        exact ⟨fun w => (by rw [← w, ha0] at ep; cases ep), fun w => (by rw [← w, hb0] at ep'; cases ep')⟩
      have hA := k2 _ _ nap ha
      refine ⟨_, rfl, _, rfl, by omega, by omega, fun D hD => lc_range (lo := 0) (n := ((n : Nat) : Int).toNat) (fun i H' => Kp p H2 H' ∧ PoolAt H' p ∧ ∃ xs cs, H' D = some (.lst xs) ∧ Cars K H' xs cs ∧ cs.length = i)
        ⟨fun b o _ e => same_upd hD b o e, p2.same (same_upd hD), [], [], upd_same, .nil, rfl⟩ ?_ ?_⟩
      · rintro i H' hi ⟨k3, p3, xs, cs, hD1, hc, hl⟩
        obtain ⟨hD0, nD⟩ := key D H2 (k1.trans k2) p2 hD
        refine ⟨rfl, tyes ?_⟩
        refine ⟨_, rfl, _, rfl, (by show 2 ≤ sizeLine; decide), fun z hz => ?_⟩
        have sz : Same H' (upd H' z (.lst [.ref a, .ref a2])) := same_upd hz
        have npz : p ≠ z := fun w => by obtain ⟨x, y, zz, e⟩ := p3; rw [w, hz] at e; cases e
        refine ⟨_, rfl, p, 2, rfl, p3.same sz, by decide, by decide, fun H4 r4 k4 p4 c0 c1 => ?_⟩
        have hz4 := k4 z _ npz.symm upd_same
        have k5 : Kp p H' H4 := fun b o nb e => k4 _ _ nb (sz _ _ e)
        have hA4 := k5 _ _ nap (k3 _ _ nap hA)
        have hB4 := k5 _ _ na2p (k3 _ _ na2p hb)
        have fin : ∀ (at_ : Addr) (c : Car), CrV K H4 (.ref at_) c → ∃ acc, H4 D = some (.lst acc) ∧ acc.length < sizeLine ∧ Kp p H2 (upd H4 D (.lst (acc ++ [.ref at_]))) ∧ PoolAt (upd H4 D (.lst (acc ++ [.ref at_]))) p ∧ ∃ xs cs, (upd H4 D (.lst (acc ++ [.ref at_]))) D = some (.lst xs) ∧ Cars K (upd H4 D (.lst (acc ++ [.ref at_]))) xs cs ∧ cs.length = i + 1 := by
          intro at_ c hr
          obtain ⟨acc, e1, e2, e3, e4, xs', cs', e5, e6, e7⟩ := step D H' H4 xs cs at_ c hD0 nD ((k1.trans k2).trans k3) k5 p3 p4 hD1 hc hr (by rw [hc.len]; omega)
          refine ⟨acc, e1, e2, fun b o nb e => ?_, e4, xs', cs', e5, e6, by rw [e7, List.length_append, hl] <;> rfl⟩
          rw [upd_ne (ne_of_none e hD)]
          exact k5 _ _ nb (k3 _ _ nb e)
        have hr : r4 = 0 ∨ r4 = 1 := by omega
        rcases hr with e | e
        · subst e
          exact ⟨z, _, _, _, rfl, rfl, SqL.of hz4, rfl, fin a (s1, n1, l1, w1) ⟨a, rfl, SqT.of hA4⟩⟩
        · subst e
          exact ⟨z, _, _, _, rfl, rfl, SqL.of hz4, rfl, fin a2 (s2, n2, l2, w2) ⟨a2, rfl, SqT.of hB4⟩⟩
      · rintro H' ⟨k3, p3, xs, cs, hD1, hc, hl⟩
        exact q _ D xs cs ((k1.trans k2).trans k3) p3 (key D H2 (k1.trans k2) p2 hD).1 hD1 hc (by omega)
theorem inV_ix {k : Nat} {l : List Nat} : inV (.int (k : Nat)) (ixs l) = decide (k ∈ l) := by
  unfold inV ixs
  rw [List.any_map, Bool.eq_iff_iff, List.any_eq_true, decide_eq_true_iff]
  constructor
  · rintro ⟨x, hx, e⟩
    have e2 : ((x : Nat) : Int) = ((k : Nat) : Int) := eq_of_beq (show (((x : Nat) : Int) == ((k : Nat) : Int)) = true from e)
    have : x = k := by omega
    rw [← this]
    exact hx
  · intro h
    exact ⟨k, h, by show (((k : Nat) : Int) == ((k : Nat) : Int)) = true; exact beq_self_eq_true _⟩
theorem flat_ixs (l : List Nat) : (ixs l).all flatV = true := by
  unfold ixs
  rw [List.all_map, List.all_eq_true]
  intro j _
  rfl
theorem same_ixs {K : PySem.W.Frag} {H : Hp} {a b : Addr} {l : List Nat} (ha : SqL K H a (ixs l)) (hb : SqL K H b (ixs l)) (hz : l.length ≤ 1000) : SameV K H 2 (.ref a) (.ref b) :=
  .inr (.inl ⟨a, b, _, _, rfl, rfl, ha, hb, by rw [ixs_len, sizeLine_eq]; omega, Pairs.refl fun x hx => by
    obtain ⟨t, _, e⟩ := List.mem_map.mp hx
    subst e
    exact SameV.flat rfl⟩)
theorem same_cars {K : PySem.W.Frag} {H : Hp} {a b : Addr} {xs : List V} {cs : List Car} (ha : SqL K H a xs) (hb : SqL K H b xs) (hc : Cars K H xs cs) (hz : cs.length ≤ 1000) : SameV K H 2 (.ref a) (.ref b) :=
  .inr (.inl ⟨a, b, _, _, rfl, rfl, ha, hb, by rw [hc.len, sizeLine_eq]; omega, Pairs.refl fun x hx => by
    obtain ⟨i, hi⟩ := List.mem_iff_getElem?.mp hx
    obtain ⟨c, _, p, rfl, hp⟩ := hc.at hi
    exact .inr (.inr ⟨p, p, _, _, rfl, rfl, hp, hp, by rw [sizeLine_eq]; show 4 ≤ 16777216; decide, Pairs.refl fun y hy => by
      simp only [List.mem_cons, List.not_mem_nil, or_false] at hy
      rcases hy with rfl | rfl | rfl | rfl <;> exact ⟨rfl, rfl⟩⟩)⟩)
theorem same_app {H2 H4 : Hp} {t : Addr} {o : HO} (s : Same H2 H4) (n : H2 t = none) : Same H2 (upd H4 t o) := fun b u e => by
  rw [upd_ne (ne_of_none e n)]
  exact s _ _ e
theorem none_of {H H' : Hp} {t : Addr} (s : Same H H') (n : H' t = none) : H t = none := by
  cases e : H t with
  | none => rfl
  | some o =>
    rw [s _ _ e] at n
    cases n
theorem ok_Lserves {f : Addr} {fd : FuncData} (F : Fun K "_law_serves" "_law_serves" s_Lserves f fd) (T : Txt w K mg C_Rule A_WORDS A_OTHER_SIDE) (c_Lorder : Cal CX0 P w K mg base 3 "_law_order" (sp_Lorder K)) (c_Rule_order : Met CX0 P w K mg base 3 C_Rule "order" (sp_order K C_Rule)) (c_Lsame : Cal CX0 P w K mg base 4 "_law_same" (sp_Lsame K 3)) (c_Rule_serve : Met CX0 P w K mg base 4 C_Rule "serve" (sp_serve K C_Rule)) :
    FnOk P w K mg base CX0 5 f fd ["_law_rule", "_law_terms_here", "_law_cars_here", "_law_widths"] (sp_Lserves K C_Rule) := by
  refine F.ok sc_Lserves (fun vs H Q E h => ?_) (fun cdv A outer s H vs Q E hr h => ?_)
  · obtain ⟨r, tl, cl, wl, xs, ys, ts, cs, ws, rfl, _⟩ := h
    rfl
  · obtain ⟨r, tl, cl, wl, xs, ys, ts, cs, ws, rfl, hr0, hz, htl, hts, hcl, hcs, hcz, hwl, hws, q⟩ := h
    refine ⟨_, (pss_cons (ps_set (i := 4) sc_Lserves.nd rfl (Or.inl rfl) (pe_callTy call_list_of (by rfl) T.n_list (by decide +kernel) (pa_cons (pv 2) pa_nil)))
      (pss_cons (ps_set (i := 5) sc_Lserves.nd rfl (Or.inl rfl) (pc_c c_Lorder hr (by decide) rfl pass0 (pa_cons (pv 1) (pa_cons (pv 2) pa_nil))))
      (pss_cons (ps_set (i := 6) sc_Lserves.nd rfl (Or.inl rfl) (pc_mt c_Rule_order hr (by decide) pass0 (pv 0) (pa_cons (pv 4) pa_nil)))
      (pss_cons (ps_if (PW.pt (pw_or (pt_not (pt_val (pc_c c_Lsame hr (by decide) rfl pass0 (pa_cons (pv 6) (pa_cons (pv 5) pa_nil))))) (pw_or1 (pt_not (pt_val (pc_c c_Lsame hr (by decide) rfl pass0 (pa_cons (pc_mt c_Rule_order hr (by decide) pass0 (pv 0) (pa_cons (pe_callTy call_tuple_of (by rfl) T.n_tuple (by decide +kernel) (pa_cons (pv 2) pa_nil)) pa_nil)) (pa_cons (pv 5) pa_nil)))))))) (pss_one (ps_ret pe_bl)) pss_nil)
      (pss_cons (ps_expr (pe_bm PySem.F.plainAttrs_list PySem.F.slot_list_append PySem.F.type_list_append mt_append (pv 6) (pa_cons pe_int pa_nil)))
      (pss_cons (ps_if (pt_not (pt_val (pc_c c_Lsame hr (by decide) rfl pass0 (pa_cons (pc_mt c_Rule_order hr (by decide) pass0 (pv 0) (pa_cons (pv 4) pa_nil)) (pa_cons (pv 5) pa_nil))))) (pss_one (ps_ret pe_bl)) pss_nil)
      (pss_cons (ps_for PassesOwn.never rfl (pi_list (pv 3)) (pg_name (i := 7) sc_Lserves.nd rfl (Or.inl rfl))
        (pss_cons (ps_set (i := 8) sc_Lserves.nd rfl (Or.inr rfl) (pe_slice sl_list (pv 5) po_none (po_some (pv 7))))
      (pss_cons (ps_setLc (i := 9) (own := [("_law_k", 10)]) (g := (gName 10)) rfl sc_Lserves.nd rfl rfl (sw_true rfl rfl rfl (by decide +kernel)) (pi_range1 (by rfl) T.n_range (pa_cons (pe_callB call_len_seq (by rfl) T.n_len PySem.boot_len (pa_cons (pv 2) pa_nil)) pa_nil)) (blkOk_by (own := [("_law_k", 10)]) (N := ["_law_rule", "_law_terms_here", "_law_cars_here", "_law_widths", "_law_given", "_law_due", "_law_told", "_law_width", "_law_first", "_law_served", "_law_k"]) (sc := defScope s_Lserves) (by decide +kernel)) (fun _ _ _ _ _ => (pg_name (i := 10) sc_Lserves.nd rfl (Or.inl rfl))) (fun _ _ _ _ _ => (pts_one (pt_cmpR (show OpR _ (compareOp .In) (rIn K false) from op_in_seq) (pv 10) (pv 8) (by rfl)))) (fun _ _ _ _ _ => (pv 10)))
      (pss_cons (ps_set (i := 6) sc_Lserves.nd rfl (Or.inl rfl) (pc_mt c_Rule_serve hr (by decide) pass0 (pv 0) (pa_cons (pv 4) (pa_cons (pv 7) pa_nil))))
      (pss_cons (ps_if (PW.pt (pw_or (pt_not (pt_val (pc_c c_Lsame hr (by decide) rfl pass0 (pa_cons (pv 6) (pa_cons (pv 9) pa_nil))))) (pw_or1 (pt_not (pt_val (pc_c c_Lsame hr (by decide) rfl pass0 (pa_cons (pc_mt c_Rule_serve hr (by decide) pass0 (pv 0) (pa_cons (pe_callTy call_tuple_of (by rfl) T.n_tuple (by decide +kernel) (pa_cons (pv 2) pa_nil)) (pa_cons (pv 7) pa_nil))) (pa_cons (pv 9) pa_nil)))))))) (pss_one (ps_ret pe_bl)) pss_nil)
      (pss_cons (ps_expr (pe_bm PySem.F.plainAttrs_list PySem.F.slot_list_append PySem.F.type_list_append mt_append (pv 6) (pa_cons pe_int pa_nil)))
      (pss_one (ps_if (pt_not (pt_val (pc_c c_Lsame hr (by decide) rfl pass0 (pa_cons (pc_mt c_Rule_serve hr (by decide) pass0 (pv 0) (pa_cons (pv 4) (pa_cons (pv 7) pa_nil))) (pa_cons (pv 9) pa_nil))))) (pss_one (ps_ret pe_bl)) pss_nil))))))))
      (pss_one (ps_ret (pc_c c_Lsame hr (by decide) rfl pass0 (pa_cons (pv 4) (pa_cons (pv 2) pa_nil)))))))))))), ?_⟩
    have hlen := hcs.len
    have hol := ordN_len (kcs ts cs) cs.length
    refine ⟨_, rfl, cl, ys, rfl, .inl hcl, fun g hg => ?_⟩
    have s1 := same_upd (o := .lst ys) hg
    refine ⟨_, rfl, _, rfl, tl, cl, xs, ys, ts, cs, rfl, Same.seq s1 htl, hts.same s1, by omega, Same.seq s1 hcl, carsS hcs s1, by omega, fun H2 dd s2' hdd0 hdd => ?_⟩
    have s2 := s1.trans s2'
    have hg2 := s2' _ _ upd_same
    -- what rule.order(x) answers, x a list or a tuple
    have rul : ∀ H', Same H2 H' → ∃ dx tp, H' r = some (.ins C_Rule dx (rlf tp)) := fun H' s => by
      obtain ⟨dx, tp, _, h1, _⟩ := hr0.same (s2.trans s)
      exact ⟨dx, tp, h1⟩
    have kpS : ∀ {t : Addr} {H3 H4 : Hp}, Same H2 H3 → H3 t = none → Kp t H3 H4 → Same H2 H4 := fun s n k b o e => k b o (ne_of_none (s _ _ e) n) (s _ _ e)
    obtain ⟨dx, tp, hra⟩ := rul H2 (Same.of _)
    refine ⟨_, rfl, r, dx, _, rfl, hra, rlf_no _ (by decide +kernel), _, rfl, r, g, false, ys, ts, cs, rfl, hr0.same s2, by omega, SqL.of hg2, carsS hcs s2, by omega, fun H3 t s3 ht0 ht => ?_⟩
    have hdd3 := s3 _ _ hdd
    refine ⟨_, rfl, _, rfl, _, _, rfl, same_ixs (SqL.of ht) (SqL.of hdd3) (by omega), true, rfl, iteF ?_⟩
    obtain ⟨dx, tp, hra⟩ := rul H3 s3
    refine ⟨_, rfl, r, dx, _, rfl, hra, rlf_no _ (by decide +kernel), _, rfl, cl, ys, rfl, .inl ⟨Same.seq (s2.trans s3) hcl, fun tc htc => ?_⟩⟩
    have s4' := s3.trans (same_upd (o := .tup ys) htc)
    refine ⟨r, tc, true, ys, ts, cs, rfl, hr0.same (s2.trans s4'), by omega, SqT.of upd_same, carsS hcs (s2.trans s4'), by omega, fun H4 t2 s4 ht20 ht2 => ?_⟩
    have u4 : Same H3 H4 := (same_upd (o := .tup ys) htc).trans s4
    have s4 := s4'.trans s4
    refine ⟨_, rfl, _, _, rfl, same_ixs (SqL.of ht2) (SqL.of (s4 _ _ hdd)) (by omega), true, rfl, iteF ?_⟩
    have ht4 := u4 _ _ ht
    refine ⟨_, rfl, .inl ⟨rfl, _, SqL.of ht4⟩, t, _, _, rfl, rfl, ht4, small1000 (by rw [ixs_len]; omega), ?_⟩
    have s5 := same_app (o := .lst (ixs (ordN (kcs ts cs) cs.length) ++ [.int 0])) s4 ht0
    obtain ⟨dx, tp, hra⟩ := rul _ s5
    refine ⟨_, rfl, r, dx, _, rfl, hra, rlf_no _ (by decide +kernel), _, rfl, r, g, false, ys, ts, cs, rfl, hr0.same (s2.trans s5), by omega, SqL.of (s5 _ _ hg2), carsS hcs (s2.trans s5), by omega, fun H6 t3 s6' ht30 ht3 => ?_⟩
    have s6 := s5.trans s6'
    refine ⟨_, rfl, _, _, rfl, same_ixs (SqL.of ht3) (SqL.of (s6 _ _ hdd)) (by omega), true, rfl, iteF ?_⟩
    refine ⟨_, rfl, wl, rfl, ⟨_, Same.seq (s2.trans s6) hwl⟩, for_list (K := K) (a := wl) (xs := ixs ws) (fun i σ H' => ∃ v6 v7 v8 v9 v10 : Option V, σ = [some (.ref r), some (.ref tl), some (.ref cl), some (.ref wl), some (.ref g), some (.ref dd), v6, v7, v8, v9, v10] ∧ Same H2 H')
      ⟨_, _, _, _, _, rfl, s6⟩ (fun i σ H' _ ⟨_, _, _, _, _, _, s⟩ => Same.seq (s2.trans s) hwl) ?_ ?_⟩
    · rintro i x σ H' hx ⟨v6, v7, v8, v9, v10, rfl, sA⟩
      obtain ⟨wn, hwn, rfl⟩ : ∃ wn : Nat, wn ∈ ws ∧ x = .int (wn : Nat) := by
        have h0 : (List.map (fun i : Nat => V.int (i : Nat)) ws)[i]? = some x := hx
        rw [List.getElem?_map] at h0
        cases e : ws[i]? with
        | none =>
          rw [e] at h0
          cases h0
        | some wn =>
          rw [e] at h0
          cases h0
          exact ⟨wn, List.mem_of_getElem? e, rfl⟩
      have hw1000 := hws wn hwn
      refine ⟨_, rfl, _, rfl, _, rfl, dd, _, rfl, SqL.of (sA _ _ hdd), fun f hf => ?_⟩
      rw [cut_take, ixs_take]
      have sB := sA.trans (same_upd (o := .lst (ixs ((ordN (kcs ts cs) cs.length).take wn))) hf)
      have hfB : (upd H' f (.lst (ixs ((ordN (kcs ts cs) cs.length).take wn)))) f = some (.lst (ixs ((ordN (kcs ts cs) cs.length).take wn))) := upd_same
      generalize upd H' f (.lst (ixs ((ordN (kcs ts cs) cs.length).take wn))) = HB at sB hfB ⊢
      refine ⟨_, rfl, cl, _, rfl, .inl (Same.seq (s2.trans sB) hcl), _, rfl, by omega, by omega, fun D hD => lc_range (lo := 0) (n := ((ys.length : Nat) : Int).toNat) (fun i H' => Same HB H' ∧ H' D = some (.lst (ixs ((List.range i).filter fun k => decide (k ∈ (ordN (kcs ts cs) cs.length).take wn)))))
        ⟨same_upd hD, upd_same⟩ ?_ ?_⟩
      · rintro i H' hi ⟨sC, hD4⟩
        have hi' : i < cs.length := by omega
        refine ⟨rfl, _, rfl, _, rfl, f, _, rfl, .inl (SqL.of (sC _ _ hfB)), rfl, flat_ixs _, _, rfl, ?_⟩
        rw [Int.zero_add, show (if false = true then !inV (.int (i : Nat)) (ixs ((ordN (kcs ts cs) cs.length).take wn)) else inV (.int (i : Nat)) (ixs ((ordN (kcs ts cs) cs.length).take wn))) = decide (i ∈ (ordN (kcs ts cs) cs.length).take wn) from inV_ix]
        refine ite2 (fun hc => ?_) (fun hc => ?_)
        · have hc' := of_decide_eq_true hc
          refine ⟨_, rfl, _, hD4, small1000 ?_, same_app sC hD, ?_⟩
          · rw [ixs_len]
            exact Nat.le_trans (List.length_filter_le ..) (by rw [List.length_range]; omega)
          · rw [upd_same, srvN_at, if_pos hc', ixs_app]
            rfl
        · have hc' : ¬ i ∈ (ordN (kcs ts cs) cs.length).take wn := fun z => hc (decide_eq_true z)
          refine ⟨sC, ?_⟩
          rw [srvN_at, if_neg hc', List.append_nil]
          exact hD4
      · rintro HC ⟨sC', hD4⟩
        have sC := sB.trans sC'
        have hD5 : HC D = some (.lst (ixs (srvN (kcs ts cs) cs.length wn))) := by
          rw [hD4, ← hlen]
          rfl
        have hsl : (srvN (kcs ts cs) cs.length wn).length ≤ 1000 := Nat.le_trans (List.length_filter_le ..) (by rw [List.length_range]; omega)
        obtain ⟨dx, tp, hra⟩ := rul _ sC
        refine ⟨_, rfl, r, dx, _, rfl, hra, rlf_no _ (by decide +kernel), _, rfl, _, rfl, r, g, false, ys, ts, cs, wn, rfl, hr0.same (s2.trans sC), by omega, SqL.of (sC _ _ hg2), carsS hcs (s2.trans sC), by omega, by omega, fun HD t sD' ht0 ht => ?_⟩
        have sD := sC.trans sD'
        have hDD := sD' _ _ hD5
        refine ⟨_, rfl, _, rfl, _, _, rfl, same_ixs (SqL.of ht) (SqL.of hDD) hsl, true, rfl, iteF ?_⟩
        obtain ⟨dx, tp, hra⟩ := rul _ sD
        refine ⟨_, rfl, r, dx, _, rfl, hra, rlf_no _ (by decide +kernel), _, rfl, cl, ys, rfl, .inl ⟨Same.seq (s2.trans sD) hcl, fun tc htc => ?_⟩⟩
        have uE := same_upd (o := .tup ys) htc
        have sE := sD.trans uE
        refine ⟨_, rfl, r, tc, true, ys, ts, cs, wn, rfl, hr0.same (s2.trans sE), by omega, SqT.of upd_same, carsS hcs (s2.trans sE), by omega, by omega, fun HF t2 sF' ht20 ht2 => ?_⟩
        have sF := sE.trans sF'
        refine ⟨_, rfl, _, _, rfl, same_ixs (SqL.of ht2) (SqL.of (sF' _ _ (uE _ _ hDD))) hsl, true, rfl, iteF ?_⟩
        have htF := sF' _ _ (uE _ _ ht)
        refine ⟨_, rfl, .inl ⟨rfl, _, SqL.of htF⟩, t, _, _, rfl, rfl, htF, small1000 (by rw [ixs_len]; exact hsl), ?_⟩
        have sCF : Same HC HF := (sD'.trans uE).trans sF'
        have sG' := same_app (o := .lst (ixs (srvN (kcs ts cs) cs.length wn) ++ [.int 0])) sCF ht0
        have sG := sC.trans sG'
        obtain ⟨dx, tp, hra⟩ := rul _ sG
        refine ⟨_, rfl, r, dx, _, rfl, hra, rlf_no _ (by decide +kernel), _, rfl, _, rfl, r, g, false, ys, ts, cs, wn, rfl, hr0.same (s2.trans sG), by omega, SqL.of (sG _ _ hg2), carsS hcs (s2.trans sG), by omega, by omega, fun HI t3 sI' ht30 ht3 => ?_⟩
        refine ⟨_, rfl, _, _, rfl, same_ixs (SqL.of ht3) (SqL.of (sI' _ _ (sG' _ _ hD5))) hsl, true, rfl, iteF ?_⟩
        exact ⟨_, _, _, _, _, rfl, sG.trans sI'⟩
    · rintro σ H' ⟨v6, v7, v8, v9, v10, rfl, sA⟩
      exact ⟨_, rfl, _, rfl, _, _, rfl, same_cars (SqL.of (sA _ _ hg2)) (Same.seq (s2.trans sA) hcl) (carsS hcs (s2.trans sA)) (by omega), q _ (s2.trans sA)⟩
theorem ok_law {f : Addr} {fd : FuncData} (F : Fun K "law" "law" s_law f fd) (T : Txt w K mg C_Rule A_WORDS A_OTHER_SIDE) (c_Lterms : Cal CX0 P w K mg base 2 "_law_terms" (sp_Lterms K)) (c_Lpool : Cal CX0 P w K mg base 1 "_law_pool" sp_Lpool) (c_Lcell : Cal CX0 P w K mg base 1 "_law_cell" (sp_Lcell K)) (c_Ltake : Cal CX0 P w K mg base 1 "_law_take" sp_Ltake) (c_Lcars : Cal CX0 P w K mg base 3 "_law_cars" (sp_Lcars K)) (c_Rule : Mak CX0 P w K mg base 1 "Rule" C_Rule (sp_Rule_init K C_Rule)) (c_Lserves : Cal CX0 P w K mg base 5 "_law_serves" (sp_Lserves K C_Rule)) :
    FnOk P w K mg base CX0 6 f fd ["_law_script"] (sp_law K) := by
  refine F.ok sc_law (fun vs H Q E h => ?_) (fun cdv A outer s H vs Q E hr h => ?_)
  · obtain ⟨a, ns, rfl, _⟩ := h
    rfl
  · obtain ⟨a, ns, rfl, hS, hlen, q⟩ := h
    refine ⟨_, (pss_cons (ps_set (i := 1) sc_law.nd rfl (Or.inl rfl) (pc_c c_Lterms hr (by decide) rfl pass0 (pa_cons (pc_c c_Lpool hr (by decide) rfl pass0 (pa_cons (pc_c c_Lcell hr (by decide) rfl pass0 (pa_cons (pv 0) (pa_cons pe_int pa_nil))) pa_nil)) (pa_cons pe_int pa_nil))))
      (pss_cons (ps_set (i := 2) sc_law.nd rfl (Or.inl rfl) (pc_c c_Lpool hr (by decide) rfl pass0 (pa_cons (pc_c c_Lcell hr (by decide) rfl pass0 (pa_cons (pv 0) (pa_cons pe_int pa_nil))) pa_nil)))
      (pss_cons (ps_set (i := 3) sc_law.nd rfl (Or.inl rfl) (pc_c c_Ltake hr (by decide) rfl pass0 (pa_cons (pc_c c_Lpool hr (by decide) rfl pass0 (pa_cons (pc_c c_Lcell hr (by decide) rfl pass0 (pa_cons (pv 0) (pa_cons pe_int pa_nil))) pa_nil)) (pa_cons pe_int pa_nil))))
      (pss_cons (ps_set (i := 4) sc_law.nd rfl (Or.inl rfl) (pe_op op_mod (pe_callTy call_int1 (by rfl) T.n_int (by decide +kernel) (pa_cons (pc_c c_Lcell hr (by decide) rfl pass0 (pa_cons (pv 0) (pa_cons pe_int pa_nil))) pa_nil)) pe_int))
      (pss_cons (ps_set (i := 5) sc_law.nd rfl (Or.inl rfl) (pc_c c_Ltake hr (by decide) rfl pass0 (pa_cons (pv 2) (pa_cons pe_int pa_nil))))
      (C8.pss_cut (ps_if (pt_cmpR op_eq (pe_op op_fdivW (pv 4) pe_int) pe_int (nomark _)) (pss_one (ps_set (i := 5) sc_law.nd rfl (Or.inl rfl) (pc_c c_Ltake hr (by decide) rfl pass0 (pa_cons (pv 2) (pa_cons pe_int pa_nil))))) pss_nil)
      (C8.pss_cut (ps_set (i := 6) sc_law.nd rfl (Or.inl rfl) (pc_c c_Lcars hr (by decide) rfl pass0 (pa_cons (pv 2) (pa_cons (pv 5) (pa_cons (pe_or (pe_cmpR op_eq (pv 4) pe_int (nomark _)) (pe_or (pe_cmpR op_eq (pv 4) pe_int (nomark _)) (pe_one (pe_cmpR op_gt (pe_op op_fdivW (pv 4) pe_int) pe_int (nomark _))))) pa_nil)))))
      (pss_cons (ps_set (i := 7) sc_law.nd rfl (Or.inl rfl) (pe_lst (pa_cons (pv 3) (pa_cons pe_int (pa_cons pe_int (pa_cons (pe_op op_fdivW (pv 5) pe_int) (pa_cons (pv 5) pa_nil)))))))
      (pss_cons (ps_set (i := 8) sc_law.nd rfl (Or.inl rfl) (pc_mk c_Rule hr (by decide) rfl pass0 (pa_cons (pe_callTy call_list_of (by rfl) T.n_list (by decide +kernel) (pa_cons (pv 1) pa_nil)) pa_nil)))
      (pss_cons (ps_if (pt_not (pt_val (pc_c c_Lserves hr (by decide) rfl pass0 (pa_cons (pv 8) (pa_cons (pv 1) (pa_cons (pv 6) (pa_cons (pv 7) pa_nil))))))) (pss_one (ps_ret pe_bl)) pss_nil)
      (pss_cons (ps_if (pt_not (pt_val (pc_c c_Lserves hr (by decide) rfl pass0 (pa_cons (pc_mk c_Rule hr (by decide) rfl pass0 (pa_cons (pe_lst pa_nil) pa_nil)) (pa_cons (pe_lst pa_nil) (pa_cons (pv 6) (pa_cons (pe_lst (pa_cons (pv 3) (pa_cons (pv 5) pa_nil))) pa_nil))))))) (pss_one (ps_ret pe_bl)) pss_nil)
      (pss_one (ps_ret (pc_c c_Lserves hr (by decide) rfl pass0 (pa_cons (pv 8) (pa_cons (pv 1) (pa_cons (pe_revL (pv 6)) (pa_cons (pv 7) pa_nil)))))))))))))))))), ?_⟩
    refine ⟨_, rfl, a, ns, 0, rfl, hS, fun c0 _ => ⟨c0, rfl, fun z0 Ha0 m0 u0 P0 => ⟨z0, 7, rfl, by decide, P0, fun Hb0 q0 xs0 ts0 k0 pp0 n0 h0 t0 o0 len0 => ?_⟩⟩⟩
    have S0 : Same H Hb0 := Kp.same u0 k0 m0
    refine ⟨_, rfl, a, ns, 1, rfl, S0.seq hS, fun c1 _ => ⟨c1, rfl, fun z1 Ha1 m1 u1 P1 => ?_⟩⟩
    have S1 : Same Hb0 Ha1 := u1
    refine ⟨_, rfl, a, ns, 2, rfl, (S0.trans S1).seq hS, fun c2 _ => ⟨c2, rfl, fun z2 Ha2 m2 u2 P2 => ⟨z2, 16, rfl, P2, by decide, by decide, fun Hb2 w2 k2 PP2 w20 w21 => ?_⟩⟩⟩
    have S2 : Same Ha1 Hb2 := Kp.same u2 k2 m2
    obtain ⟨wn, rfl⟩ : ∃ n : Nat, w2 = (n : Int) := ⟨w2.toNat, (Int.toNat_of_nonneg w20).symm⟩
    have S02 : Same Hb0 Hb2 := S1.trans S2
    refine ⟨_, rfl, a, ns, 3, rfl, (S0.trans S02).seq hS, fun c3 _ => .inl ⟨c3, rfl, _, _, rfl, rfl, (by show (0 : Int) < 16; decide), ?_⟩⟩
    refine ⟨_, rfl, z1, 14, rfl, P1.same S2, by decide, by decide, fun H3 sz k3 P3 sz0 sz1 => ?_⟩
    have S3 : Same Hb0 H3 := Kp.same S02 k3 m1
    obtain ⟨wy, hwy⟩ : ∃ x : Int, x = c3 % 16 := ⟨_, rfl⟩
    refine ⟨fun σ' H' => ∃ (n : Nat), n ≤ 100 ∧ σ' = [some (.ref a), some (.ref q0), some (.ref z1), some (.int (wn : Nat)), some (.int (c3 % 16)), some (.int (n : Nat)), none, none, none] ∧ Same Hb0 H' ∧ PoolAt H' z1, ?_, ?_⟩
    · refine ⟨_, rfl, _, _, rfl, rfl, wide_div (b := 300) (by decide) (by decide) (by decide) (by decide), rfl, _, rfl, ?_⟩
      refine ite2 (fun _ => ?_) (fun _ => ?_)
      · refine ⟨_, rfl, z1, 41, rfl, P3, by decide, by decide, fun H4 s4 k4 P4 s40 s41 => ?_⟩
        obtain ⟨n, rfl⟩ : ∃ n : Nat, s4 = (n : Int) := ⟨s4.toNat, (Int.toNat_of_nonneg s40).symm⟩
        exact ⟨n, by omega, rfl, Kp.same S3 k4 m1, P4⟩
      · obtain ⟨n, rfl⟩ : ∃ n : Nat, sz = (n : Int) := ⟨sz.toNat, (Int.toNat_of_nonneg sz0).symm⟩
        exact ⟨n, by omega, rfl, S3, P3⟩
    · rintro σ' H4 ⟨n, hn, rfl, S4, P4⟩
      refine ⟨fun σ' H' => ∃ (cl : Addr) (ys : List V) (cs : List Car), σ' = [some (.ref a), some (.ref q0), some (.ref z1), some (.int (wn : Nat)), some (.int (c3 % 16)), some (.int (n : Nat)), some (.ref cl), none, none] ∧ Same Hb0 H' ∧ H' cl = some (.lst ys) ∧ Cars K H' ys cs ∧ cs.length = n, ?_, ?_⟩
      · refine ⟨_, rfl, _, rfl, _, rfl, rfl, _, rfl, ite2 (fun _ => ?_) (fun _ => ⟨_, rfl, rfl, _, rfl, ite2 (fun _ => ?_) (fun _ => ⟨_, rfl, _, _, rfl, rfl, wide_div (b := 300) (by decide) (by decide) (by decide) (by decide), _, _, rfl, rfl, ?_⟩)⟩)⟩
        all_goals exact ⟨z1, n, _, rfl, by omega, P4, fun H5 cl ys cs k5 P5 hc0 hc hcs hl => ⟨cl, ys, cs, rfl, Kp.same S4 k5 m1, hc, hcs, hl⟩⟩
      · rintro σ' H5 ⟨cl, ys, cs, rfl, S5, hcl, hcs, hcl2⟩
        refine ⟨_, rfl, _, rfl, _, _, rfl, rfl, wide_div (b := 300) (by decide) (by decide) (by decide) (by decide), _, rfl, (by show 5 ≤ sizeLine; decide), fun wl hwl => ?_⟩
        have ew : [V.int (wn : Nat), V.int 0, V.int 1, V.int ((n : Int) / 2), V.int (n : Nat)] = ixs [wn, 0, 1, n / 2, n] := by
          show _ = [V.int (wn : Nat), V.int ((0 : Nat) : Int), V.int ((1 : Nat) : Int), V.int ((n / 2 : Nat) : Int), V.int (n : Nat)]
          rw [show ((n : Int) / 2) = ((n / 2 : Nat) : Int) by omega]
          rfl
        have S6' : Same H5 (upd H5 wl (.lst [V.int (wn : Nat), V.int 0, V.int 1, V.int ((n : Int) / 2), V.int (n : Nat)])) := same_upd hwl
        have hwl6 : (upd H5 wl (.lst [V.int (wn : Nat), V.int 0, V.int 1, V.int ((n : Int) / 2), V.int (n : Nat)])) wl = some (.lst (ixs [wn, 0, 1, n / 2, n])) := by rw [upd_same, ew]
        have S6 := S5.trans S6'
        have hcl6 := S6' _ _ hcl
        replace hcs := carsS hcs S6'
        generalize upd H5 wl (.lst [V.int (wn : Nat), V.int 0, V.int 1, V.int ((n : Int) / 2), V.int (n : Nat)]) = H6 at S6' hwl6 S6 hcl6 hcs ⊢
        have hws : ∀ w ∈ [wn, 0, 1, n / 2, n], w ≤ 1000 := by
          intro w hw
          simp only [List.mem_cons, List.not_mem_nil, or_false] at hw
          rcases hw with rfl | rfl | rfl | rfl | rfl <;> omega
        refine ⟨_, rfl, q0, xs0, rfl, .inl (SqL.of (S6 _ _ h0)), fun y0 hy0 => ?_⟩
        have e0 := same_upd (o := .lst xs0) hy0
        intro r0 d0 nr0 nd0 ne0
        have f0 : Same (upd H6 y0 (.lst xs0)) (upd (upd (upd H6 y0 (.lst xs0)) d0 (.own r0)) r0 (.ins C_Rule d0 [])) := mk_same nr0 nd0 (Kp.refl)
        refine ⟨r0, d0, y0, xs0, ts0, rfl, upd_same, SqL.of (f0 _ _ upd_same), t0.same (S6.trans (e0.trans f0)), o0, fun J0 kJ0 hJ0 => ⟨rfl, ?_⟩⟩
        have g0 : Same H6 J0 := e0.trans (mk_same nr0 nd0 kJ0)
        have SJ := S6.trans g0
        refine ⟨_, rfl, _, rfl, _, rfl, _, rfl, r0, q0, cl, wl, xs0, ys, ts0, cs, _, rfl, hJ0, len0, SqL.of (SJ _ _ h0), t0.same SJ, SqL.of (g0 _ _ hcl6), carsS hcs g0, by omega, SqL.of (g0 _ _ hwl6), hws, fun J1 sJ1 => ⟨true, rfl, iteF ?_⟩⟩
        have g1 := g0.trans sJ1
        -- the rule without terms
        refine ⟨Nat.zero_le _, fun y1 hy1 => ?_⟩
        have e1 := same_upd (o := .lst []) hy1
        intro r1 d1 nr1 nd1 ne1
        have f1 : Same (upd J1 y1 (.lst [])) (upd (upd (upd J1 y1 (.lst [])) d1 (.own r1)) r1 (.ins C_Rule d1 [])) := mk_same nr1 nd1 (Kp.refl)
        refine ⟨r1, d1, y1, [], [], rfl, upd_same, SqL.of (f1 _ _ upd_same), TermsV.nil, ⟨List.nodup_nil, by intro t ht; cases ht⟩, fun J2 kJ2 hJ2 => ⟨rfl, ?_⟩⟩
        have g2 : Same H6 J2 := g1.trans (e1.trans (mk_same nr1 nd1 kJ2))
        refine ⟨Nat.zero_le _, fun y2 hy2 => ?_⟩
        have e2 := same_upd (o := .lst []) hy2
        refine ⟨_, rfl, _, rfl, _, rfl, (by show 2 ≤ sizeLine; decide), fun y3 hy3 => ?_⟩
        have e3 := same_upd (o := .lst [V.int (wn : Nat), V.int (n : Nat)]) hy3
        have g3 := g2.trans (e2.trans e3)
        refine ⟨r1, y2, cl, y3, [], ys, [], cs, [wn, n], rfl, hJ2.same (e2.trans e3), by decide, SqL.of (e3 _ _ upd_same), TermsV.nil, SqL.of (g3 _ _ hcl6), carsS hcs g3, by omega, SqL.of upd_same, (fun w hw => by
          simp only [List.mem_cons, List.not_mem_nil, or_false] at hw
          rcases hw with rfl | rfl <;> omega), fun J3 sJ3 => ⟨true, rfl, iteF ?_⟩⟩
        have g4 := g3.trans sJ3
        have h24 : Same J0 J3 := sJ1.trans ((e1.trans (mk_same nr1 nd1 kJ2)).trans ((e2.trans e3).trans sJ3))
        refine ⟨_, rfl, _, rfl, _, rfl, cl, ys, rfl, SqL.of (g4 _ _ hcl6), fun y4 hy4 => ?_⟩
        have e4 := same_upd (o := .lst ys.reverse) hy4
        have g5 := g4.trans e4
        exact ⟨_, rfl, r0, q0, y4, wl, xs0, ys.reverse, ts0, cs.reverse, _, rfl, hJ0.same (h24.trans e4), len0, SqL.of (g5 _ _ (S6 _ _ h0)), t0.same (S6.trans g5), SqL.of upd_same, (carsS hcs g5).rev, by rw [List.length_reverse]; omega, SqL.of (g5 _ _ hwl6), hws, fun H' _ => q H'⟩
end
theorem all_mk {l : PySem.W.OpenLaw} {w : World} {K : PySem.W.Frag} {h : Heap} {mg : Str → Option Value} {fa C_Rule A_WORDS A_OTHER_SIDE : Addr} {uWORDS0 uWORDS1 uWORDS2 uWORDS3 uWORDS4 uWORDS5 uWORDS6 : Tok} {nWORDS : Nat} {ddWORDS : Option Addr} {slWORDS : Array (Option Value)} {ukOTHER_SIDE0 uvOTHER_SIDE0 ukOTHER_SIDE1 uvOTHER_SIDE1 : Tok} {nOTHER_SIDE : Nat} {uwOTHER_SIDEleast : Tok} {uwOTHER_SIDEmost : Tok} {f_umeasures : Addr} {od_umeasures an_umeasures : Option Addr} {sl_umeasures : Array (Option Value)} {oc_umeasures kV_umeasures dc_umeasures pm_umeasures cd_umeasures ct_umeasures : Value} {f_unumbers : Addr} {od_unumbers an_unumbers : Option Addr} {sl_unumbers : Array (Option Value)} {oc_unumbers kV_unumbers dc_unumbers pm_unumbers cd_unumbers ct_unumbers : Value} {f_uplace_behind : Addr} {od_uplace_behind an_uplace_behind : Option Addr} {sl_uplace_behind : Array (Option Value)} {oc_uplace_behind kV_uplace_behind dc_uplace_behind pm_uplace_behind cd_uplace_behind ct_uplace_behind : Value} {f_Rule_init : Addr} {od_Rule_init an_Rule_init : Option Addr} {sl_Rule_init : Array (Option Value)} {oc_Rule_init kV_Rule_init dc_Rule_init pm_Rule_init cd_Rule_init ct_Rule_init : Value} {f_Rule_call : Addr} {od_Rule_call an_Rule_call : Option Addr} {sl_Rule_call : Array (Option Value)} {oc_Rule_call kV_Rule_call dc_Rule_call pm_Rule_call cd_Rule_call ct_Rule_call : Value} {f_Rule_order : Addr} {od_Rule_order an_Rule_order : Option Addr} {sl_Rule_order : Array (Option Value)} {oc_Rule_order kV_Rule_order dc_Rule_order pm_Rule_order cd_Rule_order ct_Rule_order : Value} {f_Rule_serve : Addr} {od_Rule_serve an_Rule_serve : Option Addr} {sl_Rule_serve : Array (Option Value)} {oc_Rule_serve kV_Rule_serve dc_Rule_serve pm_Rule_serve cd_Rule_serve ct_Rule_serve : Value} {f_Lcell : Addr} {od_Lcell an_Lcell : Option Addr} {sl_Lcell : Array (Option Value)} {oc_Lcell kV_Lcell dc_Lcell pm_Lcell cd_Lcell ct_Lcell : Value} {f_Lpool : Addr} {od_Lpool an_Lpool : Option Addr} {sl_Lpool : Array (Option Value)} {oc_Lpool kV_Lpool dc_Lpool pm_Lpool cd_Lpool ct_Lpool : Value} {f_Ltake : Addr} {od_Ltake an_Ltake : Option Addr} {sl_Ltake : Array (Option Value)} {oc_Ltake kV_Ltake dc_Ltake pm_Ltake cd_Ltake ct_Ltake : Value} {f_Lsame : Addr} {od_Lsame an_Lsame : Option Addr} {sl_Lsame : Array (Option Value)} {oc_Lsame kV_Lsame dc_Lsame pm_Lsame cd_Lsame ct_Lsame : Value} {f_Lterms : Addr} {od_Lterms an_Lterms : Option Addr} {sl_Lterms : Array (Option Value)} {oc_Lterms kV_Lterms dc_Lterms pm_Lterms cd_Lterms ct_Lterms : Value} {f_Lmeasure : Addr} {od_Lmeasure an_Lmeasure : Option Addr} {sl_Lmeasure : Array (Option Value)} {oc_Lmeasure kV_Lmeasure dc_Lmeasure pm_Lmeasure cd_Lmeasure ct_Lmeasure : Value} {f_Lkey : Addr} {od_Lkey an_Lkey : Option Addr} {sl_Lkey : Array (Option Value)} {oc_Lkey kV_Lkey dc_Lkey pm_Lkey cd_Lkey ct_Lkey : Value} {f_Lahead : Addr} {od_Lahead an_Lahead : Option Addr} {sl_Lahead : Array (Option Value)} {oc_Lahead kV_Lahead dc_Lahead pm_Lahead cd_Lahead ct_Lahead : Value} {f_Lorder : Addr} {od_Lorder an_Lorder : Option Addr} {sl_Lorder : Array (Option Value)} {oc_Lorder kV_Lorder dc_Lorder pm_Lorder cd_Lorder ct_Lorder : Value} {f_Lcar : Addr} {od_Lcar an_Lcar : Option Addr} {sl_Lcar : Array (Option Value)} {oc_Lcar kV_Lcar dc_Lcar pm_Lcar cd_Lcar ct_Lcar : Value} {f_Lcars : Addr} {od_Lcars an_Lcars : Option Addr} {sl_Lcars : Array (Option Value)} {oc_Lcars kV_Lcars dc_Lcars pm_Lcars cd_Lcars ct_Lcars : Value} {f_Lserves : Addr} {od_Lserves an_Lserves : Option Addr} {sl_Lserves : Array (Option Value)} {oc_Lserves kV_Lserves dc_Lserves pm_Lserves cd_Lserves ct_Lserves : Value} {f_law : Addr} {od_law an_law : Option Addr} {sl_law : Array (Option Value)} {oc_law kV_law dc_law pm_law cd_law ct_law : Value}
    (X : K.In h) (G : h.Ns mainGlobals mg) (hfa : mg "law" = some (.ref fa))
    (g_Rule : PySem.W.nsIn K mainGlobals "Rule" = some (some (.ref C_Rule)))
    (pg_Rule : PySem.W.plainGet K C_Rule Str.empty = true)
    (hd_Rule : PySem.W.hasDictIn K C_Rule = true)
    (po_Rule : PySem.W.plainOver K C_Rule = true)
    (sa_Rule : PySem.W.findIn K (.ref C_Rule) "__setattr__" = some (some (.builtin "object.__setattr__")))
    (nf_Rule_terms : PySem.W.findIn K (.ref C_Rule) "terms" = some none)
    (c_WORDS : PySem.W.nsIn K mainGlobals "WORDS" = some (some (.ref A_WORDS)))
    (l_WORDS : K.lookup A_WORDS = some ⟨.type "tuple", ddWORDS, .seq #[.str "stay" uWORDS0, .str "need" uWORDS1, .str "left" uWORDS2, .str "want" uWORDS3, .str "here" uWORDS4, .str "got" uWORDS5, .str "slack" uWORDS6] nWORDS, slWORDS⟩)
    (c_OTHER_SIDE : PySem.W.nsIn K mainGlobals "OTHER_SIDE" = some (some (.ref A_OTHER_SIDE)))
    (l_OTHER_SIDE : K.lookup A_OTHER_SIDE = some ⟨.type "dict", none, .dict #[⟨PyData.keyHash w.params "least", .str "least" ukOTHER_SIDE0, .str "most" uvOTHER_SIDE0⟩, ⟨PyData.keyHash w.params "most", .str "most" ukOTHER_SIDE1, .str "least" uvOTHER_SIDE1⟩] nOTHER_SIDE, #[]⟩)
    (low_OTHER_SIDE : (A_OTHER_SIDE == sysModules) = false)
    (v_OTHER_SIDE_least : PySem.W.nsIn K A_OTHER_SIDE "least" = some (some (.str "most" uwOTHER_SIDEleast)))
    (v_OTHER_SIDE_most : PySem.W.nsIn K A_OTHER_SIDE "most" = some (some (.str "least" uwOTHER_SIDEmost)))
    (n_tuple : PySem.W.nsIn K mainGlobals "tuple" = some none)
    (n_len : PySem.W.nsIn K mainGlobals "len" = some none)
    (n_enumerate : PySem.W.nsIn K mainGlobals "enumerate" = some none)
    (n_set : PySem.W.nsIn K mainGlobals "set" = some none)
    (n_range : PySem.W.nsIn K mainGlobals "range" = some none)
    (n_int : PySem.W.nsIn K mainGlobals "int" = some none)
    (n_abs : PySem.W.nsIn K mainGlobals "abs" = some none)
    (n_isinstance : PySem.W.nsIn K mainGlobals "isinstance" = some none)
    (n_bool : PySem.W.nsIn K mainGlobals "bool" = some none)
    (n_str : PySem.W.nsIn K mainGlobals "str" = some none)
    (n_list : PySem.W.nsIn K mainGlobals "list" = some none)
    (mk_Rule : PySem.W.makesIn K C_Rule = true)
    (mkk_Rule : PySem.W.keepIn K (.ref C_Rule) = true)
    (a_umeasures : PySem.W.nsIn K mainGlobals "_measures" = some (some (.ref f_umeasures)))
    (l_umeasures : K.lookup f_umeasures = some ⟨oc_umeasures, od_umeasures, .func (PySem.W.fnOf "_measures" "_measures" (defArgs s_umeasures) (defBody s_umeasures) (defScope s_umeasures) .none kV_umeasures dc_umeasures pm_umeasures an_umeasures cd_umeasures ct_umeasures), sl_umeasures⟩)
    (q_umeasures : PySem.W.codeIn K cd_umeasures "_measures" = true)
    (k_umeasures : PySem.W.keepIn K (.ref f_umeasures) = true)
    (a_unumbers : PySem.W.nsIn K mainGlobals "_numbers" = some (some (.ref f_unumbers)))
    (l_unumbers : K.lookup f_unumbers = some ⟨oc_unumbers, od_unumbers, .func (PySem.W.fnOf "_numbers" "_numbers" (defArgs s_unumbers) (defBody s_unumbers) (defScope s_unumbers) .none kV_unumbers dc_unumbers pm_unumbers an_unumbers cd_unumbers ct_unumbers), sl_unumbers⟩)
    (q_unumbers : PySem.W.codeIn K cd_unumbers "_numbers" = true)
    (k_unumbers : PySem.W.keepIn K (.ref f_unumbers) = true)
    (a_uplace_behind : PySem.W.nsIn K mainGlobals "_place_behind" = some (some (.ref f_uplace_behind)))
    (l_uplace_behind : K.lookup f_uplace_behind = some ⟨oc_uplace_behind, od_uplace_behind, .func (PySem.W.fnOf "_place_behind" "_place_behind" (defArgs s_uplace_behind) (defBody s_uplace_behind) (defScope s_uplace_behind) .none kV_uplace_behind dc_uplace_behind pm_uplace_behind an_uplace_behind cd_uplace_behind ct_uplace_behind), sl_uplace_behind⟩)
    (q_uplace_behind : PySem.W.codeIn K cd_uplace_behind "_place_behind" = true)
    (k_uplace_behind : PySem.W.keepIn K (.ref f_uplace_behind) = true)
    (a_Rule_init : PySem.W.findIn K (.ref C_Rule) "__init__" = some (some (.ref f_Rule_init)))
    (j_Rule_init : PySem.W.isFn K (.ref f_Rule_init) = true)
    (l_Rule_init : K.lookup f_Rule_init = some ⟨oc_Rule_init, od_Rule_init, .func (PySem.W.fnOf "__init__" "Rule.__init__" (defArgs s_Rule_init) (defBody s_Rule_init) (defScope s_Rule_init) .none kV_Rule_init dc_Rule_init pm_Rule_init an_Rule_init cd_Rule_init ct_Rule_init), sl_Rule_init⟩)
    (q_Rule_init : PySem.W.codeIn K cd_Rule_init "Rule.__init__" = true)
    (k_Rule_init : PySem.W.keepIn K (.ref f_Rule_init) = true)
    (a_Rule_call : PySem.W.findIn K (.ref C_Rule) "__call__" = some (some (.ref f_Rule_call)))
    (j_Rule_call : PySem.W.isFn K (.ref f_Rule_call) = true)
    (l_Rule_call : K.lookup f_Rule_call = some ⟨oc_Rule_call, od_Rule_call, .func (PySem.W.fnOf "__call__" "Rule.__call__" (defArgs s_Rule_call) (defBody s_Rule_call) (defScope s_Rule_call) .none kV_Rule_call dc_Rule_call pm_Rule_call an_Rule_call cd_Rule_call ct_Rule_call), sl_Rule_call⟩)
    (q_Rule_call : PySem.W.codeIn K cd_Rule_call "Rule.__call__" = true)
    (k_Rule_call : PySem.W.keepIn K (.ref f_Rule_call) = true)
    (a_Rule_order : PySem.W.findIn K (.ref C_Rule) "order" = some (some (.ref f_Rule_order)))
    (j_Rule_order : PySem.W.isFn K (.ref f_Rule_order) = true)
    (l_Rule_order : K.lookup f_Rule_order = some ⟨oc_Rule_order, od_Rule_order, .func (PySem.W.fnOf "order" "Rule.order" (defArgs s_Rule_order) (defBody s_Rule_order) (defScope s_Rule_order) .none kV_Rule_order dc_Rule_order pm_Rule_order an_Rule_order cd_Rule_order ct_Rule_order), sl_Rule_order⟩)
    (q_Rule_order : PySem.W.codeIn K cd_Rule_order "Rule.order" = true)
    (k_Rule_order : PySem.W.keepIn K (.ref f_Rule_order) = true)
    (a_Rule_serve : PySem.W.findIn K (.ref C_Rule) "serve" = some (some (.ref f_Rule_serve)))
    (j_Rule_serve : PySem.W.isFn K (.ref f_Rule_serve) = true)
    (l_Rule_serve : K.lookup f_Rule_serve = some ⟨oc_Rule_serve, od_Rule_serve, .func (PySem.W.fnOf "serve" "Rule.serve" (defArgs s_Rule_serve) (defBody s_Rule_serve) (defScope s_Rule_serve) .none kV_Rule_serve dc_Rule_serve pm_Rule_serve an_Rule_serve cd_Rule_serve ct_Rule_serve), sl_Rule_serve⟩)
    (q_Rule_serve : PySem.W.codeIn K cd_Rule_serve "Rule.serve" = true)
    (k_Rule_serve : PySem.W.keepIn K (.ref f_Rule_serve) = true)
    (a_Lcell : PySem.W.nsIn K mainGlobals "_law_cell" = some (some (.ref f_Lcell)))
    (l_Lcell : K.lookup f_Lcell = some ⟨oc_Lcell, od_Lcell, .func (PySem.W.fnOf "_law_cell" "_law_cell" (defArgs s_Lcell) (defBody s_Lcell) (defScope s_Lcell) .none kV_Lcell dc_Lcell pm_Lcell an_Lcell cd_Lcell ct_Lcell), sl_Lcell⟩)
    (q_Lcell : PySem.W.codeIn K cd_Lcell "_law_cell" = true)
    (k_Lcell : PySem.W.keepIn K (.ref f_Lcell) = true)
    (a_Lpool : PySem.W.nsIn K mainGlobals "_law_pool" = some (some (.ref f_Lpool)))
    (l_Lpool : K.lookup f_Lpool = some ⟨oc_Lpool, od_Lpool, .func (PySem.W.fnOf "_law_pool" "_law_pool" (defArgs s_Lpool) (defBody s_Lpool) (defScope s_Lpool) .none kV_Lpool dc_Lpool pm_Lpool an_Lpool cd_Lpool ct_Lpool), sl_Lpool⟩)
    (q_Lpool : PySem.W.codeIn K cd_Lpool "_law_pool" = true)
    (k_Lpool : PySem.W.keepIn K (.ref f_Lpool) = true)
    (a_Ltake : PySem.W.nsIn K mainGlobals "_law_take" = some (some (.ref f_Ltake)))
    (l_Ltake : K.lookup f_Ltake = some ⟨oc_Ltake, od_Ltake, .func (PySem.W.fnOf "_law_take" "_law_take" (defArgs s_Ltake) (defBody s_Ltake) (defScope s_Ltake) .none kV_Ltake dc_Ltake pm_Ltake an_Ltake cd_Ltake ct_Ltake), sl_Ltake⟩)
    (q_Ltake : PySem.W.codeIn K cd_Ltake "_law_take" = true)
    (k_Ltake : PySem.W.keepIn K (.ref f_Ltake) = true)
    (a_Lsame : PySem.W.nsIn K mainGlobals "_law_same" = some (some (.ref f_Lsame)))
    (l_Lsame : K.lookup f_Lsame = some ⟨oc_Lsame, od_Lsame, .func (PySem.W.fnOf "_law_same" "_law_same" (defArgs s_Lsame) (defBody s_Lsame) (defScope s_Lsame) .none kV_Lsame dc_Lsame pm_Lsame an_Lsame cd_Lsame ct_Lsame), sl_Lsame⟩)
    (q_Lsame : PySem.W.codeIn K cd_Lsame "_law_same" = true)
    (k_Lsame : PySem.W.keepIn K (.ref f_Lsame) = true)
    (a_Lterms : PySem.W.nsIn K mainGlobals "_law_terms" = some (some (.ref f_Lterms)))
    (l_Lterms : K.lookup f_Lterms = some ⟨oc_Lterms, od_Lterms, .func (PySem.W.fnOf "_law_terms" "_law_terms" (defArgs s_Lterms) (defBody s_Lterms) (defScope s_Lterms) .none kV_Lterms dc_Lterms pm_Lterms an_Lterms cd_Lterms ct_Lterms), sl_Lterms⟩)
    (q_Lterms : PySem.W.codeIn K cd_Lterms "_law_terms" = true)
    (k_Lterms : PySem.W.keepIn K (.ref f_Lterms) = true)
    (a_Lmeasure : PySem.W.nsIn K mainGlobals "_law_measure" = some (some (.ref f_Lmeasure)))
    (l_Lmeasure : K.lookup f_Lmeasure = some ⟨oc_Lmeasure, od_Lmeasure, .func (PySem.W.fnOf "_law_measure" "_law_measure" (defArgs s_Lmeasure) (defBody s_Lmeasure) (defScope s_Lmeasure) .none kV_Lmeasure dc_Lmeasure pm_Lmeasure an_Lmeasure cd_Lmeasure ct_Lmeasure), sl_Lmeasure⟩)
    (q_Lmeasure : PySem.W.codeIn K cd_Lmeasure "_law_measure" = true)
    (k_Lmeasure : PySem.W.keepIn K (.ref f_Lmeasure) = true)
    (a_Lkey : PySem.W.nsIn K mainGlobals "_law_key" = some (some (.ref f_Lkey)))
    (l_Lkey : K.lookup f_Lkey = some ⟨oc_Lkey, od_Lkey, .func (PySem.W.fnOf "_law_key" "_law_key" (defArgs s_Lkey) (defBody s_Lkey) (defScope s_Lkey) .none kV_Lkey dc_Lkey pm_Lkey an_Lkey cd_Lkey ct_Lkey), sl_Lkey⟩)
    (q_Lkey : PySem.W.codeIn K cd_Lkey "_law_key" = true)
    (k_Lkey : PySem.W.keepIn K (.ref f_Lkey) = true)
    (a_Lahead : PySem.W.nsIn K mainGlobals "_law_ahead" = some (some (.ref f_Lahead)))
    (l_Lahead : K.lookup f_Lahead = some ⟨oc_Lahead, od_Lahead, .func (PySem.W.fnOf "_law_ahead" "_law_ahead" (defArgs s_Lahead) (defBody s_Lahead) (defScope s_Lahead) .none kV_Lahead dc_Lahead pm_Lahead an_Lahead cd_Lahead ct_Lahead), sl_Lahead⟩)
    (q_Lahead : PySem.W.codeIn K cd_Lahead "_law_ahead" = true)
    (k_Lahead : PySem.W.keepIn K (.ref f_Lahead) = true)
    (a_Lorder : PySem.W.nsIn K mainGlobals "_law_order" = some (some (.ref f_Lorder)))
    (l_Lorder : K.lookup f_Lorder = some ⟨oc_Lorder, od_Lorder, .func (PySem.W.fnOf "_law_order" "_law_order" (defArgs s_Lorder) (defBody s_Lorder) (defScope s_Lorder) .none kV_Lorder dc_Lorder pm_Lorder an_Lorder cd_Lorder ct_Lorder), sl_Lorder⟩)
    (q_Lorder : PySem.W.codeIn K cd_Lorder "_law_order" = true)
    (k_Lorder : PySem.W.keepIn K (.ref f_Lorder) = true)
    (a_Lcar : PySem.W.nsIn K mainGlobals "_law_car" = some (some (.ref f_Lcar)))
    (l_Lcar : K.lookup f_Lcar = some ⟨oc_Lcar, od_Lcar, .func (PySem.W.fnOf "_law_car" "_law_car" (defArgs s_Lcar) (defBody s_Lcar) (defScope s_Lcar) .none kV_Lcar dc_Lcar pm_Lcar an_Lcar cd_Lcar ct_Lcar), sl_Lcar⟩)
    (q_Lcar : PySem.W.codeIn K cd_Lcar "_law_car" = true)
    (k_Lcar : PySem.W.keepIn K (.ref f_Lcar) = true)
    (a_Lcars : PySem.W.nsIn K mainGlobals "_law_cars" = some (some (.ref f_Lcars)))
    (l_Lcars : K.lookup f_Lcars = some ⟨oc_Lcars, od_Lcars, .func (PySem.W.fnOf "_law_cars" "_law_cars" (defArgs s_Lcars) (defBody s_Lcars) (defScope s_Lcars) .none kV_Lcars dc_Lcars pm_Lcars an_Lcars cd_Lcars ct_Lcars), sl_Lcars⟩)
    (q_Lcars : PySem.W.codeIn K cd_Lcars "_law_cars" = true)
    (k_Lcars : PySem.W.keepIn K (.ref f_Lcars) = true)
    (a_Lserves : PySem.W.nsIn K mainGlobals "_law_serves" = some (some (.ref f_Lserves)))
    (l_Lserves : K.lookup f_Lserves = some ⟨oc_Lserves, od_Lserves, .func (PySem.W.fnOf "_law_serves" "_law_serves" (defArgs s_Lserves) (defBody s_Lserves) (defScope s_Lserves) .none kV_Lserves dc_Lserves pm_Lserves an_Lserves cd_Lserves ct_Lserves), sl_Lserves⟩)
    (q_Lserves : PySem.W.codeIn K cd_Lserves "_law_serves" = true)
    (k_Lserves : PySem.W.keepIn K (.ref f_Lserves) = true)
    (a_law : PySem.W.nsIn K mainGlobals "law" = some (some (.ref f_law)))
    (l_law : K.lookup f_law = some ⟨oc_law, od_law, .func (PySem.W.fnOf "law" "law" (defArgs s_law) (defBody s_law) (defScope s_law) .none kV_law dc_law pm_law an_law cd_law ct_law), sl_law⟩)
    (q_law : PySem.W.codeIn K cd_law "law" = true)
    (k_law : PySem.W.keepIn K (.ref f_law) = true) :
    ∃ fd : FuncData, (∀ (s : Shared) (v : Value), BindsTo s fd ⟨[v], []⟩ [("_law_script", v)]) ∧ ∀ base : Heap, K.In base → base.Ns mainGlobals mg → FnOk l.prog w K mg base CX0 6 fa fd ["_law_script"] (sp_law K) := by
  have e := hfa.symm.trans (PySem.W.mg_of X G a_law)
  cases e
  have T : Txt w K mg C_Rule A_WORDS A_OTHER_SIDE := ⟨PySem.W.mg_of X G g_Rule, ⟨pg_Rule, hd_Rule, po_Rule, sa_Rule⟩, nf_Rule_terms, PySem.W.mg_of X G c_WORDS, fun H => .inr ⟨_, _, _, l_WORDS, rfl, rfl, by rw [sizeLine_eq]; show 7 ≤ 16777216; decide, (.cons ⟨_, rfl⟩ (.cons ⟨_, rfl⟩ (.cons ⟨_, rfl⟩ (.cons ⟨_, rfl⟩ (.cons ⟨_, rfl⟩ (.cons ⟨_, rfl⟩ (.cons ⟨_, rfl⟩ .nil)))))))⟩, PySem.W.mg_of X G c_OTHER_SIDE, ⟨_, _, l_OTHER_SIDE, ⟨⟨_, _, rfl, rfl⟩, ⟨⟨_, _, rfl, rfl⟩, True.intro⟩⟩, low_OTHER_SIDE⟩, ⟨_, v_OTHER_SIDE_least, ⟨_, rfl⟩⟩, ⟨_, v_OTHER_SIDE_most, ⟨_, rfl⟩⟩, PySem.W.mg_none_of X G n_tuple, PySem.W.mg_none_of X G n_len, PySem.W.mg_none_of X G n_enumerate, PySem.W.mg_none_of X G n_set, PySem.W.mg_none_of X G n_range, PySem.W.mg_none_of X G n_int, PySem.W.mg_none_of X G n_abs, PySem.W.mg_none_of X G n_isinstance, PySem.W.mg_none_of X G n_bool, PySem.W.mg_none_of X G n_str, PySem.W.mg_none_of X G n_list⟩
  have F_umeasures := fun_mk (st := s_umeasures) l_umeasures q_umeasures k_umeasures
  have b_umeasures := F_umeasures.binds (ps := ["car"]) fun _ _ _ _ _ _ us hl => match us, hl with | [_], _ => rfl
  have F_unumbers := fun_mk (st := s_unumbers) l_unumbers q_unumbers k_unumbers
  have b_unumbers := F_unumbers.binds (ps := ["terms", "car"]) fun _ _ _ _ _ _ us hl => match us, hl with | [_, _], _ => rfl
  have F_uplace_behind := fun_mk (st := s_uplace_behind) l_uplace_behind q_uplace_behind k_uplace_behind
  have b_uplace_behind := F_uplace_behind.binds (ps := ["ordered", "numbers"]) fun _ _ _ _ _ _ us hl => match us, hl with | [_, _], _ => rfl
  have F_Rule_init := fun_mk (st := s_Rule_init) l_Rule_init q_Rule_init k_Rule_init
  have b_Rule_init := F_Rule_init.binds (ps := ["self", "terms"]) fun _ _ _ _ _ _ us hl => match us, hl with | [_, _], _ => rfl
  have F_Rule_call := fun_mk (st := s_Rule_call) l_Rule_call q_Rule_call k_Rule_call
  have b_Rule_call := F_Rule_call.binds (ps := ["self", "car"]) fun _ _ _ _ _ _ us hl => match us, hl with | [_, _], _ => rfl
  have F_Rule_order := fun_mk (st := s_Rule_order) l_Rule_order q_Rule_order k_Rule_order
  have b_Rule_order := F_Rule_order.binds (ps := ["self", "cars"]) fun _ _ _ _ _ _ us hl => match us, hl with | [_, _], _ => rfl
  have F_Rule_serve := fun_mk (st := s_Rule_serve) l_Rule_serve q_Rule_serve k_Rule_serve
  have b_Rule_serve := F_Rule_serve.binds (ps := ["self", "cars", "width"]) fun _ _ _ _ _ _ us hl => match us, hl with | [_, _, _], _ => rfl
  have F_Lcell := fun_mk (st := s_Lcell) l_Lcell q_Lcell k_Lcell
  have b_Lcell := F_Lcell.binds (ps := ["_law_script", "_law_at"]) fun _ _ _ _ _ _ us hl => match us, hl with | [_, _], _ => rfl
  have F_Lpool := fun_mk (st := s_Lpool) l_Lpool q_Lpool k_Lpool
  have b_Lpool := F_Lpool.binds (ps := ["_law_cell_here"]) fun _ _ _ _ _ _ us hl => match us, hl with | [_], _ => rfl
  have F_Ltake := fun_mk (st := s_Ltake) l_Ltake q_Ltake k_Ltake
  have b_Ltake := F_Ltake.binds (ps := ["_law_pool_here", "_law_many"]) fun _ _ _ _ _ _ us hl => match us, hl with | [_, _], _ => rfl
  have F_Lsame := fun_mk (st := s_Lsame) l_Lsame q_Lsame k_Lsame
  have b_Lsame := F_Lsame.binds (ps := ["_law_told", "_law_due"]) fun _ _ _ _ _ _ us hl => match us, hl with | [_, _], _ => rfl
  have F_Lterms := fun_mk (st := s_Lterms) l_Lterms q_Lterms k_Lterms
  have b_Lterms := F_Lterms.binds (ps := ["_law_pool_here", "_law_most"]) fun _ _ _ _ _ _ us hl => match us, hl with | [_, _], _ => rfl
  have F_Lmeasure := fun_mk (st := s_Lmeasure) l_Lmeasure q_Lmeasure k_Lmeasure
  have b_Lmeasure := F_Lmeasure.binds (ps := ["_law_car_here", "_law_word"]) fun _ _ _ _ _ _ us hl => match us, hl with | [_, _], _ => rfl
  have F_Lkey := fun_mk (st := s_Lkey) l_Lkey q_Lkey k_Lkey
  have b_Lkey := F_Lkey.binds (ps := ["_law_terms_here", "_law_car_here"]) fun _ _ _ _ _ _ us hl => match us, hl with | [_, _], _ => rfl
  have F_Lahead := fun_mk (st := s_Lahead) l_Lahead q_Lahead k_Lahead
  have b_Lahead := F_Lahead.binds (ps := ["_law_one", "_law_two"]) fun _ _ _ _ _ _ us hl => match us, hl with | [_, _], _ => rfl
  have F_Lorder := fun_mk (st := s_Lorder) l_Lorder q_Lorder k_Lorder
  have b_Lorder := F_Lorder.binds (ps := ["_law_terms_here", "_law_cars_here"]) fun _ _ _ _ _ _ us hl => match us, hl with | [_, _], _ => rfl
  have F_Lcar := fun_mk (st := s_Lcar) l_Lcar q_Lcar k_Lcar
  have b_Lcar := F_Lcar.binds (ps := ["_law_pool_here", "_law_longest"]) fun _ _ _ _ _ _ us hl => match us, hl with | [_, _], _ => rfl
  have F_Lcars := fun_mk (st := s_Lcars) l_Lcars q_Lcars k_Lcars
  have b_Lcars := F_Lcars.binds (ps := ["_law_pool_here", "_law_size", "_law_alike"]) fun _ _ _ _ _ _ us hl => match us, hl with | [_, _, _], _ => rfl
  have F_Lserves := fun_mk (st := s_Lserves) l_Lserves q_Lserves k_Lserves
  have b_Lserves := F_Lserves.binds (ps := ["_law_rule", "_law_terms_here", "_law_cars_here", "_law_widths"]) fun _ _ _ _ _ _ us hl => match us, hl with | [_, _, _, _], _ => rfl
  refine ⟨PySem.W.fnOf "law" "law" (defArgs s_law) (defBody s_law) (defScope s_law) .none kV_law dc_law pm_law an_law cd_law ct_law, fun s v => .of_eq rfl, fun base _ _ => ?_⟩
  have c_umeasures := cal_mk (ok_umeasures (P := l.prog) (w := w) (base := base) F_umeasures T ) (PySem.W.mg_of X G a_umeasures) k_umeasures b_umeasures
  have c_unumbers := cal_mk (ok_unumbers (P := l.prog) (w := w) (base := base) F_unumbers T c_umeasures) (PySem.W.mg_of X G a_unumbers) k_unumbers b_unumbers
  have c_uplace_behind := cal_mk (ok_uplace_behind (P := l.prog) (w := w) (base := base) F_uplace_behind T ) (PySem.W.mg_of X G a_uplace_behind) k_uplace_behind b_uplace_behind
  have c_Rule := mak_mk (ok_Rule_init (P := l.prog) (w := w) (base := base) F_Rule_init T ) (T.g_Rule) ⟨mk_Rule, a_Rule_init, j_Rule_init, mkk_Rule⟩ b_Rule_init
  have c_Rule_call := met_mk (ok_Rule_call (P := l.prog) (w := w) (base := base) F_Rule_call T c_unumbers) T.cl_Rule ⟨a_Rule_call, j_Rule_call, k_Rule_call⟩ b_Rule_call (fn_in l_Rule_call)
  have c_Rule_order := met_mk (ok_Rule_order (P := l.prog) (w := w) (base := base) F_Rule_order T c_unumbers c_uplace_behind) T.cl_Rule ⟨a_Rule_order, j_Rule_order, k_Rule_order⟩ b_Rule_order (fn_in l_Rule_order)
  have c_Rule_serve := met_mk (ok_Rule_serve (P := l.prog) (w := w) (base := base) F_Rule_serve T c_Rule_order) T.cl_Rule ⟨a_Rule_serve, j_Rule_serve, k_Rule_serve⟩ b_Rule_serve (fn_in l_Rule_serve)
  have c_Lcell := cal_mk (ok_Lcell (P := l.prog) (w := w) (base := base) F_Lcell T ) (PySem.W.mg_of X G a_Lcell) k_Lcell b_Lcell
  have c_Lpool := cal_mk (ok_Lpool (P := l.prog) (w := w) (base := base) F_Lpool T ) (PySem.W.mg_of X G a_Lpool) k_Lpool b_Lpool
  have c_Ltake := cal_mk (ok_Ltake (P := l.prog) (w := w) (base := base) F_Ltake T ) (PySem.W.mg_of X G a_Ltake) k_Ltake b_Ltake
  have c_Lsame := cal_mk (ok_Lsame (P := l.prog) (w := w) (base := base) F_Lsame T (PySem.W.mg_of X G a_Lsame) k_Lsame b_Lsame 3) (PySem.W.mg_of X G a_Lsame) k_Lsame b_Lsame
  have c_Lterms := cal_mk (ok_Lterms (P := l.prog) (w := w) (base := base) F_Lterms T c_Ltake) (PySem.W.mg_of X G a_Lterms) k_Lterms b_Lterms
  have c_Lmeasure := cal_mk (ok_Lmeasure (P := l.prog) (w := w) (base := base) F_Lmeasure T ) (PySem.W.mg_of X G a_Lmeasure) k_Lmeasure b_Lmeasure
  have c_Lkey := cal_mk (ok_Lkey (P := l.prog) (w := w) (base := base) F_Lkey T c_Lmeasure) (PySem.W.mg_of X G a_Lkey) k_Lkey b_Lkey
  have c_Lahead := cal_mk (ok_Lahead (P := l.prog) (w := w) (base := base) F_Lahead T ) (PySem.W.mg_of X G a_Lahead) k_Lahead b_Lahead
  have c_Lorder := cal_mk (ok_Lorder (P := l.prog) (w := w) (base := base) F_Lorder T c_Lkey c_Lahead) (PySem.W.mg_of X G a_Lorder) k_Lorder b_Lorder
  have c_Lcar := cal_mk (ok_Lcar (P := l.prog) (w := w) (base := base) F_Lcar T c_Ltake) (PySem.W.mg_of X G a_Lcar) k_Lcar b_Lcar
  have c_Lcars := cal_mk (ok_Lcars (P := l.prog) (w := w) (base := base) F_Lcars T c_Lcar c_Ltake) (PySem.W.mg_of X G a_Lcars) k_Lcars b_Lcars
  have c_Lserves := cal_mk (ok_Lserves (P := l.prog) (w := w) (base := base) F_Lserves T c_Lorder c_Rule_order c_Lsame c_Rule_serve) (PySem.W.mg_of X G a_Lserves) k_Lserves b_Lserves
  exact ok_law (fun_mk (st := s_law) l_law q_law k_law) T c_Lterms c_Lpool c_Lcell c_Ltake c_Lcars c_Rule c_Lserves

theorem walk {l : PySem.W.OpenLaw} {q : Program} {loose : List Str} {XP : (Str → Option Value) → Heap → Prop} {YP : World → Heap → Prop} {d : DefRec} {K : Params → PySem.W.Frag} (hn : l.most = some 63) (hdf : d.params.defaults = [])
    (hY : ∀ (w : World) (h : Heap), YP w h → (K w.params).In h)
    (F : ∀ (w : World) (mg : Str → Option Value) (fa : Addr) (h : Heap), (K w.params).In h → h.Ns mainGlobals mg → mg d.name = some (.ref fa) →
      ∃ fd : FuncData, (∀ (s : Shared) (u : Value), BindsTo s fd ⟨[u], []⟩ [("_law_script", u)]) ∧ ∀ base : Heap, (K w.params).In base → base.Ns mainGlobals mg → FnOk l.prog w (K w.params) mg base CX0 6 fa fd ["_law_script"] (sp_law (K w.params))) :
    PySem.W.WalkO q loose XP YP l.row.toRowW d [] (fun f vs => PySem.call f vs) :=
  L2.walk_of (n := 63) (k := 6) (x := "_law_script") (CX := fun _ => CX0) (sp := fun w => sp_law (K w.params)) hn (by decide) hdf ⟨rfl, by decide, by decide⟩ hY F (fun _ _ a ns hl _ hS => ⟨a, ns, rfl, hS, hl, fun _ => rfl⟩) fun _ _ _ _ _ z => z
end My

open PySem PySem.W PyProof.Rows in
set_option maxRecDepth 100000 in
set_option maxHeartbeats 0 in
theorem PySem.Challenge.cw_onecable_k10_rule_serves_holds : PySem.Challenge.rw_onecable_k10_rule_serves.Holds := by
  w_on; o_law; k_head; (case hw => w_witness2)
  k_fill
  refine My.walk (l := PySem.Challenge.rw_onecable_k10_rule_serves) rfl rfl (fun w h Y => PySem.W.kIn_of Y) ?F
  case F =>
    intro w mg fa h KX G hmg
    refine' My.all_mk KX G hmg ?g_Rule ?pg_Rule ?hd_Rule ?po_Rule ?sa_Rule ?nf_Rule_terms ?c_WORDS ?l_WORDS ?c_OTHER_SIDE ?l_OTHER_SIDE ?low_OTHER_SIDE ?v_OTHER_SIDE_least ?v_OTHER_SIDE_most ?n_tuple ?n_len ?n_enumerate ?n_set ?n_range ?n_int ?n_abs ?n_isinstance ?n_bool ?n_str ?n_list ?mk_Rule ?mkk_Rule ?a_umeasures ?l_umeasures ?q_umeasures ?k_umeasures ?a_unumbers ?l_unumbers ?q_unumbers ?k_unumbers ?a_uplace_behind ?l_uplace_behind ?q_uplace_behind ?k_uplace_behind ?a_Rule_init ?j_Rule_init ?l_Rule_init ?q_Rule_init ?k_Rule_init ?a_Rule_call ?j_Rule_call ?l_Rule_call ?q_Rule_call ?k_Rule_call ?a_Rule_order ?j_Rule_order ?l_Rule_order ?q_Rule_order ?k_Rule_order ?a_Rule_serve ?j_Rule_serve ?l_Rule_serve ?q_Rule_serve ?k_Rule_serve ?a_Lcell ?l_Lcell ?q_Lcell ?k_Lcell ?a_Lpool ?l_Lpool ?q_Lpool ?k_Lpool ?a_Ltake ?l_Ltake ?q_Ltake ?k_Ltake ?a_Lsame ?l_Lsame ?q_Lsame ?k_Lsame ?a_Lterms ?l_Lterms ?q_Lterms ?k_Lterms ?a_Lmeasure ?l_Lmeasure ?q_Lmeasure ?k_Lmeasure ?a_Lkey ?l_Lkey ?q_Lkey ?k_Lkey ?a_Lahead ?l_Lahead ?q_Lahead ?k_Lahead ?a_Lorder ?l_Lorder ?q_Lorder ?k_Lorder ?a_Lcar ?l_Lcar ?q_Lcar ?k_Lcar ?a_Lcars ?l_Lcars ?q_Lcars ?k_Lcars ?a_Lserves ?l_Lserves ?q_Lserves ?k_Lserves ?a_law ?l_law ?q_law ?k_law
    (case g_Rule => k_is)
    (case pg_Rule => k_is)
    (case hd_Rule => k_is)
    (case po_Rule => k_is)
    (case sa_Rule => k_is)
    (case nf_Rule_terms => k_is)
    (case c_WORDS => k_is)
    (case l_WORDS => k_is)
    (case c_OTHER_SIDE => k_is)
    (case l_OTHER_SIDE => k_is)
    (case low_OTHER_SIDE => first | rfl | decide | k_is)
    (case v_OTHER_SIDE_least => k_is)
    (case v_OTHER_SIDE_most => k_is)
    (case n_tuple => k_is)
    (case n_len => k_is)
    (case n_enumerate => k_is)
    (case n_set => k_is)
    (case n_range => k_is)
    (case n_int => k_is)
    (case n_abs => k_is)
    (case n_isinstance => k_is)
    (case n_bool => k_is)
    (case n_str => k_is)
    (case n_list => k_is)
    (case mk_Rule => k_is)
    (case mkk_Rule => k_is)
    (case a_umeasures => k_is)
    (case l_umeasures => k_is)
    (case q_umeasures => k_is)
    (case k_umeasures => k_is)
    (case a_unumbers => k_is)
    (case l_unumbers => k_is)
    (case q_unumbers => k_is)
    (case k_unumbers => k_is)
    (case a_uplace_behind => k_is)
    (case l_uplace_behind => k_is)
    (case q_uplace_behind => k_is)
    (case k_uplace_behind => k_is)
    (case a_Rule_init => k_is)
    (case j_Rule_init => k_is)
    (case l_Rule_init => k_is)
    (case q_Rule_init => k_is)
    (case k_Rule_init => k_is)
    (case a_Rule_call => k_is)
    (case j_Rule_call => k_is)
    (case l_Rule_call => k_is)
    (case q_Rule_call => k_is)
    (case k_Rule_call => k_is)
    (case a_Rule_order => k_is)
    (case j_Rule_order => k_is)
    (case l_Rule_order => k_is)
    (case q_Rule_order => k_is)
    (case k_Rule_order => k_is)
    (case a_Rule_serve => k_is)
    (case j_Rule_serve => k_is)
    (case l_Rule_serve => k_is)
    (case q_Rule_serve => k_is)
    (case k_Rule_serve => k_is)
    (case a_Lcell => k_is)
    (case l_Lcell => k_is)
    (case q_Lcell => k_is)
    (case k_Lcell => k_is)
    (case a_Lpool => k_is)
    (case l_Lpool => k_is)
    (case q_Lpool => k_is)
    (case k_Lpool => k_is)
    (case a_Ltake => k_is)
    (case l_Ltake => k_is)
    (case q_Ltake => k_is)
    (case k_Ltake => k_is)
    (case a_Lsame => k_is)
    (case l_Lsame => k_is)
    (case q_Lsame => k_is)
    (case k_Lsame => k_is)
    (case a_Lterms => k_is)
    (case l_Lterms => k_is)
    (case q_Lterms => k_is)
    (case k_Lterms => k_is)
    (case a_Lmeasure => k_is)
    (case l_Lmeasure => k_is)
    (case q_Lmeasure => k_is)
    (case k_Lmeasure => k_is)
    (case a_Lkey => k_is)
    (case l_Lkey => k_is)
    (case q_Lkey => k_is)
    (case k_Lkey => k_is)
    (case a_Lahead => k_is)
    (case l_Lahead => k_is)
    (case q_Lahead => k_is)
    (case k_Lahead => k_is)
    (case a_Lorder => k_is)
    (case l_Lorder => k_is)
    (case q_Lorder => k_is)
    (case k_Lorder => k_is)
    (case a_Lcar => k_is)
    (case l_Lcar => k_is)
    (case q_Lcar => k_is)
    (case k_Lcar => k_is)
    (case a_Lcars => k_is)
    (case l_Lcars => k_is)
    (case q_Lcars => k_is)
    (case k_Lcars => k_is)
    (case a_Lserves => k_is)
    (case l_Lserves => k_is)
    (case q_Lserves => k_is)
    (case k_Lserves => k_is)
    (case a_law => k_is)
    (case l_law => k_is)
    (case q_law => k_is)
    (case k_law => k_is)

