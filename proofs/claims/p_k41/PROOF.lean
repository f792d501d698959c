import PyProof.Rows.All
import Wide.All
import OpenK.AllK
import Wide.FinOn
import HandS.ForExc
import HandS.ForMost
import HandS.TryOnly
import HandS.ExcOwn
import HandS.WordsExc
import HandS.Wide
import HandS.Codes
import HandS.IsInst
import HandS.ExcIs
import HandS.More
import HandS.Star
import KE.RegKIsAll
import HandS.OwnEq
import KE.GoesEnum
import HandS.Zip
import HandS.Style
import HandS.NamedTupSort
import HandS.Set
import HandS.Property
import HandS.Walk
import HandS.OwnIter
import HandS.ClsMeth
import PySem.Challenge.RW_onecable_k41_claims_added_and_read
set_option Elab.async false
set_option maxRecDepth 100000
set_option maxHeartbeats 4000000
set_option linter.all false
namespace My
open PySem PySem.Spec PyProof.Rows L2
/-! ### callables of the text: a def by its name, a method, a class -/
structure Cal (CX : CXT) (P : Program) (w : World) (K : PySem.W.Frag) (mg : Str → Option Value) (base : Heap) (k : Nat) (x : Str) (sp : Sp) : Prop where
  ex : ∃ (f : Addr) (fd : FuncData) (ps : List Str), FnOk P w K mg base CX k f fd ps sp ∧ mg x = some (.ref f) ∧ PySem.W.keepIn K (.ref f) = true ∧ Binds K fd ps []
structure Met (CX : CXT) (P : Program) (w : World) (K : PySem.W.Frag) (mg : Str → Option Value) (base : Heap) (k : Nat) (C : Addr) (m : Str) (sp : Sp) : Prop where
  ex : ∃ (f : Addr) (fd : FuncData) (ps : List Str), Cls K C ∧ Meth K C m f ∧ FnOk P w K mg base CX k f fd ps sp ∧ Binds K fd ps []
  fi : ∀ f, PySem.W.findIn K (.ref C) m = some (some (.ref f)) → PySem.W.fnIn K f = true
structure Mak (CX : CXT) (P : Program) (w : World) (K : PySem.W.Frag) (mg : Str → Option Value) (base : Heap) (k : Nat) (x : Str) (C : Addr) (sp : Sp) : Prop where
  ex : ∃ (f : Addr) (fd : FuncData) (ps : List Str), Mk K C f ∧ FnOk P w K mg base CX k f fd ps sp ∧ mg x = some (.ref C) ∧ Binds K fd ps []
section
variable {CX : CXT} {P : Program} {w : World} {K : PySem.W.Frag} {mg : Str → Option Value} {base : Heap} {k : Nat} {x m : Str} {f C : Addr} {fd : FuncData} {ps : List Str} {sp : Sp}
theorem cal_mk (F : FnOk P w K mg base CX k f fd ps sp) (m : mg x = some (.ref f)) (kp : PySem.W.keepIn K (.ref f) = true) (b : Binds K fd ps []) : Cal CX P w K mg base k x sp := ⟨f, fd, ps, F, m, kp, b⟩
theorem met_mk (F : FnOk P w K mg base CX k f fd ps sp) (c : Cls K C) (me : Meth K C m f) (b : Binds K fd ps []) (fi : PySem.W.fnIn K f = true) : Met CX P w K mg base k C m sp := ⟨⟨f, fd, ps, c, me, F, b⟩, fun g h => by
  have z := me.at_.symm.trans h
  cases z
  exact fi⟩
theorem fn_in {oc : Value} {od : Option Addr} {fdx : FuncData} {sl : Array (Option Value)} (l : K.lookup f = some ⟨oc, od, .func fdx, sl⟩) : PySem.W.fnIn K f = true := by
  unfold PySem.W.fnIn
  rw [l]
theorem mak_mk (F : FnOk P w K mg base CX k f fd ps sp) (m : mg x = some (.ref C)) (M : Mk K C f) (b : Binds K fd ps []) : Mak CX P w K mg base k x C sp := ⟨f, fd, ps, M, F, m, b⟩
end
section
variable {X : Cx} {CX : CXT} {k j : Nat} {C : Addr} {x m : Str} {sp : Sp} {E : XK} {p pos apos : Pos} {e o : Expr} {es : List Expr} {ta : TE} {t : TA}
theorem pc_c (c : Cal CX X.prog X.w X.K X.mg X.base k x sp) (hr : Room j X.A) (hk : k ≤ j) (hg : Gl X x) (hx : Passes CX X E) (ha : PA X (e :: es) t)
    (hdb : (x == ("__debug__" : Str)) = false := by decide) (he : starEach (e :: es) X.env = (false, eval e X.env) :: starEach es X.env := by rfl) (hpl : (backTo pos (starEach es X.env)).any (·.1) = false := by rfl) :
    PE X (.Call (.Name x p) (e :: es) [] pos) (tCall sp [] E t) := by
  obtain ⟨f, fd, ps, F, hm, kp, b⟩ := c.ex
  exact pe_call F (hr.mono hk) hg hm kp b .nil hx ha hdb he hpl
theorem pc_cS {E : L2.St → XK} (c : Cal CX X.prog X.w X.K X.mg X.base k x sp) (hr : Room j X.A) (hk : k ≤ j) (hg : Gl X x) (hx : ∀ σ, PassesAt CX X σ (E σ)) (ha : PA X (e :: es) t)
    (hdb : (x == ("__debug__" : Str)) = false := by decide) (he : starEach (e :: es) X.env = (false, eval e X.env) :: starEach es X.env := by rfl) (hpl : (backTo pos (starEach es X.env)).any (·.1) = false := by rfl) :
    PE X (.Call (.Name x p) (e :: es) [] pos) (tCallS sp E t) := by
  obtain ⟨f, fd, ps, F, hm, kp, b⟩ := c.ex
  exact pe_callS F (hr.mono hk) hg hm kp b hx ha hdb he hpl
theorem pc_mk (c : Mak CX X.prog X.w X.K X.mg X.base k x C sp) (hr : Room j X.A) (hk : k + 1 ≤ j) (hg : Gl X x) (hx : Passes CX X E) (ha : PA X (e :: es) t)
    (hdb : (x == ("__debug__" : Str)) = false := by decide) (he : starEach (e :: es) X.env = (false, eval e X.env) :: starEach es X.env := by rfl) (hpl : (backTo pos (starEach es X.env)).any (·.1) = false := by rfl) :
    PE X (.Call (.Name x p) (e :: es) [] pos) (tMake C sp [] E t) := by
  obtain ⟨f, fd, ps, M, F, hm, b⟩ := c.ex
  exact pe_make M F (hr.mono hk) hg hm b .nil hx ha hdb he hpl
/-- a class made where a try stands around: what is raised is wished for at the slots -/
def tMakeS (C : Addr) (sp : Sp) (E : L2.St → XK) (t : TA) : TE := fun σ H Q => t σ H fun vs H1 => ∀ x dx, H1 x = none → H1 dx = none → dx ≠ x →
  sp (.ref x :: (vs ++ [])) (upd (upd H1 dx (.own x)) x (.ins C dx [])) (fun v H2 => v = .non ∧ Q (.ref x) H2) (E σ)
theorem run_mkS {f : Addr} {fd : FuncData} {ps : List Str} {ds : List Value} {dvs : List V} {pins : List (Addr × Obj)} {σ : L2.St} {H : Hp} {s : Shared} {Q : VK} {us : List Value} {vs : List V} (M : Mk X.K C f) (F : FnOk X.prog X.w X.K X.mg X.base CX k f fd ps sp) (hr : Room (k + 1) X.A) (hb : Binds X.K fd ps ds) (hd : Vals dvs ds)
    (hx : PassesAt CX X σ E) (I : Inv X pins σ H s) (r : Vals vs us)
    (h : ∀ x dx, H x = none → H dx = none → dx ≠ x → sp (.ref x :: (vs ++ dvs)) (upd (upd H dx (.own x)) x (.ins C dx [])) (fun v H2 => v = .non ∧ Q (.ref x) H2) E) :
    wpAny (model X.prog X.w) X.A (call (.ref C) us) (EP X pins σ Q) X.xe s := by
  have hq := h (s.heap.objs.size + 1) s.heap.objs.size (I.hok.fresh (Nat.le_succ _)) (I.hok.fresh (Nat.le_refl _)) (Nat.ne_of_lt (Nat.lt_succ_self _))
  have I2 := Inv.made (C := C) I
  have r2 : Vals (V.ref (s.heap.objs.size + 1) :: (vs ++ dvs)) (Value.ref (s.heap.objs.size + 1) :: (us ++ ds)) := .cons rfl (r.append hd)
  have hl : (Value.ref (s.heap.objs.size + 1) :: us ++ ds).length = ps.length := by
    have e := r2.length
    rw [F.len _ _ _ _ hq] at e
    exact e.symm
  refine wpAny_call (make_map (f := f) I.kIn M.makes M.init (beq_iff_eq.mp M.fn) (codeAny_mono (F.run _ X.stack _ _ ⟨Value.ref (s.heap.objs.size + 1) :: us, []⟩ (Value.ref (s.heap.objs.size + 1) :: (us ++ ds)) _ _ E (hr.make C us [])
    (I2.env0.make C us []) (hb _ (Value.ref (s.heap.objs.size + 1) :: us) I2.kIn hl) r2 hq) fun r s' hq' => ?_))
  cases r with
  | error e => exact hx pins _ _ e s' I2 hq'
  | ok fl =>
    cases fl with
    | ret u =>
      obtain ⟨v, H', I3, rv, ev, q3⟩ := I2.after hq'
      subst ev
      exact ⟨rv, ⟨V.ref (s.heap.objs.size + 1), H', I3, rfl, q3⟩⟩
    | next => exact False.elim hq'
    | brk => exact False.elim hq'
    | cont => exact False.elim hq'
theorem pc_mkS {E : L2.St → XK} (c : Mak CX X.prog X.w X.K X.mg X.base k x C sp) (hr : Room j X.A) (hk : k + 1 ≤ j) (hg : Gl X x) (hx : ∀ σ, PassesAt CX X σ (E σ)) (ha : PA X (e :: es) t)
    (hdb : (x == ("__debug__" : Str)) = false := by decide) (he : starEach (e :: es) X.env = (false, eval e X.env) :: starEach es X.env := by rfl) (hpl : (backTo pos (starEach es X.env)).any (·.1) = false := by rfl) :
    PE X (.Call (.Name x p) (e :: es) [] pos) (tMakeS C sp E t) := by
  obtain ⟨f, fd, ps, M, F, hm, b⟩ := c.ex
  refine ⟨fun pins s σ H Q I h => ?_⟩
  refine wpAny_Call_Name_kw (ld_glob I hg hm ?_ hdb)
  refine PySem.W.callWith_K (h₀ := X.base) I.ok.mod.kin M.kp (thn (ha.run pos pins s σ H _ I h) fun us s1 ⟨vs, H1, I1, r, q⟩ => ⟨I1.kIn, ?_⟩) he hpl
  exact run_mkS M F (hr.mono hk) b .nil (hx σ) I1 r q
theorem pc_mt {pl : Sem Bool} (c : Met CX X.prog X.w X.K X.mg X.base k C m sp) (hr : Room j X.A) (hk : k ≤ j) (hx : Passes CX X E) (he : PE X o ta) (ha : PA X (e :: es) t)
    (hst : starEach (e :: es) X.env = (false, eval e X.env) :: starEach es X.env := by rfl) (hpl : (backTo pos (starEach es X.env)).any (·.1) = false := by rfl)
    (ht : eval (.Call (.Attribute o m apos) (e :: es) [] pos) X.env = (do
      let ov ← eval o X.env
      standAt apos.atName
      let (f, first) ← holding [ov] (getMethod ov m pl)
      callWith pos f first (backTo pos (starEach (e :: es) X.env)) (backToKw pos (keywordEach [] X.env))) := by rfl) :
    PE X (.Call (.Attribute o m apos) (e :: es) [] pos) (tMeth C m sp [] E ta t) := by
  obtain ⟨f, fd, ps, hc, hm, F, b⟩ := c.ex
  exact pe_meth (pl := pl) he hc hm F (hr.mono hk) b .nil hx ha hst hpl ht
theorem pc_mt0 {pl : Sem Bool} (c : Met CX X.prog X.w X.K X.mg X.base k C m sp) (hr : Room j X.A) (hk : k ≤ j) (hx : Passes CX X E) (he : PE X o ta)
    (ht : eval (.Call (.Attribute o m apos) [] [] pos) X.env = (do
      let ov ← eval o X.env
      standAt apos.atName
      let (f, first) ← holding [ov] (getMethod ov m pl)
      callWith pos f first (backTo pos (starEach [] X.env)) (backToKw pos (keywordEach [] X.env))) := by rfl) :
    PE X (.Call (.Attribute o m apos) [] [] pos) (tMeth C m sp [] E ta tNil) := by
  obtain ⟨f, fd, ps, hc, hm, F, b⟩ := c.ex
  exact pe_meth0 (pl := pl) he hc hm F (hr.mono hk) b .nil hx ht
/-! ### further operators -/
/-- * : one factor small, or both below a million bits together -/
def CMulA (i j : Int) : Prop := CMul i j ∨ CMulW i j
theorem op_mulA : OpR X (binaryOp .Mult) (rI CMulA fun i j => .int (i * j)) := opI fun _ _ _ _ _ _ _ hc q => mul_int q (hc.elim CMul.ok CMulW.ok)
/-- // by any divisor but 0 that is no giant -/
def CDivA (_ j : Int) : Prop := j ≠ 0 ∧ j.natAbs.log2 < 9000
theorem op_fdivA : OpR X (binaryOp .FloorDiv) (rI CDivA fun i j => .int (i.fdiv j)) := opI fun _ _ _ _ _ _ _ hc q => floordiv_int hc.1 q (.inl (PyProof.noPylong_of_log2 hc.2))
theorem divA {i j : Int} {b : Nat} (h : j ≠ 0) (hb : j.natAbs < 2 ^ b) (h0 : 0 < b) (h9 : b ≤ 9000) : CDivA i j := ⟨h, Nat.lt_of_lt_of_le (PySem.Flt.log2_lt_of h0 hb) h9⟩
end
/-! ### heaps: all but what stands at p is kept -/
def Kp (p : Addr) (H H' : Hp) : Prop := ∀ b o, b ≠ p → H b = some o → H' b = some o
theorem Kp.refl {p : Addr} {H : Hp} : Kp p H H := fun _ _ _ h => h
theorem Kp.trans {p : Addr} {H H1 H2 : Hp} (a : Kp p H H1) (b : Kp p H1 H2) : Kp p H H2 := fun c o n h => b c o n (a c o n h)
theorem Kp.upd {p : Addr} {H : Hp} {o : HO} : Kp p H (upd H p o) := fun _ _ n h => by rw [upd_ne n]; exact h
theorem Kp.same {p : Addr} {H0 H H' : Hp} (s : Same H0 H) (k : Kp p H H') (n : H0 p = none) : Same H0 H' := fun b o h => k b o (fun e => by rw [e, n] at h; cases h) (s b o h)
theorem same_upd {H : Hp} {p : Addr} {o : HO} (n : H p = none) : Same H (upd H p o) := fun b u h => by rw [upd_ne (ne_of_none h n)]; exact h
theorem Same.of (H : Hp) : Same H H := fun _ _ h => h
/-- isinstance(e, c), e the exception that the suite holds; its class and its dict are told in the reading -/
theorem call_isE2 {X : Cx} {a D : Addr} {oe : Obj} {cls : Value} {d : Option Addr} {pn : List (Addr × Obj)} (C : ExcC X.K D) (hz : Zc cls d oe) (hf : ∃ vs, oe.data = .fields vs) :
    CallR (X.suite a ((a, oe) :: pn)) (.builtin "isinstance") (fun xs H Q => cls = .ref D ∧ d = none ∧ rIsE X.K D a xs H Q) := by
  intro pins s σ H xs us Q I r h
  obtain ⟨rfl, rfl, h⟩ := h
  exact call_isE C hz hf pins s σ H xs us Q I r h
/-- an error of the class at S is what «except S» names -/
theorem exm_self {K : PySem.W.Frag} {S : Addr} (h1 : PySem.W.subIn K (.ref S) (.type "BaseException") = some true) (h2 : PySem.W.isClsIn K S = true) (h3 : PySem.W.typeIn K (.ref S) = some (.type "type")) (h4 : PySem.W.subIn K (.ref S) (.ref S) = some true) :
    PySem.W.exmOne K (.ref S) (.ref S) = some true := by
  have e1 : (PySem.W.subIn K (.ref S) (.type "BaseException") == some true) = true := by rw [h1] <;> rfl
  have e2 : ((PySem.W.clsIn K S).isSome && PySem.W.typeIn K (.ref S) == some (.type "type")) = true := by
    have h2' : (PySem.W.clsIn K S).isSome = true := h2
    rw [h2', h3] <;> rfl
  show (if (PySem.W.subIn K (.ref S) (.type "BaseException") == some true) = true then (if ((PySem.W.clsIn K S).isSome && PySem.W.typeIn K (.ref S) == some (.type "type")) = true then PySem.W.subIn K (.ref S) (.ref S) else none) else none) = some true
  rw [if_pos e1, if_pos e2]
  exact h4
/-- x is True, x is False: whatever x is -/
theorem op_isB {X : Cx} : OpR X (compareOp .Is) (fun x y H Q => ∃ b, y = .bl b ∧ Q (.bl (decide (x = .bl b))) H) := by
  intro pins s σ H x y v u Q I rx ry h
  obtain ⟨b, rfl, q⟩ := h
  cases (show u = Value.bool b from ry)
  have fin : ∀ k : Bool, decide (x = .bl b) = k → EP X pins σ Q (.bool k) s := fun k e => ⟨.bl k, H, I, rfl, by rw [← e]; exact q⟩
  cases x with
  | non => cases (show v = Value.none from rx); exact wpAny_pure (fin _ (by simp))
  | bl c =>
    cases (show v = Value.bool c from rx)
    refine wpAny_pure (fin _ ?_)
    by_cases e : c = b
    · subst e; simp
    · simp [e]
  | int i => obtain ⟨t, e⟩ := (show ∃ t, v = Value.int i t from rx); subst e; exact wpAny_pure (fin _ (by simp))
  | str i => obtain ⟨t, e⟩ := (show ∃ t, v = Value.str i t from rx); subst e; exact wpAny_pure (fin _ (by simp))
  | byt i => obtain ⟨t, e⟩ := (show ∃ t, v = Value.bytes i t from rx); subst e; exact wpAny_pure (fin _ (by simp))
  | flt i => obtain ⟨t, e⟩ := (show ∃ t, v = Value.float i t from rx); subst e; exact wpAny_pure (fin _ (by simp))
  | ref a => cases (show v = Value.ref a from rx); exact wpAny_pure (fin _ (by simp))
  | ty n => cases (show v = Value.type n from rx); exact wpAny_pure (fin _ (by simp))
theorem iteDT {p A B : Prop} [Decidable p] (hp : p) (h : A) : if decide p = true then A else B := by
  rw [decide_eq_true hp]
  exact iteT h
theorem iteDF {p A B : Prop} [Decidable p] (hp : ¬ p) (h : B) : if decide p = true then A else B := by
  rw [decide_eq_false hp]
  exact iteF h
/-! ### rules for a comprehension's block: the written part by its own name -/
section
variable {X : Cx} {K : PySem.W.Frag}
theorem pe_fldK {e : Expr} {f : Str} {pos : Pos} {ta : TE} (hK : X.K = K) (he : PE X e ta) (hb : attributeBase e f X.env (eval e X.env) = eval e X.env) : PE X (.Attribute e f pos) (tFld K ta f) := by
  subst hK
  exact pe_fld he hb
theorem pe_conK {e : Expr} {f : Str} {pos : Pos} {ta : TE} (hK : X.K = K) (he : PE X e ta) (hb : attributeBase e f X.env (eval e X.env) = eval e X.env) : PE X (.Attribute e f pos) (tCon K ta f) := by
  subst hK
  exact pe_con he hb
theorem call_len_seqK (hK : X.K = K) : CallR X (.builtin "len") (fun xs H Q => ∃ p ys, xs = [.ref p] ∧ (SqL K H p ys ∨ SqT K H p ys) ∧ Q (.int ys.length) H) := by
  subst hK
  exact call_len_seq
theorem call_list_ofK (hK : X.K = K) : CallR X (.type "list") (fun xs H Q => ∃ p ys, xs = [.ref p] ∧ (SqL K H p ys ∨ SqT K H p ys) ∧ ∀ l, H l = none → Q (.ref l) (upd H l (.lst ys))) := by
  subst hK
  exact call_list_of
theorem call_tuple_ofK (hK : X.K = K) : CallR X (.type "tuple") (fun xs H Q => ∃ p ys, xs = [.ref p] ∧ ((SqL K H p ys ∧ ∀ l, H l = none → Q (.ref l) (upd H l (.tup ys))) ∨ (SqT K H p ys ∧ Q (.ref p) H))) := by
  subst hK
  exact call_tuple_of
theorem call_isiK (hK : X.K = K) : CallR X (.builtin "isinstance") (rIsi K) := by
  subst hK
  exact call_isi
theorem cr_sumK (hK : X.K = K) (hc : X.calm = true) : CallR X (.builtin "sum") (rSum K) := by
  subst hK
  exact cr_sum hc
end
/-! ### properties -/
structure Prp (CX : CXT) (P : Program) (w : World) (K : PySem.W.Frag) (mg : Str → Option Value) (base : Heap) (k : Nat) (C : Addr) (m : Str) (sp : Sp) : Prop where
  ex : ∃ (p g : Addr) (fd : FuncData) (ps : List Str), Cls K C ∧ PropOf K C m p g ∧ FnOk P w K mg base CX k g fd ps sp ∧ Binds K fd ps []
theorem prp_mk {CX : CXT} {P : Program} {w : World} {K : PySem.W.Frag} {mg : Str → Option Value} {base : Heap} {k : Nat} {m : Str} {f p C : Addr} {fd : FuncData} {ps : List Str} {sp : Sp} (F : FnOk P w K mg base CX k f fd ps sp) (c : Cls K C) (h : PropOf K C m p f) (b : Binds K fd ps []) : Prp CX P w K mg base k C m sp := ⟨p, f, fd, ps, c, h, F, b⟩
theorem pc_prop {X : Cx} {CX : CXT} {k j : Nat} {C : Addr} {m : Str} {sp : Sp} {E : XK} {e : Expr} {pos : Pos} {ta : TE} (c : Prp CX X.prog X.w X.K X.mg X.base k C m sp) (hr : Room j X.A) (hk : k + 1 ≤ j) (hx : Passes CX X.nox E) (he : PE X e ta)
    (hab : attributeBase e m X.env (eval e X.env) = eval e X.env) : PE X (.Attribute e m pos) (tProp C sp [] E ta) := by
  obtain ⟨p, g, fd, ps, hc, hp, F, b⟩ := c.ex
  exact pe_prop he hc hp F (hr.mono hk) b .nil hx hab
/-! ### operators of an own class, called by their signs -/
theorem inst_of {X : Cx} {pins : List (Addr × Obj)} {σ : L2.St} {H : Hp} {s : Shared} {a C dx : Addr} {fs : List (Str × V)} (I : Inv X pins σ H s) (h : H a = some (.ins C dx fs)) :
    ∃ (ox : Obj) (od : Option Obj), PySem.W.InstAt s.heap a ox C od ∧ ox.data = .plain := by
  obtain ⟨mA, O, _⟩ := ins_get I.hok h
  obtain ⟨od, J, _⟩ := O.look
  exact ⟨_, _, J, rfl⟩
theorem back_of {X : Cx} {pins : List (Addr × Obj)} {σ : L2.St} {Q : VK} {u : Value} {s : Shared} (h : EP X pins σ Q u s) : PySem.W.CmpBack (EP X pins σ Q) u s := by
  obtain ⟨v, H', I, r, q⟩ := id h
  cases u with
  | notImplemented =>
    cases v <;> first
      | exact (nomatch (show Value.notImplemented = _ from r))
      | (obtain ⟨t, e⟩ := (show ∃ t, Value.notImplemented = _ from r); cases e)
  | _ => exact h
/-- what the text has of an operator's method: run it on two values; A: where the call stands -/
theorem met_runA {X : Cx} {CX : CXT} {A : Around} {k j : Nat} {C : Addr} {m : Str} {sp : Sp} {E : XK} (c : Met CX X.prog X.w X.K X.mg X.base k C m sp) (hr : Room j A) (hk : k ≤ j) (hx : Passes CX X E)
    (hA : ∀ (s : Shared) (H : Hp), Env0 X.prog X.w X.K X.mg X.base X.A X.stack s H → Env0 X.prog X.w X.K X.mg X.base A X.stack s H) :
    ∃ f : Addr, PySem.W.findIn X.K (.ref C) m = some (some (.ref f)) ∧ PySem.W.isFn X.K (.ref f) = true ∧ PySem.W.keepIn X.K (.ref f) = true ∧
      ∀ (pins : List (Addr × Obj)) (s : Shared) (σ : L2.St) (H : Hp) (us : List Value) (vs : List V) (Q : VK), Inv X pins σ H s → Vals vs us → sp vs H Q E → wpAny (model X.prog X.w) A (call (.ref f) us) (EP X pins σ Q) X.xe s := by
  obtain ⟨f, fd, ps, hc, hm, F, b⟩ := c.ex
  refine ⟨f, hm.at_, hm.fn, hm.kp, fun pins s σ H us vs Q I r h => ?_⟩
  have hl : us.length = ps.length := by rw [← r.length]; exact F.len _ _ _ _ h
  have hb := b s us I.kIn (by rw [List.append_nil]; exact hl)
  rw [List.append_nil] at hb
  refine wpAny_call (codeAny_mono (F.run A X.stack s H ⟨us, []⟩ us vs Q E (hr.mono hk) (hA _ _ I.env0) hb r h) fun r s' hq => ?_)
  match r with
  | .error e => exact hx pins σ H s e s' I hq
  | .ok (.ret u) => exact I.after hq
  | .ok .next => exact False.elim hq
  | .ok .brk => exact False.elim hq
  | .ok .cont => exact False.elim hq
theorem met_run {X : Cx} {CX : CXT} {k j : Nat} {C : Addr} {m : Str} {sp : Sp} {E : XK} (c : Met CX X.prog X.w X.K X.mg X.base k C m sp) (hr : Room j X.A) (hk : k ≤ j) (hx : Passes CX X E) :
    ∃ f : Addr, PySem.W.findIn X.K (.ref C) m = some (some (.ref f)) ∧ PySem.W.isFn X.K (.ref f) = true ∧ PySem.W.keepIn X.K (.ref f) = true ∧
      ∀ (pins : List (Addr × Obj)) (s : Shared) (σ : L2.St) (H : Hp) (us : List Value) (vs : List V) (Q : VK), Inv X pins σ H s → Vals vs us → sp vs H Q E → wpAny (model X.prog X.w) X.A (call (.ref f) us) (EP X pins σ Q) X.xe s := met_runA c hr hk hx fun _ _ z => z
section
variable {X : Cx} {CX : CXT} {k j : Nat} {C : Addr} {m : Str} {sp : Sp} {E : XK}
def rOwn2 (C : Addr) (sp : Sp) (E : XK) : R2 := fun x y H Q => ∃ (a b dx dy : Addr) (fs gs : List (Str × V)), x = .ref a ∧ y = .ref b ∧ H a = some (.ins C dx fs) ∧ H b = some (.ins C dy gs) ∧ sp [x, y] H Q E
/-- x op y, both of one own class that has the method -/
theorem op_own {op : Operator} (c : Met CX X.prog X.w X.K X.mg X.base k C m sp) (hr : Room j X.A) (hk : k ≤ j) (hx : Passes CX X E) (sf : PySem.W.selfFirst X.K C = true) (hm : PySem.dunder op.info.2 = m := by decide +kernel) :
    OpR X (binaryOp op) (rOwn2 C sp E) := by
  intro pins s σ H x y v u Q I rx ry h
  obtain ⟨a, b, dx, dy, fs, gs, rfl, rfl, ha, hb, hs⟩ := h
  obtain ⟨f, hf, fn, kp, run⟩ := met_run c hr hk hx
  obtain ⟨mF, F⟩ := I.fr
  obtain ⟨ox, od, J, _⟩ := inst_of I ha
  obtain ⟨oy, oe, J2, _⟩ := inst_of I hb
  have r2 : Vals [V.ref a, V.ref b] [v, u] := .cons rx (.cons ry .nil)
  cases (show v = Value.ref a from rx)
  cases (show u = Value.ref b from ry)
  exact PySem.W.binop_K F I.ok.mod.kin J J2.type sf (by rw [hm]; exact hf) fn (wpAny_mono (run pins s σ H _ _ Q I r2 hs) (fun _ _ z => back_of z) fun _ _ z => z)
def rOwnI (C : Addr) (sp : Sp) (E : XK) : R2 := fun x y H Q => ∃ (a dx : Addr) (fs : List (Str × V)) (i : Int), x = .ref a ∧ y = .int i ∧ H a = some (.ins C dx fs) ∧ sp [x, y] H Q E
/-- x op i, i a whole number -/
theorem op_ownI {op : Operator} (c : Met CX X.prog X.w X.K X.mg X.base k C m sp) (hr : Room j X.A) (hk : k ≤ j) (hx : Passes CX X E) (sf : PySem.W.selfFirst X.K C = true)
    (hrc : ∃ rc, PySem.W.findIn X.K (.ref C) (dunderR op.info.2) = some rc ∧ (rc = none ∨ ∃ g : Addr, rc = some (.ref g)))
    (h1 : ∃ fo, PySem.W.findIn X.K (.type "int") (PySem.dunder op.info.2) = some fo) (h2 : ∃ ro, PySem.W.findIn X.K (.type "int") (dunderR op.info.2) = some ro) (hsub : PySem.W.subIn X.K (.type "int") (.ref C) = some false)
    (hm : PySem.dunder op.info.2 = m := by decide +kernel) : OpR X (binaryOp op) (rOwnI C sp E) := by
  intro pins s σ H x y v u Q I rx ry h
  obtain ⟨a, dx, fs, i, rfl, rfl, ha, hs⟩ := h
  obtain ⟨f, hf, fn, kp, run⟩ := met_run c hr hk hx
  obtain ⟨rc, hrc, hp⟩ := hrc
  obtain ⟨fo, h1⟩ := h1
  obtain ⟨ro, h2⟩ := h2
  obtain ⟨mF, F⟩ := I.fr
  obtain ⟨ox, od, J, _⟩ := inst_of I ha
  have r2 : Vals [V.ref a, V.int i] [v, u] := .cons rx (.cons ry .nil)
  cases (show v = Value.ref a from rx)
  obtain ⟨t, et⟩ := (show ∃ t, u = Value.int i t from ry)
  subst et
  exact PySem.W.ksp_binT (T := "int") F I.ok.mod.kin J rfl sf (by rw [hm]; exact hf) fn hrc hp h1 h2 hsub (wpAny_mono (run pins s σ H _ _ Q I r2 hs) (fun _ _ z => back_of z) fun _ _ z => z)
def rOwn1 (C : Addr) (sp : Sp) (E : XK) : V → Hp → VK → Prop := fun x H Q => ∃ (a dx : Addr) (fs : List (Str × V)), x = .ref a ∧ H a = some (.ins C dx fs) ∧ sp [x] H Q E
/-- -x -/
theorem un_own (c : Met CX X.prog X.w X.K X.mg X.base k C "__neg__" sp) (hr : Room j X.A) (hk : k ≤ j) (hx : Passes CX X E) : UnR X (unaryOp .USub) (rOwn1 C sp E) := by
  intro pins s σ H x v Q I rx h
  obtain ⟨a, dx, fs, rfl, ha, hs⟩ := h
  obtain ⟨f, hf, fn, kp, run⟩ := met_run c hr hk hx
  obtain ⟨mF, F⟩ := I.fr
  obtain ⟨ox, od, J, _⟩ := inst_of I ha
  have r1 : Vals [V.ref a] [v] := .cons rx .nil
  cases (show v = Value.ref a from rx)
  exact PySem.W.ksp_neg F I.ok.mod.kin J hf fn (run pins s σ H _ _ Q I r1 hs)
/-- int's method finds no int in an own instance -/
theorem int_declines {prog : Program} {w : World} {A : Around} {Er : Value → Shared → Prop} {s : Shared} {x D : Addr} {ox : Obj} {od : Option Obj} {i : Int} {t : Tok} {nm : String} {id : String} {nmB : String} {f : Int → Int → Sem Fin} {Q : Option Value → Shared → Prop}
    (J : PySem.W.InstAt s.heap x ox D od) (hd : ox.data = .plain) (slot : Slot "int" (PySem.dunder nm) id) (entry : entryFor table id = some (Builtin.Int.intBinary nmB f)) (args : argsOk id ⟨[.int i t, .ref x], []⟩) (h : Q none s) :
    wpAny (model prog w) A (tryMethod (.int i t) (PySem.dunder nm) (.ref x)) Q Er s := by
  refine wpAny_tryMethod_declines (typeIs_int s i t) slot ?_
  refine GQ.call_here slot (typeIs_int s i t) entry args ?_
  unfold Builtin.Int.intBinary
  obtain ⟨hp, g, d, tk, os⟩ := s
  obtain ⟨oc, odd, odt, osl⟩ := ox
  dsimp only at hd
  subst hd
  have hx : hp.get? x = some _ := J.1
  wp_walk using AutoSeq1.wpAny_loadPart' hx
  exact ⟨rfl, h⟩
end
def rIOwn (C : Addr) (sp : Sp) (E : XK) : R2 := fun x y H Q => ∃ (a dx : Addr) (fs : List (Str × V)) (i : Int), x = .int i ∧ y = .ref a ∧ H a = some (.ins C dx fs) ∧ sp [y, x] H Q E
/-- i op x, i a whole number: x's reflected method -/
theorem op_Iown {X : Cx} {CX : CXT} {k j : Nat} {C : Addr} {sp : Sp} {E : XK} {op : Operator} {nm id nmB : String} {f : Int → Int → Sem Fin} (hop : op.info.2 = nm)
    (slot : Slot "int" (PySem.dunder nm) id) (entry : entryFor table id = some (Builtin.Int.intBinary nmB f)) (args : ∀ (i : Int) (t : Tok) (x : Addr), argsOk id ⟨[.int i t, .ref x], []⟩) (fills : fillsNumberSlot (.type "int") nm = pure true)
    (c : Met CX X.prog X.w X.K X.mg X.base k C (dunderR nm) sp) (hr : Room j X.A) (hk : k ≤ j) (hx : Passes CX X E) (sf : PySem.W.selfFirst X.K C = true)
    (hs : ∃ g : Addr, PySem.W.findIn X.K (.ref C) (PySem.dunder nm) = some (some (.ref g))) (hsub : PySem.W.subIn X.K (.ref C) (.type "int") = some false) : OpR X (binaryOp op) (rIOwn C sp E) := by
  intro pins s σ H x y v u Q I rx ry h
  obtain ⟨a, dx, fs, i, rfl, rfl, ha, hsp⟩ := h
  obtain ⟨g, hs⟩ := hs
  obtain ⟨f, hf, fn, kp, run⟩ := met_run c hr hk hx
  obtain ⟨ox, od, J, hd⟩ := inst_of I ha
  have r2 : Vals [V.ref a, V.int i] [u, v] := .cons ry (.cons rx .nil)
  cases (show u = Value.ref a from ry)
  obtain ⟨t, et⟩ := (show ∃ t, v = Value.int i t from rx)
  subst et
  have one := PySem.W.ksp_try (M := model X.prog X.w) (A := X.A) (name := dunderR nm) (b := .int i t) I.kIn J hf fn (wpAny_mono (run pins s σ H _ _ Q I r2 hsp) (fun _ _ z => back_of z) fun _ _ z => z)
  obtain ⟨cd, rest, hcd, hmr⟩ := PySem.W.ksp_first sf
  have K1 : X.K.In s.heap := I.kIn
  rcases hi : op.info with ⟨sym, nm'⟩
  rw [hi] at hop
  dsimp only at hop
  subst hop
  have L2 : PySem.W.Looks (model X.prog X.w) s.heap (typeOf (.ref a)) (.ref C) := J.type
  have L4 : PySem.W.Looks (model X.prog X.w) s.heap (fillsNumberSlot (.ref C) nm') true := PySem.W.fills_K K1 hcd hmr hs
  have L5 : PySem.W.Looks (model X.prog X.w) s.heap (isSubtype (.ref C) (.type "int")) false := PySem.W.looks_subIn K1 hsub
  have hne : (Value.type "int" == Value.ref C) = false := Bool.eq_false_iff.mpr fun q => by cases beq_iff_eq.mp q
  have hpy : numberSlotInPython (.type "int") nm' = pure false := rfl
  simp only [binaryOp, hi]
  refine wpAny_holding (wpAny_bind ?_)
  unfold binaryOp1
  refine wpAny_bind (wpAny_typeOf (typeIs_int s i t) (wpAny_bind (L2.here (wpAny_bind (wpAny_of_eq fills ?_)))))
  simp only [hne, Bool.false_eq_true, if_false]
  refine wpAny_bind (L4.here ?_)
  simp only [Bool.and_self, if_true]
  refine wpAny_bind (L5.here ?_)
  simp only [Bool.false_eq_true, if_false, pure_bind, Bool.not_false, Bool.and_self, if_true, hpy]
  refine wpAny_bind (int_declines J hd slot entry (args i t a) ?_)
  dsimp only
  refine wpAny_bind (wpAny_mono one (fun r s' hr' => ?_) fun _ _ e => e)
  obtain ⟨v, rfl, hq⟩ := hr'
  exact wpAny_bind (wpAny_rule (wpAny_pure (wpAny_pure hq)))
/-- abs(x), x an own instance -/
theorem call_absO {X : Cx} {CX : CXT} {k j : Nat} {C : Addr} {sp : Sp} {E : XK} (c : Met CX X.prog X.w X.K X.mg X.base k C "__abs__" sp) (hr : Room j X.A) (hk : k + 1 ≤ j) (hx : Passes CX X E) :
    CallR X (.builtin "abs") (fun xs H Q => ∃ x, xs = [x] ∧ rOwn1 C sp E x H Q) := by
  intro pins s σ H xs us Q I r h
  obtain ⟨x, rfl, a, dx, fs, rfl, ha, hs⟩ := h
  obtain ⟨f, hf, fn, kp, run⟩ := met_runA c (hr.mono hk).in1 (Nat.le_refl _) hx (fun _ _ z => z.in1)
  obtain ⟨ox, od, J, _⟩ := inst_of I ha
  have r0 := r
  obtain ⟨u, rfl, ru⟩ := vals1 r
  cases (show u = Value.ref a from ru)
  have h1 := run pins s σ H _ _ Q I r0 hs
  refine PySem.Calls.call_function_entry PyProof.Rows.kind_abs PyProof.Rows.plain_abs PyProof.Rows.entry_abs (PyProof.Rows.args_abs _) ?_
  unfold Builtin.«abs»
  refine wpAny_bind (m := oneArg "abs" _) (wpAny_pure ?_)
  refine wpAny_bind (m := callSpecial? (.ref a) (Str.ofString "__abs__")) (PySem.W.special_fn I.kIn J hf (beq_iff_eq.mp fn) (wpAny_mono h1 (fun v s' hv => ?_) fun _ _ z => z))
  exact wpAny_pure ⟨_, rfl, hv⟩
theorem UnR.or {X : Cx} {f : Value → Sem Value} {r r' : V → Hp → VK → Prop} (h : UnR X f r) (h' : UnR X f r') : UnR X f (fun x H Q => r x H Q ∨ r' x H Q) := by
  intro pins s σ H x v Q I rx q
  rcases q with q | q
  · exact h pins s σ H x v Q I rx q
  · exact h' pins s σ H x v Q I rx q
theorem CallR.or {X : Cx} {f : Value} {r r' : List V → Hp → VK → Prop} (h : CallR X f r) (h' : CallR X f r') : CallR X f (fun x H Q => r x H Q ∨ r' x H Q) := by
  intro pins s σ H x v Q I rx q
  rcases q with q | q
  · exact h pins s σ H x v Q I rx q
  · exact h' pins s σ H x v Q I rx q
/-! ### the same operators where a try stands around: what is raised is wished for at the slots -/
theorem met_runS {X : Cx} {CX : CXT} {k j : Nat} {C : Addr} {m : Str} {sp : Sp} {E : L2.St → XK} (c : Met CX X.prog X.w X.K X.mg X.base k C m sp) (hr : Room j X.A) (hk : k ≤ j) (hx : ∀ σ, PassesAt CX X σ (E σ)) :
    ∃ f : Addr, PySem.W.findIn X.K (.ref C) m = some (some (.ref f)) ∧ PySem.W.isFn X.K (.ref f) = true ∧ PySem.W.keepIn X.K (.ref f) = true ∧
      ∀ (pins : List (Addr × Obj)) (s : Shared) (σ : L2.St) (H : Hp) (us : List Value) (vs : List V) (Q : VK), Inv X pins σ H s → Vals vs us → sp vs H Q (E σ) → wpAny (model X.prog X.w) X.A (call (.ref f) us) (EP X pins σ Q) X.xe s := by
  obtain ⟨f, fd, ps, hc, hm, F, b⟩ := c.ex
  refine ⟨f, hm.at_, hm.fn, hm.kp, fun pins s σ H us vs Q I r h => ?_⟩
  have hl : us.length = ps.length := by rw [← r.length]; exact F.len _ _ _ _ h
  have hb := b s us I.kIn (by rw [List.append_nil]; exact hl)
  rw [List.append_nil] at hb
  refine wpAny_call (codeAny_mono (F.run X.A X.stack s H ⟨us, []⟩ us vs Q (E σ) (hr.mono hk) I.env0 hb r h) fun r s' hq => ?_)
  match r with
  | .error e => exact hx σ pins H s e s' I hq
  | .ok (.ret u) => exact I.after hq
  | .ok .next => exact False.elim hq
  | .ok .brk => exact False.elim hq
  | .ok .cont => exact False.elim hq
def OpRS (X : Cx) (f : Value → Value → Sem Value) (r : L2.St → R2) : Prop :=
  ∀ (pins : List (Addr × Obj)) (s : Shared) (σ : L2.St) (H : Hp) (x y : V) (v u : Value) (Q : VK), Inv X pins σ H s → RelV x v → RelV y u → r σ x y H Q →
    wpAny (model X.prog X.w) X.A (f v u) (EP X pins σ Q) X.xe s
def tOpS (r : L2.St → R2) (ta tb : TE) : TE := fun σ H Q => ta σ H fun x H1 => tb σ H1 fun y H2 => r σ x y H2 Q
theorem pe_opS {X : Cx} {a b : Expr} {ta tb : TE} {pos : Pos} {op : Operator} {r : L2.St → R2} (ho : OpRS X (binaryOp op) r) (ha : PE X a ta) (hb : PE X b tb) : PE X (.BinOp a op b pos) (tOpS r ta tb) := by
  refine ⟨fun pins s σ H Q I h => ?_⟩
  exact wpAny_BinOp (binT (R := fun x y H2 => r σ x y H2 Q) ha hb I h fun v u s2 x y H2 I2 rx ry q => ho pins s2 σ H2 x y v u Q I2 rx ry q)
theorem OpRS.or {X : Cx} {f : Value → Value → Sem Value} {r r' : L2.St → R2} (h : OpRS X f r) (h' : OpRS X f r') : OpRS X f (fun σ x y H Q => r σ x y H Q ∨ r' σ x y H Q) := by
  intro pins s σ H x y v u Q I rx ry q
  rcases q with q | q
  · exact h pins s σ H x y v u Q I rx ry q
  · exact h' pins s σ H x y v u Q I rx ry q
section
variable {X : Cx} {CX : CXT} {k j : Nat} {C : Addr} {m : Str} {sp : Sp} {E : L2.St → XK}
theorem op_ownS {op : Operator} (c : Met CX X.prog X.w X.K X.mg X.base k C m sp) (hr : Room j X.A) (hk : k ≤ j) (hx : ∀ σ, PassesAt CX X σ (E σ)) (sf : PySem.W.selfFirst X.K C = true) (hm : PySem.dunder op.info.2 = m := by decide +kernel) :
    OpRS X (binaryOp op) (fun σ => rOwn2 C sp (E σ)) := by
  intro pins s σ H x y v u Q I rx ry h
  obtain ⟨a, b, dx, dy, fs, gs, rfl, rfl, ha, hb, hs⟩ := h
  obtain ⟨f, hf, fn, kp, run⟩ := met_runS c hr hk hx
  obtain ⟨mF, F⟩ := I.fr
  obtain ⟨ox, od, J, _⟩ := inst_of I ha
  obtain ⟨oy, oe, J2, _⟩ := inst_of I hb
  have r2 : Vals [V.ref a, V.ref b] [v, u] := .cons rx (.cons ry .nil)
  cases (show v = Value.ref a from rx)
  cases (show u = Value.ref b from ry)
  exact PySem.W.binop_K F I.ok.mod.kin J J2.type sf (by rw [hm]; exact hf) fn (wpAny_mono (run pins s σ H _ _ Q I r2 hs) (fun _ _ z => back_of z) fun _ _ z => z)
theorem op_ownIS {op : Operator} (c : Met CX X.prog X.w X.K X.mg X.base k C m sp) (hr : Room j X.A) (hk : k ≤ j) (hx : ∀ σ, PassesAt CX X σ (E σ)) (sf : PySem.W.selfFirst X.K C = true)
    (hrc : ∃ rc, PySem.W.findIn X.K (.ref C) (dunderR op.info.2) = some rc ∧ (rc = none ∨ ∃ g : Addr, rc = some (.ref g)))
    (h1 : ∃ fo, PySem.W.findIn X.K (.type "int") (PySem.dunder op.info.2) = some fo) (h2 : ∃ ro, PySem.W.findIn X.K (.type "int") (dunderR op.info.2) = some ro) (hsub : PySem.W.subIn X.K (.type "int") (.ref C) = some false)
    (hm : PySem.dunder op.info.2 = m := by decide +kernel) : OpRS X (binaryOp op) (fun σ => rOwnI C sp (E σ)) := by
  intro pins s σ H x y v u Q I rx ry h
  obtain ⟨a, dx, fs, i, rfl, rfl, ha, hs⟩ := h
  obtain ⟨f, hf, fn, kp, run⟩ := met_runS c hr hk hx
  obtain ⟨rc, hrc, hp⟩ := hrc
  obtain ⟨fo, h1⟩ := h1
  obtain ⟨ro, h2⟩ := h2
  obtain ⟨mF, F⟩ := I.fr
  obtain ⟨ox, od, J, _⟩ := inst_of I ha
  have r2 : Vals [V.ref a, V.int i] [v, u] := .cons rx (.cons ry .nil)
  cases (show v = Value.ref a from rx)
  obtain ⟨t, et⟩ := (show ∃ t, u = Value.int i t from ry)
  subst et
  exact PySem.W.ksp_binT (T := "int") F I.ok.mod.kin J rfl sf (by rw [hm]; exact hf) fn hrc hp h1 h2 hsub (wpAny_mono (run pins s σ H _ _ Q I r2 hs) (fun _ _ z => back_of z) fun _ _ z => z)
end
/-- x == y, x < y .., both of one own class that has the method -/
theorem op_cmpO {X : Cx} {CX : CXT} {k j : Nat} {C : Addr} {m : Str} {sp : Sp} {E : XK} {op : CmpOp} (c : Met CX X.prog X.w X.K X.mg X.base k C m sp) (hr : Room j X.A) (hk : k ≤ j) (hx : Passes CX X E)
    (hop : ∀ v u : Value, compareOp op v u = richCompare op v u := by intro _ _; rfl) (hm : (cmpInfo op).2.1 = m := by decide +kernel) : OpR X (compareOp op) (rOwn2 C sp E) := by
  intro pins s σ H x y v u Q I rx ry h
  obtain ⟨a, b, dx, dy, fs, gs, rfl, rfl, ha, hb, hs⟩ := h
  obtain ⟨f, hf, fn, kp, run⟩ := met_run c hr hk hx
  obtain ⟨mF, F⟩ := I.fr
  obtain ⟨ox, od, J, _⟩ := inst_of I ha
  obtain ⟨oy, oe, J2, _⟩ := inst_of I hb
  have r2 : Vals [V.ref a, V.ref b] [v, u] := .cons rx (.cons ry .nil)
  cases (show v = Value.ref a from rx)
  cases (show u = Value.ref b from ry)
  rw [hop]
  have hu : X.A.units < cLine := by have := hr.un; omega
  exact PySem.W.cmp_K hu F I.ok.mod.kin J J2.type (by unfold PySem.W.notFirst; simp) (by rw [hm]; exact hf) fn (wpAny_mono (run pins s σ H _ _ Q I r2 hs) (fun _ _ z => back_of z) fun _ _ z => z)
/-! ### a law's cells and pools: what is promised of them -/
def PoolAt (H : Hp) (p : Addr) : Prop := ∃ x y z : Int, H p = some (.lst [.int x, .int y, .int z])
theorem PoolAt.kp {H H' : Hp} {p q : Addr} (h : PoolAt H p) (k : Kp q H H') (n : p ≠ q) : PoolAt H' p := by
  obtain ⟨x, y, z, e⟩ := h
  exact ⟨x, y, z, k _ _ n e⟩
theorem PoolAt.same {H H' : Hp} {p : Addr} (h : PoolAt H p) (k : Same H H') : PoolAt H' p := by
  obtain ⟨x, y, z, e⟩ := h
  exact ⟨x, y, z, k _ _ e⟩
theorem at0 {α : Type} {a b c : α} : atI [a, b, c] (0 : Int) = some a := rfl
theorem at1 {α : Type} {a b c : α} : atI [a, b, c] (1 : Int) = some b := rfl
theorem at2 {α : Type} {a b c : α} : atI [a, b, c] (2 : Int) = some c := rfl
def sp_Lcell (K : PySem.W.Frag) : Sp := fun vs H Q _ => ∃ (l : Addr) (ns : List Int) (j : Nat), vs = [.ref l, .int (j : Int)] ∧ SqL K H l (ns.map V.int) ∧ ∀ c : Int, 0 ≤ c → Q (.int c) H
def sp_Lpool : Sp := fun vs H Q _ => ∃ c : Int, vs = [.int c] ∧ ∀ (p : Addr) (H' : Hp), H p = none → Same H H' → PoolAt H' p → Q (.ref p) H'
def sp_Ltake : Sp := fun vs H Q _ => ∃ (p : Addr) (many : Int), vs = [.ref p, .int many] ∧ PoolAt H p ∧ 0 < many ∧ many.natAbs < 2 ^ 300 ∧
  ∀ (H' : Hp) (r : Int), Kp p H H' → PoolAt H' p → 0 ≤ r → r < many → Q (.int r) H'
/-! ### told and due are the same data -/
def Pairs (R : V → V → Prop) (xs ys : List V) : Prop := xs.length = ys.length ∧ ∀ (i : Nat) (x y : V), xs[i]? = some x → ys[i]? = some y → R x y
def flatD : V → Bool
  | .non => true
  | .bl _ => true
  | .int _ => true
  | .str _ => true
  | _ => false
def SameV (K : PySem.W.Frag) (H : Hp) : Nat → V → V → Prop
  | 0, x, y => flatD x = true ∧ x = y
  | n + 1, x, y => (flatD x = true ∧ x = y) ∨
      (∃ (a b : Addr) (xs ys : List V), x = .ref a ∧ y = .ref b ∧ SqL K H a xs ∧ SqL K H b ys ∧ xs.length ≤ sizeLine ∧ Pairs (SameV K H n) xs ys) ∨
      (∃ (a b : Addr) (xs ys : List V), x = .ref a ∧ y = .ref b ∧ SqT K H a xs ∧ SqT K H b ys ∧ xs.length ≤ sizeLine ∧ Pairs (SameV K H n) xs ys)
def sp_Lsame (K : PySem.W.Frag) : Nat → Sp
  | 0 => fun _ _ _ _ => False
  | n + 1 => fun vs H Q _ => ∃ x y : V, vs = [x, y] ∧ SameV K H n x y ∧ Q (.bl true) H
theorem SameV.flat {K : PySem.W.Frag} {H : Hp} {n : Nat} {x : V} (h : flatD x = true) : SameV K H n x x := by
  cases n with
  | zero => exact ⟨h, rfl⟩
  | succ n => exact .inl ⟨h, rfl⟩
theorem Pairs.refl {R : V → V → Prop} {xs : List V} (h : ∀ x ∈ xs, R x x) : Pairs R xs xs := ⟨rfl, fun i x y h1 h2 => by
  rw [h1] at h2
  cases h2
  exact h x (List.mem_of_getElem? h1)⟩
theorem tyx_list {K : PySem.W.Frag} {H : Hp} {a : Addr} {xs : List V} (h : SqL K H a xs) : TyX K H (.ref a) (.type "list") := by
  rcases h with (h | ⟨o, h⟩) | ⟨o, its, n, h, c, _⟩
  · exact .base (.lst h)
  · exact .base (.frz h)
  · exact .kList h c
theorem tyx_tup {K : PySem.W.Frag} {H : Hp} {a : Addr} {xs : List V} (h : SqT K H a xs) : TyX K H (.ref a) (.type "tuple") := by
  rcases h with (h | ⟨o, h⟩) | ⟨o, its, n, h, c, _⟩
  · exact .base (.tup h)
  · exact .fTuple h
  · exact .kTuple h c
theorem pool_ne {H : Hp} {p q : Addr} (h : PoolAt H p) (n : H q = none) : q ≠ p := fun w => by
  obtain ⟨x, y, z, e⟩ := h
  rw [w, e] at n
  cases n
theorem none_kp {H H' : Hp} {p t : Addr} (s : Kp p H H') (n : t ≠ p) (e : H' t = none) : H t = none := by
  cases h : H t with
  | none => rfl
  | some o =>
    rw [s _ _ n h] at e
    cases e
theorem none_of {H H' : Hp} {t : Addr} (s : Same H H') (n : H' t = none) : H t = none := by
  cases e : H t with
  | none => rfl
  | some o =>
    rw [s _ _ e] at n
    cases n
theorem same_app {H2 H4 : Hp} {t : Addr} {o : HO} (s : Same H2 H4) (n : H2 t = none) : Same H2 (upd H4 t o) := fun b u e => by
  rw [upd_ne (ne_of_none e n)]
  exact s _ _ e
theorem Kp.of {p : Addr} {H H' : Hp} (s : Same H H') : Kp p H H' := fun b o _ e => s b o e
/-- a place that was free takes what it takes -/
theorem kp_app {p : Addr} {H H4 : Hp} {t : Addr} {o : HO} (s : Kp p H H4) (n : H t = none) : Kp p H (upd H4 t o) := fun b u nb e => by
  rw [upd_ne (ne_of_none e n)]
  exact s _ _ nb e
theorem sqt_pool {K : PySem.W.Frag} {H H' : Hp} {a b : Addr} {xs : List V} (h : SqT K H b xs) (k : Kp a H H') (p : PoolAt H a) : SqT K H' b xs := by
  obtain ⟨x, y, z, e⟩ := p
  rcases h with (h | ⟨o, h⟩) | h
  · exact .inl (.inl (k _ _ (fun w => by rw [w, e] at h; cases h) h))
  · exact .inl (.inr ⟨o, k _ _ (fun w => by rw [w, e] at h; cases h) h⟩)
  · exact .inr h
theorem sqt_lst {K : PySem.W.Frag} {H H' : Hp} {a b : Addr} {xs ys : List V} (h : SqT K H b xs) (k : Kp a H H') (hl : H a = some (.lst ys)) : SqT K H' b xs := by
  rcases h with (h | ⟨o, h⟩) | h
  · exact .inl (.inl (k _ _ (fun w => by rw [w, hl] at h; cases h) h))
  · exact .inl (.inr ⟨o, k _ _ (fun w => by rw [w, hl] at h; cases h) h⟩)
  · exact .inr h
/-! ### lists of values, each one of its own kind -/
inductive Al {α : Type} (R : V → α → Prop) : List V → List α → Prop where
  | nil : Al R [] []
  | cons {x : V} {y : α} {xs : List V} {ys : List α} : R x y → Al R xs ys → Al R (x :: xs) (y :: ys)
section
variable {α : Type} {R R' : V → α → Prop}
theorem Al.len : ∀ {xs : List V} {ys : List α}, Al R xs ys → xs.length = ys.length
  | _, _, .nil => rfl
  | _, _, .cons _ t => congrArg Nat.succ t.len
theorem Al.mono (h : ∀ x y, R x y → R' x y) : ∀ {xs : List V} {ys : List α}, Al R xs ys → Al R' xs ys
  | _, _, .nil => .nil
  | _, _, .cons r t => .cons (h _ _ r) (t.mono h)
theorem Al.app : ∀ {xs xs' : List V} {ys ys' : List α}, Al R xs ys → Al R xs' ys' → Al R (xs ++ xs') (ys ++ ys')
  | _, _, _, _, .nil, u => u
  | _, _, _, _, .cons r t, u => .cons r (t.app u)
theorem Al.take : ∀ {xs : List V} {ys : List α} (n : Nat), Al R xs ys → Al R (xs.take n) (ys.take n)
  | _, _, 0, _ => .nil
  | _, _, _ + 1, .nil => .nil
  | _, _, n + 1, .cons r t => .cons r (t.take n)
theorem Al.drop : ∀ {xs : List V} {ys : List α} (n : Nat), Al R xs ys → Al R (xs.drop n) (ys.drop n)
  | _, _, 0, h => h
  | _, _, _ + 1, .nil => .nil
  | _, _, n + 1, .cons _ t => t.drop n
theorem Al.snoc {xs : List V} {ys : List α} {x : V} {y : α} (h : Al R xs ys) (r : R x y) : Al R (xs ++ [x]) (ys ++ [y]) := h.app (.cons r .nil)
theorem Al.rev : ∀ {xs : List V} {ys : List α}, Al R xs ys → Al R xs.reverse ys.reverse
  | _, _, .nil => .nil
  | _, _, .cons r t => by
    rw [List.reverse_cons, List.reverse_cons]
    exact t.rev.app (.cons r .nil)
theorem Al.at : ∀ {xs : List V} {ys : List α} {i : Nat} {x : V}, Al R xs ys → xs[i]? = some x → ∃ y, ys[i]? = some y ∧ R x y
  | _, _, _, _, .nil, h => by simp at h
  | _, _, 0, _, .cons r _, h => ⟨_, rfl, by simp at h; subst h; exact r⟩
  | _, _, i + 1, _, .cons _ t, h => t.at (i := i) (by simpa using h)
theorem Al.at' {xs : List V} {ys : List α} {i : Nat} {y : α} (h : Al R xs ys) (hy : ys[i]? = some y) : ∃ x, xs[i]? = some x ∧ R x y := by
  have hi : i < xs.length := by rw [h.len]; exact (List.getElem?_eq_some_iff.mp hy).1
  obtain ⟨y', e, r⟩ := h.at (List.getElem?_eq_getElem hi)
  rw [hy] at e
  cases e
  exact ⟨_, List.getElem?_eq_getElem hi, r⟩
end
/-! ### enumerate(tuple) -/
theorem meets_enumerate_newT (l : Addr) (items : Array Value) (n : Nat) (dct : Option Addr) (sl : Array (Option Value)) :
    Meets (Builtin.«enumerate.__new__» ⟨[.type "enumerate", .ref l], []⟩) (fun _ R s => s.heap.get? l = some { cls := .type "tuple", dict := dct, data := .seq items n, slots := sl } ∧
      R (.ok (.ret (.ref (s.heap.push { cls := .type "tuple_iterator", data := .fields #[.ref l, .int 0 0] }).objs.size)))
        { s with heap := (s.heap.push { cls := .type "tuple_iterator", data := .fields #[.ref l, .int 0 0] }).push { cls := .type "enumerate", data := .fields #[.none, .bool false, .ref s.heap.objs.size, rawInt 0, .none, .none] } }) :=
  .of_wp fun prog w A R s h => by
    obtain ⟨hp, g, d, tk, os⟩ := s
    obtain ⟨hl, h⟩ := h
    have hsub := sub_enumerate
    have hL : Heap.IsTuple (Shared.heap ⟨hp, g, d, tk, os⟩) l items := ⟨_, hl, rfl, n, rfl⟩
    wp_walk using AutoSeq1.wpAny_loadPart' hl
    refine wpAny_stack_any fun st => wpAny_pure ?_
    split
    · rename_i c _ _ _ _ _
      cases (c == Value.type "enumerate")
      · wp_walk using AutoSeq1.wpAny_loadPart' hl, wpAny_pyIter_tuple hL
        exact ⟨_, rfl, h⟩
      · wp_walk using AutoSeq1.wpAny_loadPart' hl, wpAny_pyIter_tuple hL
        exact ⟨_, rfl, h⟩
    · wp_walk using AutoSeq1.wpAny_loadPart' hl, wpAny_pyIter_tuple hL
      exact ⟨_, rfl, h⟩
theorem call_enumerate_tuple {prog : Program} {w : World} {A : Around} {E : Value → Shared → Prop} {s : Shared} {l : Addr} {items : Array Value} {Q : Value → Shared → Prop} (hL : s.heap.IsTuple l items)
    (h : ∀ h', IsEnum h' (s.heap.objs.size + 1) s.heap.objs.size 0 .none → h'.IsTupleIter s.heap.objs.size l 0 → (∀ b o, s.heap.get? b = some o → h'.get? b = some o) → Q (.ref (s.heap.objs.size + 1)) { s with heap := h' }) :
    wpAny (model prog w) A (call (.type "enumerate") [.ref l]) Q E s := by
  obtain ⟨⟨c, dct, dt, sl⟩, hl, hc, n, hd⟩ := hL
  replace hc : c = .type "tuple" := hc
  replace hd : dt = .seq items n := hd
  subst hc hd
  refine callType_new F.called_enumerate (by decide) (F.typeCall_enumerate_1 _) (F.newCall_enumerate_1 _) (fun obj => F.args_object_init_2 obj _) F.entry_enumerate_new
    (meets_enumerate_newT l items n dct sl) ⟨hl, ?_⟩
  have hz : (s.heap.push { cls := .type "tuple_iterator", data := .fields #[.ref l, .int 0 0] }).objs.size = s.heap.objs.size + 1 := Heap.size_push ..
  show _ ∧ _
  rw [hz]
  have he : IsEnum ((s.heap.push { cls := .type "tuple_iterator", data := .fields #[.ref l, .int 0 0] }).push
      { cls := .type "enumerate", data := .fields #[.none, .bool false, .ref s.heap.objs.size, rawInt 0, .none, .none] }) (s.heap.objs.size + 1) s.heap.objs.size 0 .none := by
    have z := Heap.get?_push_size (s.heap.push { cls := .type "tuple_iterator", data := .fields #[.ref l, .int 0 0] })
      (o := { cls := .type "enumerate", data := .fields #[.none, .bool false, .ref s.heap.objs.size, rawInt 0, .none, .none] }) rfl
    rw [hz] at z
    exact z
  exact ⟨⟨_, he, rfl⟩, h _ he ⟨_, Heap.get?_push_of_some _ (Heap.get?_push_size _ rfl), rfl, rfl⟩ fun b o x => Heap.get?_push_of_some _ (Heap.get?_push_of_some _ x)⟩
theorem pyNext_enumT_end {prog : Program} {w : World} {A : Around} {E : Value → Shared → Prop} {s : Shared} {e it l : Addr} {i : Nat} {items : Array Value} {old : Value} {Q : Option Value → Shared → Prop} (hh : A.handled = none)
    (he : IsEnum s.heap e it i old) (hit : s.heap.IsTupleIter it l i) (hl : s.heap.IsTuple l items) (hx : items[i]? = none)
    (hQ : ∀ h', Heap.ExtBut it s.heap h' → Q none { s with heap := h' }) : wpAny (model prog w) A (pyNext (.ref e)) Q E s := by
  have hT : s.TypeIs (.ref e) "enumerate" := ⟨_, he, rfl⟩
  unfold pyNext
  refine wpAny_bind (wpAny_attempt (wpAny_callSpecial?_slot (name := Str.ofString "__next__") hT F.slot_enumerate_next
    (wpAny_call_entry F.slot_enumerate_next hT F.entry_enumerate_next ?_ (F.args_enumerate_next_1 _))))
  show wpAny _ _ (field (.ref e) 2 >>= _) _ _ _
  refine wpAny_bind (wpAny_field he rfl (x := .ref it) rfl ?_)
  refine wpAny_bind (wpAny_nextOf_tuple_end (A := A.in1) hh hit hl hx fun h' x he' hx' => ?_)
  obtain ⟨o, ho, hc⟩ := hx'
  refine wpAny_bind (wpAny_isInstance (T := "StopIteration") (b := true) ⟨o, ho, hc⟩ isSubtype_stop ?_)
  exact wpAny_pure (hQ _ he')
/-- the tuple at a, each item in a new pair -/
def Iett (K : PySem.W.Frag) (a : Addr) : It :=
  ⟨fun i H => ∃ (xs : List V) (x : V), SqT K H a xs ∧ xs[i]? = some x, fun i H v H' => ∃ T x, v = .ref T ∧ H T = none ∧ H' = upd H T (.tup [.int (i : Nat), x]) ∧ ∀ xs, SqT K H a xs → xs[i]? = some x, fun i H => ∃ xs : List V, SqT K H a xs ∧ xs.length ≤ i⟩
theorem turn_enumT {P : Program} {w : World} {K : PySem.W.Frag} {elts : List Expr} {kk : Nat} {tpos : Pos} (a e it : Addr) :
    Turn P w K (.Tuple elts kk tpos) (Iett K a) [e, it] e (fun i h => (∃ old, IsEnum h e it ((i : Nat) : Int) old) ∧ h.IsTupleIter it a i ∧ e ≠ it ∧ a ≠ it ∧ a ≠ e) where
  mem := by simp
  obj := fun i h st b hb => by
    obtain ⟨⟨old, he⟩, ⟨o, ho, hc, hd⟩, _⟩ := st
    have e' : b = e ∨ b = it := by simpa using hb
    rcases e' with z | z
    · rw [z]; exact ⟨_, he, fun v q => nomatch q⟩
    · rw [z]; exact ⟨o, ho, fun v q => by rw [hd] at q; cases q⟩
  keep := fun i h h' st k => let ⟨⟨old, he⟩, hi, hne⟩ := st; ⟨⟨old, k e (by simp) _ he⟩, hi.at fun o q => k it (by simp) o q, hne⟩
  item := by
    intro X hP hw hK hc i pins s σ H E I hf st hg
    subst hP hw hK
    obtain ⟨⟨old, he⟩, hit, hne, hae, hea⟩ := st
    obtain ⟨xs, x, hq, hx⟩ := hg
    obtain ⟨its, rv, p, hz⟩ := I.tuple hq
    obtain ⟨u, hu, ru⟩ := rv.get hx
    have p' : s.heap.IsTuple a its.toArray := p
    have hel : e < s.heap.objs.size := Heap.lt_size he
    have hil : it < s.heap.objs.size := by obtain ⟨_, q, _⟩ := hit; exact Heap.lt_size q
    have hii : i < its.toArray.size := by
      have := (List.getElem?_eq_some_iff.mp hu).1
      simpa using this
    have D := Draws.tuple (prog := X.prog) (w := X.w) (A := X.A.in1) (I.ok.hd hc) it a hae its.toArray
    refine PySem.wpAny_pyNext_enum_itemC D he ⟨hit, p'⟩ hii hne (by simp [Ne.symm hea, hne]) fun y h' tk hy ho hst' hT hsz hk => ?_
    have hyu : y = u := by
      have e1 : its.toArray[i]? = some y := hy
      rw [List.getElem?_toArray] at e1
      rw [hu] at e1
      exact (Option.some.inj e1).symm
    subst hyu
    refine ⟨_, rfl, wpAny_letOwnedTupleGo_enum (s := { s with heap := h', toks := tk + 1 }) ho fun h'' he' sb => ?_⟩
    have hT2 : h''.get? s.heap.objs.size = some { cls := .type "tuple", data := .seq #[.int i tk, y] } := (sb.2 _ (Nat.ne_of_gt hel)).trans hT
    have new : ObjOk X.prog X.w (upd H s.heap.objs.size (.tup [.int (i : Nat), x])) h'' s.heap.objs.size (.tup [.int (i : Nat), x]) :=
      ⟨by show 2 ≤ sizeLine; decide, [.int i tk, y], .cons ⟨_, rfl⟩ (.cons ru .nil), ⟨_, hT2, rfl, _, rfl⟩⟩
    have I1 : Inv X pins σ (upd H s.heap.objs.size (.tup [.int (i : Nat), x])) { s with heap := h'', toks := tk + 1 } :=
      I.turnedNew (ch := [e, it]) (fun b ob hb q => (sb.2 b (fun z => hb (by simp [z]))).trans (hk b ob (fun z => hb (by simp [z])) (fun z => hb (by simp [z])) q)) hf (Nat.le_refl _) new
    refine ⟨.ref s.heap.objs.size, _, I1, rfl, ⟨_, x, rfl, I.hok.fresh (Nat.le_refl _), rfl, fun ys hy => by rw [I.tuple_inj hy hq]; exact hx⟩, ⟨⟨y, ?_⟩, hst'.1.at fun o q => (sb.2 it (Ne.symm hne)).trans q, hne, hae, hea⟩, fun b hb => ?_⟩
    · have e1 : ((i + 1 : Nat) : Int) = (i : Int) + 1 := by omega
      rw [e1]; exact he'
    · have hb' : b < s.heap.objs.size := by
        have e' : b = e ∨ b = it := by simpa using hb
        rcases e' with z | z
        · rw [z]; exact hel
        · rw [z]; exact hil
      rw [upd_ne (Nat.ne_of_lt hb')]
      exact (hf b hb).1
  done := by
    intro X hP hw hK hc i pins s σ H E I hf st hg
    subst hP hw hK
    obtain ⟨⟨old, he⟩, hit, hne, hae, hea⟩ := st
    obtain ⟨xs, hq, hx⟩ := hg
    obtain ⟨its, rv, p, hz⟩ := I.tuple hq
    obtain ⟨f0, f1, f2, f3, f4, f5⟩ := hf it (by simp)
    have hl := rv.length
    have p' : s.heap.IsTuple a its.toArray := p
    exact pyNext_enumT_end (I.ok.hd hc) he hit p' (by simp; omega) fun h' eb => ⟨rfl, I.turned (t' := s.toks) (fun b o hb q => eb b o hb q) f0 f1 f3 f4 f5⟩
  self := fun A i s Q E st h => let ⟨⟨_, he⟩, _⟩ := st; wpAny_pyIter_enum he h
/-- what stands at a: a list or a tuple -/
def SqB (K : PySem.W.Frag) (b : Bool) (H : Hp) (a : Addr) (xs : List V) : Prop := if b then SqT K H a xs else SqL K H a xs
def ItB (K : PySem.W.Frag) (b : Bool) (a : Addr) : It := if b then Iett K a else Ite K a
/-- enumerate over a list or a tuple -/
def iEnumS (K : PySem.W.Frag) (ta : TA) : TI := fun σ H R => ta σ H fun vs H1 => ∃ a xs b, vs = [.ref a] ∧ SqB K b H1 a xs ∧ R (ItB K b a) H1
theorem pi_enumS {X : Cx} {e : Expr} {ta : TA} {p pos tpos : Pos} {elts : List Expr} {kk : Nat} (hg : Gl X "enumerate") (hm : X.mg "enumerate" = none) (ha : PA X [e] ta) (hs : starEach [e] X.env = [(false, eval e X.env)] := by rfl) :
    PI X (.Tuple elts kk tpos) (.Call (.Name "enumerate" p) [e] [] pos) (iEnumS X.K ta) := by
  refine ⟨fun pins s σ H R I h => ?_⟩
  refine Call_ (ld_blt I hg hm boot_enumerate (PyProof.Rows.callWith_type1 (thn (ha.run pos pins s σ H _ I h) fun us s1 ⟨vs, H1, I1, r1, q1⟩ => ?_) hs rfl))
  obtain ⟨a, xs, bb, ex, hq, q⟩ := q1
  subst ex
  cases r1 with
  | cons r rr =>
    cases rr
    cases r
    cases bb
    · obtain ⟨its, rv, p', hz⟩ := I1.list hq
      refine call_enumerate_list p'.isList fun h' he hit hsz hk => wpAny_pyIter_enum he ?_
      have I2 : Inv X pins σ H1 { s1 with heap := h' } := I1.kept (t' := s1.toks) hk
      refine ⟨s1.heap.objs.size + 1, [s1.heap.objs.size + 1, s1.heap.objs.size], _, _, H1, rfl, I2, turn_enum a (s1.heap.objs.size + 1) s1.heap.objs.size, ⟨⟨.none, he⟩, hit, Nat.succ_ne_self _⟩, fun b hb => ?_, q⟩
      have e' : b = s1.heap.objs.size + 1 ∨ b = s1.heap.objs.size := by simpa using hb
      have hle : s1.heap.objs.size ≤ b := by
        rcases e' with z | z
        · rw [z]; exact Nat.le_add_right _ _
        · rw [z]; exact Nat.le_refl _
      exact I1.fpOk hle (I1.hok.fresh hle)
    · obtain ⟨its, rv, p', hz⟩ := I1.tuple hq
      have hL : s1.heap.IsTuple a its.toArray := p'
      have hlt : a < s1.heap.objs.size := by obtain ⟨_, q0, _⟩ := hL; exact Heap.lt_size q0
      refine call_enumerate_tuple hL fun h' he hit hk => wpAny_pyIter_enum he ?_
      have I2 : Inv X pins σ H1 { s1 with heap := h' } := I1.kept (t' := s1.toks) hk
      refine ⟨s1.heap.objs.size + 1, [s1.heap.objs.size + 1, s1.heap.objs.size], _, _, H1, rfl, I2, turn_enumT a (s1.heap.objs.size + 1) s1.heap.objs.size, ⟨⟨.none, he⟩, hit, Nat.succ_ne_self _, Nat.ne_of_lt hlt, Nat.ne_of_lt (Nat.lt_succ_of_lt hlt)⟩, fun b hb => ?_, q⟩
      have e' : b = s1.heap.objs.size + 1 ∨ b = s1.heap.objs.size := by simpa using hb
      have hle : s1.heap.objs.size ≤ b := by
        rcases e' with z | z
        · rw [z]; exact Nat.le_add_right _ _
        · rw [z]; exact Nat.le_refl _
      exact I1.fpOk hle (I1.hok.fresh hle)
/-- the turns of enumerate over a list or a tuple: Sq is how the items stand there -/
theorem for_enumI {K : PySem.W.Frag} {I : It} {Sq : Hp → Prop} {xs : List V} {g : TG} {tb : TS} {D : Ends} {σ : L2.St} {H : Hp} (Pv : Nat → L2.St → Hp → Prop) (h0 : Pv 0 σ H) (hl : ∀ i σ H, i ≤ xs.length → Pv i σ H → Sq H)
    (hgo : ∀ H i x, Sq H → xs[i]? = some x → I.go i H) (hy : ∀ H i x H', Sq H → I.yld i H x H' → ∃ T z, x = .ref T ∧ H T = none ∧ H' = upd H T (.tup [.int (i : Nat), z]) ∧ xs[i]? = some z) (hst : ∀ H, Sq H → I.stop xs.length H)
    (hs : ∀ i x σ H T, xs[i]? = some x → Pv i σ H → H T = none → g (.ref T) σ (upd H T (.tup [.int (i : Nat), x])) fun σ2 H2 => tb { D with nx := Pv (i + 1), ct := Pv (i + 1), bk := D.nx } σ2 H2) (hd : ∀ σ H, Pv xs.length σ H → D.nx σ H) :
    ∃ W : Nat → Nat → L2.St → Hp → Prop, (∃ m, W 0 m σ H) ∧ ∀ i m σ H, W i m σ H →
      (I.stop i H ∧ D.nx σ H) ∨ (I.go i H ∧ ∃ N : L2.St → Hp → Prop, (∀ σ' H', N σ' H' → ∃ m', m' < m ∧ W (i + 1) m' σ' H') ∧ ∀ x H', I.yld i H x H' → g x σ H' fun σ2 H2 => tb { D with nx := N, ct := N, bk := D.nx } σ2 H2) := by
  refine ⟨fun i m σ H => m = xs.length - i ∧ i ≤ xs.length ∧ Pv i σ H, ⟨xs.length, by simp, Nat.zero_le _, h0⟩, ?_⟩
  rintro i m σ H ⟨rfl, hi, p⟩
  have q := hl i σ H hi p
  by_cases hlt : i < xs.length
  · refine .inr ⟨hgo H i xs[i] q (by simp [hlt]), Pv (i + 1), fun σ' H' p' => ⟨xs.length - (i + 1), by omega, rfl, hlt, p'⟩, fun x H' y => ?_⟩
    obtain ⟨T, z, e1, e2, e3, e4⟩ := hy _ _ _ _ q y
    subst e1 e3
    exact hs i z σ H T e4 p e2
  · have e : i = xs.length := by omega
    subst e
    exact .inl ⟨hst H q, hd σ H p⟩
theorem for_enumB {K : PySem.W.Frag} {bb : Bool} {a : Addr} {xs : List V} {g : TG} {tb : TS} {D : Ends} {σ : L2.St} {H : Hp} (Pv : Nat → L2.St → Hp → Prop) (h0 : Pv 0 σ H) (hl : ∀ i σ H, i ≤ xs.length → Pv i σ H → SqB K bb H a xs)
    (hs : ∀ i x σ H T, xs[i]? = some x → Pv i σ H → H T = none → g (.ref T) σ (upd H T (.tup [.int (i : Nat), x])) fun σ2 H2 => tb { D with nx := Pv (i + 1), ct := Pv (i + 1), bk := D.nx } σ2 H2) (hd : ∀ σ H, Pv xs.length σ H → D.nx σ H) :
    ∃ W : Nat → Nat → L2.St → Hp → Prop, (∃ m, W 0 m σ H) ∧ ∀ i m σ H, W i m σ H →
      ((ItB K bb a).stop i H ∧ D.nx σ H) ∨ ((ItB K bb a).go i H ∧ ∃ N : L2.St → Hp → Prop, (∀ σ' H', N σ' H' → ∃ m', m' < m ∧ W (i + 1) m' σ' H') ∧ ∀ x H', (ItB K bb a).yld i H x H' → g x σ H' fun σ2 H2 => tb { D with nx := N, ct := N, bk := D.nx } σ2 H2) := by
  refine for_enumI (K := K) (I := ItB K bb a) (Sq := fun H => SqB K bb H a xs) Pv h0 hl ?_ ?_ ?_ hs hd
  · cases bb
    · exact fun H i x q e => ⟨xs, x, q, e⟩
    · exact fun H i x q e => ⟨xs, x, q, e⟩
  · cases bb
    · rintro H i x H' q ⟨T, z, e1, e2, e3, e4⟩
      exact ⟨T, z, e1, e2, e3, e4 xs q⟩
    · rintro H i x H' q ⟨T, z, e1, e2, e3, e4⟩
      exact ⟨T, z, e1, e2, e3, e4 xs q⟩
  · cases bb
    · exact fun H q => ⟨xs, q, Nat.le_refl _⟩
    · exact fun H q => ⟨xs, q, Nat.le_refl _⟩
/-! ### a list or a tuple, walked -/
def ItS (K : PySem.W.Frag) (b : Bool) (a : Addr) : It := if b then Itt K a else Itl K a
def iSeqB (K : PySem.W.Frag) (te : TE) : TI := fun σ H R => te σ H fun x H1 => ∃ a xs b, x = .ref a ∧ SqB K b H1 a xs ∧ R (ItS K b a) H1
theorem pi_seqB {X : Cx} {tg l : Expr} {tl : TE} (hl : PE X l tl) : PI X tg l (iSeqB X.K tl) := by
  refine ⟨fun pins s σ H R I h => ?_⟩
  refine thn (hl.run pins s σ H _ I h) fun v s1 ⟨x, H1, I1, r1, q1⟩ => ?_
  obtain ⟨a, xs, b, e, hq, q⟩ := q1
  subst e
  cases r1
  cases b
  · obtain ⟨its, rv, p, hz⟩ := I1.list hq
    refine wpAny_pyIter_list p.isList ?_
    refine ⟨s1.heap.objs.size, [s1.heap.objs.size], _, _, H1, rfl, I1.kept (t' := s1.toks) fun b o e => Heap.get?_push_of_some _ e, turn_list a _, ⟨_, Heap.get?_push_size _ rfl, rfl, rfl⟩, fun b hb => ?_, q⟩
    have e : b = s1.heap.objs.size := by simpa using hb
    subst e
    exact I1.fpOk (Nat.le_refl _) (I1.hok.fresh (Nat.le_refl _))
  · obtain ⟨its, rv, p, hz⟩ := I1.tuple hq
    refine wpAny_pyIter_tuple (show s1.heap.IsTuple a its.toArray from p) ?_
    refine ⟨s1.heap.objs.size, [s1.heap.objs.size], _, _, H1, rfl, I1.kept (t' := s1.toks) fun b o e => Heap.get?_push_of_some _ e, turn_tuple a _, ⟨_, Heap.get?_push_size _ rfl, rfl, rfl⟩, fun b hb => ?_, q⟩
    have e : b = s1.heap.objs.size := by simpa using hb
    subst e
    exact I1.fpOk (Nat.le_refl _) (I1.hok.fresh (Nat.le_refl _))
theorem pi_seqBK {X : Cx} {K : PySem.W.Frag} {tg l : Expr} {tl : TE} (hK : X.K = K) (hl : PE X l tl) : PI X tg l (iSeqB K tl) := by
  subst hK
  exact pi_seqB hl
theorem lc_seqB {K : PySem.W.Frag} {bb : Bool} {a : Addr} {xs : List V} {g : TG} {tt : TT} {te : TE} {vs : List Nat} {σ : L2.St} {H1 : Hp} {D : Addr} {Qd : Hp → Prop} (Pv : Nat → Hp → Prop) (h0 : Pv 0 (upd H1 D (.lst []))) (hl : ∀ i H, i ≤ xs.length → Pv i H → SqB K bb H a xs)
    (hs : ∀ i x H, xs[i]? = some x → Pv i H → g x (wipe σ vs) H fun σ2 H2 => wipe σ2 vs = wipe σ vs ∧ tt σ2 H2 fun b H3 =>
      if b = true then te σ2 H3 fun y H4 => ∃ acc, H4 D = some (.lst acc) ∧ acc.length < sizeLine ∧ Pv (i + 1) (upd H4 D (.lst (acc ++ [y]))) else Pv (i + 1) H3) (hd : ∀ H, Pv xs.length H → Qd H) :
    ∃ W : Nat → Nat → Hp → Prop, (∃ m, W 0 m (upd H1 D (.lst []))) ∧ ∀ i m H, W i m H →
      ((ItS K bb a).stop i H ∧ Qd H) ∨ ((ItS K bb a).go i H ∧ ∃ Nx : Hp → Prop, (∀ H', Nx H' → ∃ m', m' < m ∧ W (i + 1) m' H') ∧ ∀ x H', (ItS K bb a).yld i H x H' → g x (wipe σ vs) H' fun σ2 H2 => wipe σ2 vs = wipe σ vs ∧ tt σ2 H2 fun b H3 =>
        if b = true then te σ2 H3 fun y H4 => ∃ acc, H4 D = some (.lst acc) ∧ acc.length < sizeLine ∧ Nx (upd H4 D (.lst (acc ++ [y]))) else Nx H3) := by
  cases bb
  · exact lc_list (K := K) (a := a) (xs := xs) Pv h0 hl hs hd
  · exact lc_tup (K := K) (a := a) (xs := xs) Pv h0 hl hs hd
theorem for_seqB {K : PySem.W.Frag} {bb : Bool} {a : Addr} {xs : List V} {g : TG} {tb : TS} {D : Ends} {σ : L2.St} {H : Hp} (Pv : Nat → L2.St → Hp → Prop) (h0 : Pv 0 σ H) (hl : ∀ i σ H, i ≤ xs.length → Pv i σ H → SqB K bb H a xs)
    (hs : ∀ i x σ H, xs[i]? = some x → Pv i σ H → g x σ H fun σ2 H2 => tb { D with nx := Pv (i + 1), ct := Pv (i + 1), bk := D.nx } σ2 H2) (hd : ∀ σ H, Pv xs.length σ H → D.nx σ H) :
    ∃ W : Nat → Nat → L2.St → Hp → Prop, (∃ m, W 0 m σ H) ∧ ∀ i m σ H, W i m σ H →
      ((ItS K bb a).stop i H ∧ D.nx σ H) ∨ ((ItS K bb a).go i H ∧ ∃ N : L2.St → Hp → Prop, (∀ σ' H', N σ' H' → ∃ m', m' < m ∧ W (i + 1) m' σ' H') ∧ ∀ x H', (ItS K bb a).yld i H x H' → g x σ H' fun σ2 H2 => tb { D with nx := N, ct := N, bk := D.nx } σ2 H2) := by
  cases bb
  · exact for_list (K := K) (a := a) (xs := xs) Pv h0 hl hs hd
  · exact for_tup (K := K) (a := a) (xs := xs) Pv h0 hl hs hd
/-! ### len(o), iter(tuple), list(o): an own class with __len__ and an __iter__ that answers iter(a tuple) -/
theorem take_snocG {α : Type} {l : List α} {i : Nat} {x : α} (h : l[i]? = some x) : l.take i ++ [x] = l.take (i + 1) := by
  rw [List.take_add_one, h]
  rfl
/-- a tuple iterator at it: over the tuple at t, i items are drawn; itA: in any state -/
def itO (it t : Addr) (i : Nat) : HO := .ext fun h => h.IsTupleIter it t i
def itA (it : Addr) : HO := .ext fun h => ∃ o, h.get? it = some o ∧ o.cls = .type "tuple_iterator"
theorem itO_ok {P : Program} {w : World} {H : Hp} {h : Heap} {it t : Addr} {i : Nat} (he : h.IsTupleIter it t i) : ObjOk P w H h it (itO it t i) :=
  ⟨he, let ⟨o, e, _⟩ := he; ⟨o, e⟩, fun h1 h2 z k => let ⟨o, e, r⟩ := z; ⟨o, k _ e, r⟩⟩
theorem itA_ok {P : Program} {w : World} {H : Hp} {h : Heap} {it : Addr} (he : ∃ o, h.get? it = some o ∧ o.cls = .type "tuple_iterator") : ObjOk P w H h it (itA it) :=
  ⟨he, let ⟨o, e, _⟩ := he; ⟨o, e⟩, fun h1 h2 z k => let ⟨o, e, r⟩ := z; ⟨o, k _ e, r⟩⟩
theorem itO_get {P : Program} {w : World} {H : Hp} {h : Heap} {it t : Addr} {i : Nat} (hok : HOk P w H h) (he : H it = some (itO it t i)) : h.IsTupleIter it t i := by
  have x : ObjOk P w H h it (.ext fun h => h.IsTupleIter it t i) := hok it _ he
  exact x.1
theorem call_iterT {X : Cx} : CallR X (.builtin "iter") (fun xs H Q => ∃ (a : Addr) (ys : List V), xs = [.ref a] ∧ SqT X.K H a ys ∧ ∀ it, H it = none → Q (.ref it) (upd H it (itO it a 0))) := by
  intro pins s σ H xs us Q I r h
  obtain ⟨a, ys, rfl, hq, q⟩ := h
  obtain ⟨u, rfl, ru⟩ := vals1 r
  cases (show u = Value.ref a from ru)
  obtain ⟨its, rv, p, hz⟩ := I.tuple hq
  have hL : s.heap.IsTuple a its.toArray := p
  refine Calls.call_function_entry (by decide +kernel) (by decide +kernel) PySem.W.kdk_entry_iter (PySem.W.kdk_args_iter _) ?_
  unfold Builtin.«iter»
  refine wpAny_bind (m := someArgs "iter" 1 2 _) (wpAny_of_eq (a := [Value.ref a]) (by first | rfl | kernel_rfl!) ?_)
  show wpAny _ _ (pyIter (.ref a) >>= _) _ _ _
  refine wpAny_bind (wpAny_pyIter_tuple hL ?_)
  exact wpAny_pure ⟨_, rfl, .ref s.heap.objs.size, _, I.laid (t' := s.toks) (fun b u e => Heap.get?_push_of_some _ e) (Nat.le_refl _) (itO_ok ⟨_, Heap.get?_push_size _ rfl, rfl, rfl⟩), rfl, q _ (I.hok.fresh (Nat.le_refl _))⟩
def rLenO (C : Addr) (sp : Sp) (E : XK) : List V → Hp → VK → Prop := fun xs H Q => ∃ (a dx : Addr) (fs : List (Str × V)), xs = [.ref a] ∧ H a = some (.ins C dx fs) ∧ sp [.ref a] H (fun v H' => ∃ n : Nat, v = .int n ∧ (n : Int) < 2 ^ 63 ∧ Q (.int n) H') E
/-- an own method that raises nothing, called at any depth -/
theorem met_run0 {X : Cx} {A : Around} {k j : Nat} {C : Addr} {m : Str} {sp : Sp} {E : XK} (c : Met CX0 X.prog X.w X.K X.mg X.base k C m sp) (hr : Room j A) (hk : k ≤ j)
    (hA : ∀ (s : Shared) (H : Hp), Env0 X.prog X.w X.K X.mg X.base X.A X.stack s H → Env0 X.prog X.w X.K X.mg X.base A X.stack s H) :
    ∃ f : Addr, PySem.W.findIn X.K (.ref C) m = some (some (.ref f)) ∧ PySem.W.isFn X.K (.ref f) = true ∧ PySem.W.keepIn X.K (.ref f) = true ∧
      ∀ (pins : List (Addr × Obj)) (s : Shared) (σ : L2.St) (H : Hp) (us : List Value) (vs : List V) (Q : VK) (EE : Value → Shared → Prop), Inv X pins σ H s → Vals vs us → sp vs H Q E → wpAny (model X.prog X.w) A (call (.ref f) us) (EP X pins σ Q) EE s := by
  obtain ⟨f, fd, ps, hc, hm, F, b⟩ := c.ex
  refine ⟨f, hm.at_, hm.fn, hm.kp, fun pins s σ H us vs Q EE I r h => ?_⟩
  have hl : us.length = ps.length := by rw [← r.length]; exact F.len _ _ _ _ h
  have hb := b s us I.kIn (by rw [List.append_nil]; exact hl)
  rw [List.append_nil] at hb
  refine wpAny_call (codeAny_mono (F.run A X.stack s H ⟨us, []⟩ us vs Q E (hr.mono hk) (hA _ _ I.env0) hb r h) fun r s' hq => ?_)
  match r with
  | .error e => exact False.elim hq
  | .ok (.ret u) => exact I.after hq
  | .ok .next => exact False.elim hq
  | .ok .brk => exact False.elim hq
  | .ok .cont => exact False.elim hq
abbrev EnvA (X : Cx) (A : Around) : Prop := ∀ (s : Shared) (H : Hp), Env0 X.prog X.w X.K X.mg X.base X.A X.stack s H → Env0 X.prog X.w X.K X.mg X.base A X.stack s H
/-- len(o) as a built-in's call, at any depth -/
theorem len_at {X : Cx} {A : Around} {k j : Nat} {C : Addr} {sp : Sp} {E : XK} (c : Met CX0 X.prog X.w X.K X.mg X.base k C "__len__" sp) (hr : Room j A.in1) (hk : k ≤ j) (hA : EnvA X A.in1)
    {pins : List (Addr × Obj)} {s : Shared} {σ : L2.St} {H : Hp} {a dx : Addr} {fs : List (Str × V)} {Q : VK} {EE : Value → Shared → Prop} (I : Inv X pins σ H s) (ha : H a = some (.ins C dx fs)) (hs : sp [.ref a] H (fun v H' => ∃ n : Nat, v = .int n ∧ (n : Int) < 2 ^ 63 ∧ Q (.int n) H') E) :
    wpAny (model X.prog X.w) A (call (.builtin "len") [.ref a]) (EP X pins σ Q) EE s := by
  obtain ⟨f, hf, fn, kp, run⟩ := met_run0 c hr hk hA
  obtain ⟨ox, od, J, _⟩ := inst_of I ha
  have h1 := run pins s σ H [.ref a] [.ref a] _ EE I (.cons rfl .nil) hs
  refine PySem.Calls.call_function_entry PySem.kind_len PySem.plain_len PySem.entry_len (PySem.args_len1 _) ?_
  unfold Builtin.«len»
  refine wpAny_bind (m := oneArg "len" _) (wpAny_pure ?_)
  refine wpAny_bind (m := callSpecial? (.ref a) (Str.ofString "__len__")) (PySem.W.special_fn I.kIn J hf (beq_iff_eq.mp fn) (wpAny_mono h1 (fun v s' hv => ?_) fun _ _ z => z))
  obtain ⟨x, H', I', rv, n, rfl, hn, q⟩ := hv
  obtain ⟨t, rfl⟩ := rv
  have h0 : ¬ ((n : Int) < 0) := by omega
  have h1 : ¬ ((n : Int) ≥ 2 ^ 63) := by omega
  wp_walk
  rw [if_neg h1]
  wp_walk
  exact ⟨_, rfl, .int n, H', I'.tok _, ⟨_, rfl⟩, q⟩
theorem call_lenO {X : Cx} {k j : Nat} {C : Addr} {sp : Sp} {E : XK} (c : Met CX0 X.prog X.w X.K X.mg X.base k C "__len__" sp) (hr : Room j X.A) (hk : k + 1 ≤ j) : CallR X (.builtin "len") (rLenO C sp E) := by
  intro pins s σ H xs us Q I r h
  obtain ⟨a, dx, fs, rfl, ha, hs⟩ := h
  obtain ⟨u, rfl, ru⟩ := vals1 r
  cases (show u = Value.ref a from ru)
  exact len_at c (hr.mono hk).in1 (Nat.le_refl _) (fun _ _ z => z.in1) I ha hs
/-- list(o)'s guess of the length: o's own __len__ -/
theorem hint_at {X : Cx} {A : Around} {k j : Nat} {C : Addr} {sp : Sp} {E : XK} (c : Met CX0 X.prog X.w X.K X.mg X.base k C "__len__" sp) (hr : Room j A.in1) (hk : k ≤ j) (hA : EnvA X A.in1)
    {pins : List (Addr × Obj)} {s : Shared} {σ : L2.St} {H : Hp} {a dx : Addr} {fs : List (Str × V)} {Q : Hp → Prop} {EE : Value → Shared → Prop} (I : Inv X pins σ H s) (ha : H a = some (.ins C dx fs))
    (hs : sp [.ref a] H (fun v H' => ∃ n : Nat, v = .int n ∧ (n : Int) < 2 ^ 63 ∧ ∃ m : Nat, V.int n = .int (m : Nat) ∧ m ≤ 100000 ∧ Q H') E) :
    wpAny (model X.prog X.w) A (Builtin.List.listLengthHint (.ref a)) (fun _ s' => ∃ H', Inv X pins σ H' s' ∧ Q H') EE s := by
  obtain ⟨ox, od, J, _⟩ := inst_of I ha
  obtain ⟨f, hf, fn, kp, run⟩ := met_run0 (E := E) c hr hk hA
  have h1 := len_at c hr hk hA (Q := fun v H' => ∃ m : Nat, v = .int (m : Nat) ∧ m ≤ 100000 ∧ Q H') (EE := fun _ _ => False) I ha hs
  unfold Builtin.List.listLengthHint
  refine wpAny_bind (wpAny_bind (J.type.here ((PySem.W.looks_findIn I.kIn hf).here ?_)))
  refine PySem.W.KFB.if_not rfl ?_
  refine PySem.W.KFB.if_so rfl ?_
  refine wpAny_bind (wpAny_rule (wpAny_bind (wpAny_attempt (wpAny_mono h1 (fun v s' hv => ?_) fun _ _ z => z.elim))))
  obtain ⟨x, H', I', rv, m, rfl, hm, q⟩ := hv
  obtain ⟨t, rfl⟩ := rv
  have h2 : Builtin.List.listTooLong ((m : Int).toNat) = false := by
    show decide ((m : Int).toNat > sizeLine) = false
    rw [decide_eq_false_iff_not, Int.toNat_natCast, sizeLine_eq]
    omega
  refine wpAny_bind (wpAny_pure ?_)
  refine PySem.W.KFB.if_not (by rw [h2]) ?_
  exact wpAny_pure ⟨H', I', q⟩
section
variable {prog : Program} {w : World} {A : Around} {E : Value → Shared → Prop} {s : Shared}
/-- a tuple iterator that has drawn all: it is still there -/
theorem next_over {it t : Addr} {i : Nat} {items : Array Value} {Q : Option Value → Shared → Prop} (hh : A.handled = none) (hit : s.heap.IsTupleIter it t i) (ht : s.heap.IsTuple t items) (hx : items[i]? = none)
    (hQ : ∀ h', Heap.ExtBut it s.heap h' → (∃ o, h'.get? it = some o ∧ o.cls = .type "tuple_iterator") → Q none { s with heap := h' }) : wpAny (model prog w) A (pyNext (.ref it)) Q E s := by
  obtain ⟨ob, hob, hcl, hda⟩ := id hit
  obtain ⟨ol, hol, _, nl, hdl⟩ := ht
  have there : ∀ (f : Array Value → Array Value) (x y : Obj), ∃ o, (((s.heap.update it (Obj.mapFields f)).push x).push y).get? it = some o ∧ o.cls = .type "tuple_iterator" := fun f x y =>
    ⟨_, Heap.get?_push_of_some _ (Heap.get?_push_of_some _ (Heap.get?_update_self _ hob (Obj.isFreed_of_fields (Obj.data_mapFields hda _)))), (Obj.cls_mapFields ..).trans hcl⟩
  unfold pyNext
  refine wpAny_bind (wpAny_attempt (wpAny_callSpecial?_slot (name := Str.ofString "__next__") hit.typeIs F.slot_tuple_iterator_next
    (wpAny_call_entry F.slot_tuple_iterator_next hit.typeIs F.entry_tuple_iterator_next ?_ (F.args_tuple_iterator_next_1 _))))
  show wpAny _ _ (field (.ref it) 0 >>= _) _ _ s
  refine wpAny_bind (wpAny_field hob hda (x := .ref t) rfl ?_)
  show wpAny _ _ (if (Value.ref t == Value.none) = true then _ else _) _ _ s
  rw [if_neg (show ¬ ((Value.ref t == Value.none) = true) from Bool.false_ne_true)]
  show wpAny _ _ (field (.ref it) 1 >>= _) _ _ s
  refine wpAny_bind (wpAny_field hob hda (x := .int i 0) rfl ?_)
  show wpAny _ _ (seqItems? (.ref t) >>= _) _ _ s
  refine wpAny_bind (wpAny_seqItems hol hdl ?_)
  simp only [Int.toNat_natCast, hx]
  refine wpAny_bind (wpAny_rule (wpAny_bind (wpAny_setField hob hda (by simp) ?_)))
  show wpAny _ _ (newExc (.type "StopIteration") [] >>= _) _ _ _
  refine wpAny_bind ?_
  simp only [newExc, newTuple]
  refine wpAny_bind (wpAny_newObj_type ?_ (by size_fits))
  refine wpAny_bind (m := firstArgMember _ _) (wpAny_of_eq (a := Value.none) (by first | rfl | (simp only [firstArgMember]; rfl)) ?_)
  refine wpAny_newObj_type ?_ (by size_fits)
  simp only [raiseNew]
  refine wpAny_bind (wpAny_handled ?_)
  first | rw [show A.in1.handled = none from hh] | rw [hh]
  refine wpAny_bind (wpAny_pure (wpAny_throw ?_))
  refine wpAny_bind (wpAny_isInstance (T := "StopIteration") (b := true) ⟨_, Heap.get?_push_size _ rfl, rfl⟩ isSubtype_stop ?_)
  exact wpAny_pure (hQ _ (((Heap.SameBut.update ..).extBut.push _).push _) (there ..))
end
/-- the loop that fills the list at q from the iterator at it over the tuple at t -/
theorem it_loop {X : Cx} {A1 : Around} (hh : A1.handled = none) {pins : List (Addr × Obj)} {σ : L2.St} {q it t : Addr} {ys : List V} {R : Result → Shared → Prop} {H0 : Hp} (nqi : q ≠ it)
    (hdone : ∀ H s, Inv X pins σ H s → (∀ b, b ≠ it → b ≠ q → H b = H0 b) → H q = some (.lst ys) → R (.ok (.ret .none)) s) (ht : SqT X.K H0 t ys) (hit0 : H0 it = some (itO it t 0)) (hq0 : H0 q = some (.lst [])) :
    ∀ (k i : Nat) (H : Hp) (s : Shared), ys.length - i = k → i ≤ ys.length → Inv X pins σ H s → (∀ b, b ≠ it → b ≠ q → H b = H0 b) → H it = some (itO it t i) → H q = some (.lst (ys.take i)) →
      codeAny (model X.prog X.w) A1 (.builtin "list.extend.loop" ⟨[.ref q, .ref it, .none], []⟩) R s := by
  have nt : ∀ {H : Hp}, (∀ b, b ≠ it → b ≠ q → H b = H0 b) → SqT X.K H t ys := fun {H} hb => by
    rcases ht with (h | ⟨o, h⟩) | h
    · exact .inl (.inl ((hb t (fun w => by rw [w, hit0] at h; cases h) (fun w => by rw [w, hq0] at h; cases h)).trans h))
    · exact .inl (.inr ⟨o, (hb t (fun w => by rw [w, hit0] at h; cases h) (fun w => by rw [w, hq0] at h; cases h)).trans h⟩)
    · exact .inr h
  intro k
  induction k with
  | zero =>
    intro i H s hk hi I hb hit hq
    have e : i = ys.length := by omega
    subst e
    obtain ⟨its, rv, p, hz⟩ := I.tuple (nt hb)
    have hL : s.heap.IsTuple t its.toArray := p
    have hlen := rv.length
    refine codeAny_builtin PySem.F.entry_extend_loop ?_
    rw [Around.under_plainId PySem.F.plain_extend_loop _]
    show wpAny _ A1.in1 (pyNext (.ref it) >>= _) _ _ s
    refine wpAny_bind (next_over (A := A1.in1) hh (itO_get I.hok hit) hL (by simp; omega) fun h' eb ho => ?_)
    have J := I.write (t' := s.toks) (x := it) (e := it) (o := itA it) (by rw [hit]; exact True.intro) (.inl rfl) (fun b u nb z => eb b u nb z) (let ⟨o, e, _⟩ := ho; ⟨o, e⟩) (itA_ok ho)
    refine wpAny_pure (hdone _ _ J (fun b n1 n2 => by rw [upd_ne n1]; exact hb b n1 n2) ?_)
    rw [upd_ne nqi, hq, List.take_length]
  | succ k ih =>
    intro i H s hk hi I hb hit hq
    have hlt : i < ys.length := by omega
    obtain ⟨its, rv, p, hz⟩ := I.tuple (nt hb)
    have hL : s.heap.IsTuple t its.toArray := p
    have hlen := rv.length
    obtain ⟨u, hu, ru⟩ := rv.get (List.getElem?_eq_getElem hlt)
    refine codeAny_builtin PySem.F.entry_extend_loop ?_
    rw [Around.under_plainId PySem.F.plain_extend_loop _]
    show wpAny _ A1.in1 (pyNext (.ref it) >>= _) _ _ s
    refine wpAny_bind (wpAny_pyNext_tuple_item (itO_get I.hok hit) hL (x := u) (by simpa using hu) fun h' hit' hs' => ?_)
    have J := I.write (t' := s.toks) (x := it) (e := it) (o := itO it t (i + 1)) (by rw [hit]; exact True.intro) (.inl rfl) (fun b v nb z => (hs'.2 b nb).trans z) (let ⟨o, e, _⟩ := hit'; ⟨o, e⟩) (itO_ok hit')
    have hq1 : (upd H it (itO it t (i + 1))) q = some (.lst (ys.take i)) := by rw [upd_ne nqi]; exact hq
    show wpAny _ A1.in1 (updateSeq q (·.push u) >>= _) _ _ _
    obtain ⟨z, its2, k2, r2, hl2, e2⟩ := J.lstM hq1
    have l2 := r2.length
    rw [List.length_take] at l2
    rw [sizeLine_eq] at hz
    have hmin : min i ys.length = i := Nat.min_eq_left (by omega)
    rw [hmin] at l2
    refine wpAny_bind (wpAny_updateSeq e2 rfl (wpAny_pure ⟨plainId_quiet PySem.F.plain_extend_loop _, ?_⟩) (by rw [List.size_toArray, sizeLine_eq]; omega) (by show (its2.toArray.push u).size ≤ sizeLine + 1; rw [Array.size_push, List.size_toArray, sizeLine_eq]; omega))
    refine ih (i + 1) _ _ (by omega) (by omega) (J.lset (its' := its2 ++ [u]) (t' := s.toks) hq1 e2 (by simp) (r2.append (.cons ru .nil)) (by rw [List.length_append, List.length_singleton, List.length_take, sizeLine_eq]; omega)) ?_ ?_ ?_
    · intro b n1 n2
      rw [upd_ne n2, upd_ne n1]
      exact hb b n1 n2
    · rw [upd_ne nqi.symm, upd_same]
    · rw [upd_same, ← take_snocG (List.getElem?_eq_getElem hlt)]
/-- list(o): o's __iter__ answers iter(a tuple of ys), its __len__ a small number -/
def rListO (K : PySem.W.Frag) (C : Addr) (spI spL : Sp) : List V → Hp → VK → Prop := fun xs H Q => ∃ (a dx : Addr) (fs : List (Str × V)), xs = [.ref a] ∧ H a = some (.ins C dx fs) ∧
  ∀ q, H q = none → spI [.ref a] (upd H q (.lst [])) (fun v H2 => ∃ (it t : Addr) (ys : List V) (dx2 : Addr) (fs2 : List (Str × V)), v = .ref it ∧ H2 it = some (itO it t 0) ∧ H2 a = some (.ins C dx2 fs2) ∧ q ≠ it ∧
    spL [.ref a] H2 (fun v H3 => ∃ n : Nat, v = .int n ∧ (n : Int) < 2 ^ 63 ∧ ∃ m : Nat, V.int n = .int (m : Nat) ∧ m ≤ 100000 ∧ (SqT K H3 t ys ∧ H3 it = some (itO it t 0) ∧ H3 q = some (.lst []) ∧
      ∀ H4 : Hp, (∀ b, b ≠ it → b ≠ q → H4 b = H3 b) → H4 q = some (.lst ys) → Q (.ref q) H4)) E0) E0
theorem call_listO {X : Cx} (hcalm : X.calm = true) {kI kL j : Nat} {C : Addr} {spI spL : Sp} (cI : Met CX0 X.prog X.w X.K X.mg X.base kI C "__iter__" spI) (cL : Met CX0 X.prog X.w X.K X.mg X.base kL C "__len__" spL) (hr : Room j X.A) (hkI : kI + 3 ≤ j) (hkL : kL + 3 ≤ j) :
    CallR X (.type "list") (rListO X.K C spI spL) := by
  intro pins s σ H xs us Q I rv h
  obtain ⟨a, dx, fs, rfl, ha, hq⟩ := h
  obtain ⟨u, rfl, ru⟩ := vals1 rv
  cases (show u = Value.ref a from ru)
  have room2 : Room (j - 2) X.A.in1.in1 := ((hr.mono (show j - 2 + 1 + 1 ≤ j by omega)).in1).in1
  have room3 : Room (j - 3) X.A.in1.in1.in1 := (room2.mono (show j - 3 + 1 ≤ j - 2 by omega)).in1
  refine callType_codes (Q₁ := fun obj s₁ => obj = .ref s.heap.objs.size ∧ s₁ = { s with heap := s.heap.push { cls := .type "list", data := .seq #[] } }) PySem.F.called_list (PySem.F.typeCall_list_1 _) PySem.F.entry_list_init
    (code_list_new _ ⟨rfl, rfl⟩) fun obj s₁ h₁ => ?_
  obtain ⟨rfl, rfl⟩ := h₁
  have hS : (s.heap.push { cls := .type "list", data := .seq #[] }).get? s.heap.objs.size = some { cls := .type "list", data := .seq #[] } := Heap.get?_push_size _ rfl
  refine ⟨⟨_, hS, rfl⟩, PySem.F.args_list_init_2 _ _, ?_⟩
  have fr : H s.heap.objs.size = none := I.hok.fresh (Nat.le_refl _)
  have hsp := hq _ fr
  have I1 : Inv X pins σ (upd H s.heap.objs.size (.lst [])) { s with heap := s.heap.push { cls := .type "list", data := .seq #[] } } := I.lnew (its := []) (t' := s.toks) .nil (Nat.zero_le _)
  show wpAny _ _ (do let old ← Builtin.List.listItems (.ref s.heap.objs.size); Builtin.List.listUpdate (.ref s.heap.objs.size) (fun _ => #[]); letGo old.toList.reverse; Builtin.List.listExtendWith (.ref s.heap.objs.size) (.ref a) .none) _ _ _
  refine wpAny_bind ?_
  unfold Builtin.List.listItems
  refine wpAny_bind (wpAny_seqItems hS rfl (wpAny_pure ?_))
  show wpAny _ _ (updateSeq s.heap.objs.size (fun _ => #[]) >>= fun _ => letGo (#[] : Array Value).toList.reverse >>= fun _ => Builtin.List.listExtendWith (.ref s.heap.objs.size) (.ref a) .none) _ _ _
  refine wpAny_bind (wpAny_updateSeq hS rfl ?_)
  have I2 := I1.lset (f := fun _ => #[]) (its := []) (its' := []) (ys := []) (t' := s.toks) upd_same hS rfl .nil (Nat.zero_le _)
  rw [upd_upd] at I2
  refine wpAny_bind (wpAny_letGo ?_)
  have ha2 : upd H s.heap.objs.size (.lst []) a = some (.ins C dx fs) := by rw [upd_ne (ne_of_none ha fr)]; exact ha
  have hne : s.heap.objs.size ≠ a := fun w => by rw [← w, fr] at ha; cases ha
  obtain ⟨ox, J, _⟩ := inst_of I2 ha2
  obtain ⟨J, _⟩ := ‹_ ∧ _›
  unfold Builtin.List.listExtendWith
  refine wpAny_bind (J.type.here ?_)
  have e1 : Builtin.List.listSameRef (.ref s.heap.objs.size) (.ref a) = false := by simp [Builtin.List.listSameRef, hne]
  have e2 : (Value.ref C == Value.type "list") = false := rfl
  have e3 : (Value.ref C == Value.type "tuple") = false := rfl
  simp only [e1, e2, e3, Bool.or_false, Bool.false_eq_true, if_false]
  obtain ⟨f, hf, fn, kp, run⟩ := met_run0 (A := X.A.in1.in1) cI room2 (show kI ≤ j - 2 by omega) (fun _ _ z => z.in1.in1)
  obtain ⟨m0, hF⟩ := I2.fr
  refine wpAny_bind (PySem.W.owit_iter hF I2.ok.mod.kin J hf fn (wpAny_mono (run pins _ σ _ [.ref a] [.ref a] _ _ I2 (.cons rfl .nil) hsp) (fun v s' hv => ?_) fun _ _ z => z))
  obtain ⟨x, H2, I3, rx, it, t, ys, dx2, fs2, rfl, hit, ha3, nqi, hL⟩ := hv
  cases (show v = Value.ref it from rx)
  have hitt := itO_get I3.hok hit
  unfold PySem.W.OwitIt
  refine wpAny_specialOf (name := Str.ofString "__next__") hitt.typeIs F.slot_tuple_iterator_next.lookup ?_
  refine wpAny_bind (wpAny_holding (wpAny_mono (hint_at (A := X.A.in1.in1) (EE := _) cL room3 (show kL ≤ j - 3 by omega) (fun _ _ z => z.in1.in1.in1) I3 ha3 hL) (fun b s2 hb => ?_) fun _ _ z => z))
  obtain ⟨H3, I4, hSq, hit3, hq3, hQ⟩ := hb
  have loop : ∀ s4, Inv X pins σ H3 s4 → codeAny (model X.prog X.w) X.A.in1 (.builtin "list.extend.loop" ⟨[.ref s.heap.objs.size, .ref it, .none], []⟩) (wants (fun r s₂ => r = Value.none ∧ EP X pins σ Q (Value.ref s.heap.objs.size) s₂) X.xe) s4 := fun s4 I5 =>
    it_loop (A1 := X.A.in1) (I.ok.hd hcalm) nqi (fun H4 s5 I6 hb hq' => ⟨rfl, .ref s.heap.objs.size, H4, I6, rfl, hQ H4 hb hq'⟩) hSq hit3 hq3 ys.length 0 H3 s4 (by omega) (Nat.zero_le _) I5 (fun _ _ _ => rfl) hit3 (by rw [List.take_zero]; exact hq3)
  refine wpAny_ite_split (fun _ => ?_) (fun _ => wpAny_pure ⟨plainId_quiet PySem.F.plain_extend_loop _, loop s2 I4⟩)
  obtain ⟨z, its, k, r3, hl3, e3'⟩ := I4.lstM hq3
  cases r3
  refine wpAny_bind (wpAny_rule ?_)
  refine wpAny_bind ?_
  show wpAny _ _ (updateSeq s.heap.objs.size (·.push .none) >>= fun _ => updateSeq s.heap.objs.size (·.pop)) _ _ _
  refine wpAny_bind (wpAny_updateSeq e3' rfl ?_)
  have I5 := I4.lset (f := (·.push Value.none)) (its' := [Value.none]) (ys := [.non]) (t' := s2.toks) hq3 e3' (by simp) (.cons rfl .nil) (by rw [List.length_singleton, sizeLine_eq]; decide)
  obtain ⟨z4, its4, k4, r4, hl4, e4⟩ := I5.lstM upd_same
  obtain ⟨u4, rfl, ru4⟩ := r4.one
  refine wpAny_updateSeq e4 rfl ?_ (by show 1 ≤ sizeLine; rw [sizeLine_eq]; decide) (by show 0 ≤ sizeLine + 1; exact Nat.zero_le _)
  refine wpAny_pure ⟨plainId_quiet PySem.F.plain_extend_loop _, loop _ ?_⟩
  have I6 := I5.lset (f := (·.pop)) (its := [u4]) (its' := []) (ys := []) (t' := s2.toks) upd_same e4 (by rfl) .nil (Nat.zero_le _)
  rw [upd_upd] at I6
  have hH : upd H3 s.heap.objs.size (.lst []) = H3 := by
    funext b
    by_cases hb : b = s.heap.objs.size
    · rw [hb, upd_same, hq3]
    · rw [upd_ne hb]
  rw [hH] at I6
  exact I6
/-! ### cars in lists -/
theorem sqt_same {K : PySem.W.Frag} {H H' : Hp} {a : Addr} {xs : List V} (h : SqT K H a xs) (e : Same H H') : SqT K H' a xs := by
  rcases h with (h | ⟨o, h⟩) | h
  · exact .inl (.inl (e _ _ h))
  · exact .inl (.inr ⟨o, e _ _ h⟩)
  · exact .inr h
theorem tyes {σ : L2.St} {H : Hp} {A B : Hp → Prop} (h : A H) : tYes σ H (fun b H3 => if b = true then A H3 else B H3) := by
  show (if true = true then A H else B H)
  rw [if_pos rfl]
  exact h
abbrev Car := Int × Int × Int × Int
def cr (c : Car) : List V := [.int c.1, .int c.2.1, .int c.2.2.1, .int c.2.2.2]
def CrV (K : PySem.W.Frag) (H : Hp) (x : V) (c : Car) : Prop := ∃ p : Addr, x = .ref p ∧ SqT K H p [.int c.1, .int c.2.1, .int c.2.2.1, .int c.2.2.2]
theorem CrV.same {K : PySem.W.Frag} {H H' : Hp} {x : V} {c : Car} (h : CrV K H x c) (e : Same H H') : CrV K H' x c := by
  obtain ⟨p, ex, hp⟩ := h
  exact ⟨p, ex, sqt_same hp e⟩
theorem CrV.lst {K : PySem.W.Frag} {H H' : Hp} {a : Addr} {x : V} {c : Car} {ys : List V} (h : CrV K H x c) (e : Kp a H H') (hl : H a = some (.lst ys)) : CrV K H' x c := by
  obtain ⟨p, ex, hp⟩ := h
  exact ⟨p, ex, sqt_lst hp e hl⟩
abbrev Cars (K : PySem.W.Frag) (H : Hp) := Al (CrV K H)
theorem carsS {K : PySem.W.Frag} {H H' : Hp} {xs : List V} {cs : List Car} (h : Cars K H xs cs) (e : Same H H') : Cars K H' xs cs := Al.mono (fun _ _ r => r.same e) h
theorem carsL {K : PySem.W.Frag} {H H' : Hp} {a : Addr} {ys : List V} {xs : List V} {cs : List Car} (h : Cars K H xs cs) (e : Kp a H H') (hl : H a = some (.lst ys)) : Cars K H' xs cs := Al.mono (fun _ _ r => r.lst e hl) h
theorem carsP {K : PySem.W.Frag} {H H' : Hp} {a : Addr} {xs : List V} {cs : List Car} (h : Cars K H xs cs) (e : Kp a H H') (p : PoolAt H a) : Cars K H' xs cs := by
  obtain ⟨x, y, z, e'⟩ := p
  exact carsL h e e'
theorem sqb_same {K : PySem.W.Frag} {b : Bool} {H H' : Hp} {a : Addr} {xs : List V} (h : SqB K b H a xs) (e : Same H H') : SqB K b H' a xs := by
  cases b
  · exact Same.seq e h
  · exact sqt_same h e
theorem sqb_or {K : PySem.W.Frag} {b : Bool} {H : Hp} {a : Addr} {xs : List V} (h : SqB K b H a xs) : SqL K H a xs ∨ SqT K H a xs := by
  cases b
  · exact .inl h
  · exact .inr h
theorem take_snoc {α : Type} {l : List α} {i : Nat} {x : α} (h : l[i]? = some x) : l.take i ++ [x] = l.take (i + 1) := by
  rw [List.take_add_one, h]
  rfl
theorem flat_ints (l : List Int) : (l.map V.int).all flatV = true := by
  rw [List.all_map, List.all_eq_true]
  intro j _
  rfl
/-- the same items, each flat -/
theorem same_ints {K : PySem.W.Frag} {H : Hp} {a b : Addr} {l : List Int} {n : Nat} (ha : SqL K H a (l.map V.int)) (hb : SqL K H b (l.map V.int)) (hz : l.length ≤ 100000) : SameV K H (n + 1) (.ref a) (.ref b) :=
  .inr (.inl ⟨a, b, _, _, rfl, rfl, ha, hb, by rw [List.length_map, sizeLine_eq]; omega, Pairs.refl fun x hx => by
    obtain ⟨t, _, e⟩ := List.mem_map.mp hx
    subst e
    exact SameV.flat rfl⟩)
theorem same_intsT {K : PySem.W.Frag} {H : Hp} {a b : Addr} {l : List Int} {n : Nat} (ha : SqT K H a (l.map V.int)) (hb : SqT K H b (l.map V.int)) (hz : l.length ≤ 100000) : SameV K H (n + 1) (.ref a) (.ref b) :=
  .inr (.inr ⟨a, b, _, _, rfl, rfl, ha, hb, by rw [List.length_map, sizeLine_eq]; omega, Pairs.refl fun x hx => by
    obtain ⟨t, _, e⟩ := List.mem_map.mp hx
    subst e
    exact SameV.flat rfl⟩)
theorem car_same {K : PySem.W.Frag} {H : Hp} {x y : V} {c : Car} {n : Nat} (hx : CrV K H x c) (hy : CrV K H y c) : SameV K H (n + 1) x y := by
  obtain ⟨p, rfl, hp⟩ := hx
  obtain ⟨q, rfl, hq⟩ := hy
  exact .inr (.inr ⟨p, q, _, _, rfl, rfl, hp, hq, by rw [sizeLine_eq]; show 4 ≤ 16777216; decide, Pairs.refl fun y hy => by
      simp only [List.mem_cons, List.not_mem_nil, or_false] at hy
      rcases hy with rfl | rfl | rfl | rfl <;> exact SameV.flat rfl⟩)
theorem Al.pairs {α : Type} {R : V → α → Prop} {S : V → V → Prop} (h : ∀ x y c, R x c → R y c → S x y) {xs ys : List V} {cs : List α} (a : Al R xs cs) (b : Al R ys cs) : Pairs S xs ys :=
  ⟨by rw [a.len, b.len], fun i x y hx hy => by
    obtain ⟨c, hc, r⟩ := a.at hx
    obtain ⟨c', hc', r'⟩ := b.at hy
    rw [hc] at hc'
    cases hc'
    exact h _ _ _ r r'⟩
theorem cars_sameL {K : PySem.W.Frag} {H : Hp} {a b : Addr} {xs ys : List V} {cs : List Car} {n : Nat} (ha : SqL K H a xs) (hb : SqL K H b ys) (hx : Cars K H xs cs) (hy : Cars K H ys cs) (hz : cs.length ≤ 100000) : SameV K H (n + 2) (.ref a) (.ref b) :=
  .inr (.inl ⟨a, b, _, _, rfl, rfl, ha, hb, by rw [hx.len, sizeLine_eq]; omega, Al.pairs (R := CrV K H) (S := SameV K H (n + 1)) (fun _ _ _ h1 h2 => car_same h1 h2) hx hy⟩)
theorem cars_sameT {K : PySem.W.Frag} {H : Hp} {a b : Addr} {xs ys : List V} {cs : List Car} {n : Nat} (ha : SqT K H a xs) (hb : SqT K H b ys) (hx : Cars K H xs cs) (hy : Cars K H ys cs) (hz : cs.length ≤ 100000) : SameV K H (n + 2) (.ref a) (.ref b) :=
  .inr (.inr ⟨a, b, _, _, rfl, rfl, ha, hb, by rw [hx.len, sizeLine_eq]; omega, Al.pairs (R := CrV K H) (S := SameV K H (n + 1)) (fun _ _ _ h1 h2 => car_same h1 h2) hx hy⟩)
theorem iteB {b : Bool} {A B : Prop} (hA : b = true → A) (hB : b = false → B) : if b = true then A else B := by
  cases b
  · exact iteF (hB rfl)
  · exact iteT (hA rfl)
theorem iteNe {x y : V} {A B : Prop} (e : x = y) (h : B) : if (!decide (x = y)) = true then A else B := by
  rw [decide_eq_true e]
  exact iteF h
theorem pick4 {a b c d r : Int} (h0 : 0 ≤ r) (h1 : r < 4) : ∃ v : Int, atI [V.int a, V.int b, V.int c, V.int d] r = some (V.int v) ∧ (v = a ∨ v = b ∨ v = c ∨ v = d) := by
  have : r = 0 ∨ r = 1 ∨ r = 2 ∨ r = 3 := by omega
  rcases this with e | e | e | e
  · subst e; exact ⟨a, rfl, .inl rfl⟩
  · subst e; exact ⟨b, rfl, .inr (.inl rfl)⟩
  · subst e; exact ⟨c, rfl, .inr (.inr (.inl rfl))⟩
  · subst e; exact ⟨d, rfl, .inr (.inr (.inr rfl))⟩
theorem getD_at {α : Type} {l : List α} {i : Nat} {c d : α} (h : l[i]? = some c) : l.getD i d = c := by
  rw [List.getD_eq_getElem?_getD, h]
  rfl
theorem seq_ix {i : Int} {n : Nat} (h0 : 0 ≤ i) (h1 : i < (n : Int)) : seqIndex? i n = some i.toNat := by
  unfold seqIndex?
  first
    | (simp only; split <;> first | (split <;> first | rfl | omega) | omega)
    | (have e : ¬ i < 0 := by omega
       simp [e, h1, h0])
theorem cut_drop (xs : List V) (w : Nat) : cutV xs (some (w : Int)) none = xs.drop w := by
  have e0 : HT.sIx xs.length xs.length none = xs.length := rfl
  have e1 : HT.sIx xs.length 0 (some (w : Int)) = min w xs.length := by
    simp only [HT.sIx]
    split <;> omega
  unfold cutV
  rw [e0, e1]
  by_cases h : w ≤ xs.length
  · rw [Nat.min_eq_left h, List.take_of_length_le (by rw [List.length_drop]; omega)]
  · rw [Nat.min_eq_right (by omega), List.drop_length, List.drop_of_length_le (by omega), List.take_nil]
/-! ### a written dict from ints to ints -/
def lkI (l : List (Int × Int)) (k : Int) : Option Int := match l with
  | [] => none
  | p :: r => if p.1 = k then some p.2 else lkI r k
structure KDI (K : PySem.W.Frag) (d : Addr) (f : Int → Option Int) : Prop where
  ex : ∃ (es : Array DictEntry) (n : Nat), K.lookup d = some ⟨.type "dict", none, .dict es n, #[]⟩ ∧ (∀ e ∈ es, ∃ k t, e.key = .int k t ∧ e.hash = hashInt k) ∧
    ∀ k, (f k = none → findBy Value.isInt es k = none) ∧ ∀ v, f k = some v → ∃ t, findBy Value.isInt es k = some (.int v t)
  low : (d == sysModules) = false
def entI (q : (Int × Int) × (Tok × Tok)) : DictEntry := ⟨hashInt q.1.1, .int q.1.1 q.2.1, .int q.1.2 q.2.2⟩
theorem kdi_mk {K : PySem.W.Frag} {d : Addr} {n : Nat} (q : List ((Int × Int) × (Tok × Tok))) (l : K.lookup d = some ⟨.type "dict", none, .dict (q.map entI).toArray n, #[]⟩) (low : (d == sysModules) = false) : KDI K d (lkI (q.map (·.1))) := by
  refine ⟨⟨_, n, l, fun e he => ?_, fun k => ?_⟩, low⟩
  · rw [List.mem_toArray] at he
    obtain ⟨x, _, rfl⟩ := List.mem_map.mp he
    exact ⟨_, _, rfl, rfl⟩
  · unfold findBy
    rw [List.find?_toArray]
    clear l
    induction q with
    | nil => exact ⟨fun _ => rfl, fun v h => by cases h⟩
    | cons x q ih =>
      rw [List.map_cons, List.map_cons, List.find?_cons]
      by_cases h : x.1.1 = k
      · have e : Value.isInt k (entI x).key = true := by
          show Value.isInt k (.int x.1.1 x.2.1) = true
          simp [Value.isInt, h]
        rw [e]
        refine ⟨fun z => ?_, fun v z => ?_⟩
        · unfold lkI at z
          rw [if_pos h] at z
          cases z
        · unfold lkI at z
          rw [if_pos h] at z
          cases z
          exact ⟨_, rfl⟩
      · have e : Value.isInt k (entI x).key = false := by
          show Value.isInt k (.int x.1.1 x.2.1) = false
          simp [Value.isInt, h]
        rw [e]
        have e2 : lkI (x.1 :: q.map (·.1)) k = lkI (q.map (·.1)) k := by
          conv => lhs; unfold lkI
          rw [if_neg h]
        rw [e2]
        exact ih
section
variable {X : Cx} {d : Addr} {f : Int → Option Int}
theorem kdi_map {pins : List (Addr × Obj)} {σ : L2.St} {H : Hp} {s : Shared} (D : KDI X.K d f) (I : Inv X pins σ H s) : ∃ g : Int → Option Value, s.heap.MapOf (intKind X.prog X.w) d g ∧ ∀ k, (f k = none → g k = none) ∧ ∀ v, f k = some v → ∃ t, g k = some (.int v t) := by
  obtain ⟨es, n, l, hk, hf⟩ := D.ex
  refine ⟨fun k => findBy Value.isInt es k, ⟨_, es, n, I.kIn _ _ l, ⟨rfl, rfl, rfl⟩, rfl, fun e he => ?_, fun _ => rfl⟩, hf⟩
  obtain ⟨k, t, e1, e2⟩ := hk e he
  exact ⟨k, by rw [e1]; exact intKind_is X.prog X.w k t, e2⟩
theorem op_notIn_kdi (D : KDI X.K d f) : OpR X (compareOp .NotIn) (fun x y H Q => ∃ k : Int, x = .int k ∧ y = .ref d ∧ Q (.bl (!(f k).isSome)) H) := by
  intro pins s σ H x y v u Q I rx ry h
  obtain ⟨k, rfl, rfl, q⟩ := h
  obtain ⟨t, rfl⟩ := rx
  cases ry
  obtain ⟨g, hm, hg⟩ := kdi_map D I
  refine wpAny_notIn_of (intKind_is X.prog X.w k t) D.low hm ?_
  have e : (g k).isSome = (f k).isSome := by
    cases hf : f k with
    | none =>
      rw [(hg k).1 hf]
      rfl
    | some v =>
      obtain ⟨t, e⟩ := (hg k).2 v hf
      rw [e]
      rfl
  rw [e]
  exact ⟨.bl (!(f k).isSome), H, I.tok _, rfl, q⟩
theorem ix_kdi (D : KDI X.K d f) : IxR X (fun x y H Q => ∃ k v : Int, x = .ref d ∧ y = .int k ∧ f k = some v ∧ Q (.int v) H) := by
  intro value slice pins s σ H x y u v Q I rx ry h hs
  obtain ⟨k, z, rfl, rfl, e, q⟩ := h
  cases rx
  obtain ⟨t, rfl⟩ := ry
  obtain ⟨g, hm, hg⟩ := kdi_map D I
  obtain ⟨t2, e2⟩ := (hg k).2 z e
  exact PyProof.Rows.tail_any hm.typeIs slot_dict_getitem.lookup (wpAny_getItem_of (intKind_is X.prog X.w k t) hm e2 ⟨.int z, H, I.tok _, ⟨_, rfl⟩, q⟩) hs
end
/-! ### == of lists, of tuples of whole numbers -/
theorem dpAll_ints {K : PySem.W.Frag} {H : Hp} : ∀ ns : List Int, DpAll K H (ns.map V.int) (ns.map PyData.int)
  | [] => .nil
  | n :: ns => .cons (.int n) (dpAll_ints ns)
theorem eqvAll_ints : ∀ ns ms : List Int, PyData.eqvAll (ns.map PyData.int) (ms.map PyData.int) = decide (ns = ms)
  | [], [] => by simp [PyData.eqvAll]
  | [], m :: ms => by simp [PyData.eqvAll]
  | n :: ns, [] => by simp [PyData.eqvAll]
  | n :: ns, m :: ms => by
    rw [List.map_cons, List.map_cons, PyData.eqvAll, eqvAll_ints ns ms, PyData.eqv, Bool.eq_iff_iff]
    simp
theorem lay_ints : ∀ ns : List Int, PyData.canLayAll0 (ns.map PyData.int) = true
  | [] => by simp [PyData.canLayAll0]
  | n :: ns => by
    rw [List.map_cons, PyData.canLayAll0, lay_ints ns, PyData.canLay0]
    rfl
theorem dep_ints : ∀ ns : List Int, PyData.depthAll (ns.map PyData.int) = 0
  | [] => by simp [PyData.depthAll]
  | n :: ns => by
    rw [List.map_cons, PyData.depthAll, dep_ints ns, PyData.depth]
    rfl
theorem shaped_ints (ns : List Int) : SeqAt.shaped (.list (ns.map PyData.int)) = true ∧ SeqAt.shaped (.tuple (ns.map PyData.int)) = true := by
  unfold SeqAt.shaped
  rw [PyData.canLay0, PyData.canLay0, PyData.depth, PyData.depth, lay_ints, dep_ints]
  exact ⟨rfl, rfl⟩
section
variable {X : Cx}
theorem op_eqLI (hu : X.A.units + 64 < cLine) : OpR X (compareOp .Eq) (fun x y H Q => ∃ (a b : Addr) (ns ms : List Int), x = .ref a ∧ y = .ref b ∧ SqL X.K H a (ns.map V.int) ∧ SqL X.K H b (ms.map V.int) ∧ Q (.bl (decide (ns = ms))) H) := by
  intro pins s σ H x y v u Q I rx ry h
  obtain ⟨a, b, ns, ms, rfl, rfl, ha, hb, q⟩ := h
  refine op_eqD hu pins s σ H _ _ v u Q I rx ry ⟨.list (ns.map PyData.int), .list (ms.map PyData.int), .lst ha (dpAll_ints ns), .lst hb (dpAll_ints ms), (shaped_ints ns).1, (shaped_ints ms).1, ?_⟩
  rw [PyData.eqv, eqvAll_ints]
  exact q
theorem op_eqTI (hu : X.A.units + 64 < cLine) : OpR X (compareOp .Eq) (fun x y H Q => ∃ (a b : Addr) (ns ms : List Int), x = .ref a ∧ y = .ref b ∧ SqT X.K H a (ns.map V.int) ∧ SqT X.K H b (ms.map V.int) ∧ Q (.bl (decide (ns = ms))) H) := by
  intro pins s σ H x y v u Q I rx ry h
  obtain ⟨a, b, ns, ms, rfl, rfl, ha, hb, q⟩ := h
  refine op_eqD hu pins s σ H _ _ v u Q I rx ry ⟨.tuple (ns.map PyData.int), .tuple (ms.map PyData.int), .tup ha (dpAll_ints ns), .tup hb (dpAll_ints ms), (shaped_ints ns).2, (shaped_ints ms).2, ?_⟩
  rw [PyData.eqv, eqvAll_ints]
  exact q
end
/-! ### x[i] by an own __getitem__ -/
def rIxO (C : Addr) (sp : Sp) (E : XK) : R2 := fun x y H Q => ∃ (a dx : Addr) (fs : List (Str × V)), x = .ref a ∧ H a = some (.ins C dx fs) ∧ sp [x, y] H Q E
section
variable {X : Cx} {CX : CXT} {k j : Nat} {C : Addr} {sp : Sp} {a b : Expr} {ta tb : TE} {pos : Pos}
theorem pe_ixO {E : XK} (c : Met CX X.prog X.w X.K X.mg X.base k C "__getitem__" sp) (hr : Room j X.A) (hk : k + 1 ≤ j) (hx : Passes CX X E) (ha : PE X a ta) (hb : PE X b tb)
    (hsl : ∀ v u : Value, subscripted b true v u = runValue (.builtin "lifetime.subscript" ⟨[v, u], []⟩) := by intro _ _; with_unfolding_all rfl) : PE X (.Subscript a b pos) (tOp (rIxO C sp E) ta tb) := by
  refine ⟨fun pins s σ H Q I h => ?_⟩
  refine Subscript_ (binT ha hb I h fun v u s2 x y H2 I2 rx ry q => ?_)
  obtain ⟨p, dx, fs, rfl, hp, hs⟩ := q
  obtain ⟨f, hf, fn, kp, run⟩ := met_runA c (hr.mono hk).in1 (Nat.le_refl _) hx (fun _ _ z => z.in1)
  obtain ⟨mF, F⟩ := I2.fr
  obtain ⟨ox, od, J, _⟩ := inst_of I2 hp
  have r2 : Vals [V.ref p, y] [v, u] := .cons rx (.cons ry .nil)
  cases (show v = Value.ref p from rx)
  exact PySem.W.sub_K F I2.ok.mod.kin J hf (c.fi f hf) fn (run pins s2 σ H2 _ _ Q I2 r2 hs) (hsl _ _)
theorem pe_ixOS {E : L2.St → XK} (c : Met CX X.prog X.w X.K X.mg X.base k C "__getitem__" sp) (hr : Room j X.A) (hk : k + 1 ≤ j) (hx : ∀ σ, PassesAt CX X σ (E σ)) (ha : PE X a ta) (hb : PE X b tb)
    (hsl : ∀ v u : Value, subscripted b true v u = runValue (.builtin "lifetime.subscript" ⟨[v, u], []⟩) := by intro _ _; with_unfolding_all rfl) : PE X (.Subscript a b pos) (tOpS (fun σ => rIxO C sp (E σ)) ta tb) := by
  refine ⟨fun pins s σ H Q I h => ?_⟩
  refine Subscript_ (binT (R := fun x y H2 => rIxO C sp (E σ) x y H2 Q) ha hb I h fun v u s2 x y H2 I2 rx ry q => ?_)
  obtain ⟨p, dx, fs, rfl, hp, hs⟩ := q
  obtain ⟨f, fd, ps, hc, hm, F, bd⟩ := c.ex
  have run : ∀ (us : List Value) (vs : List V) (Q : VK), Vals vs us → sp vs H2 Q (E σ) → wpAny (model X.prog X.w) X.A.in1 (call (.ref f) us) (EP X pins σ Q) X.xe s2 := fun us vs Q r h => by
    have hl : us.length = ps.length := by rw [← r.length]; exact F.len _ _ _ _ h
    have hb' := bd s2 us I2.kIn (by rw [List.append_nil]; exact hl)
    rw [List.append_nil] at hb'
    refine wpAny_call (codeAny_mono (F.run X.A.in1 X.stack s2 H2 ⟨us, []⟩ us vs Q (E σ) ((hr.mono hk).in1) (I2.env0.in1) hb' r h) fun r s' hq => ?_)
    match r with
    | .error e => exact hx σ pins H2 s2 e s' I2 hq
    | .ok (.ret u) => exact I2.after hq
    | .ok .next => exact False.elim hq
    | .ok .brk => exact False.elim hq
    | .ok .cont => exact False.elim hq
  obtain ⟨mF, Fr⟩ := I2.fr
  obtain ⟨ox, od, J, _⟩ := inst_of I2 hp
  have r2 : Vals [V.ref p, y] [v, u] := .cons rx (.cons ry .nil)
  cases (show v = Value.ref p from rx)
  exact PySem.W.sub_K Fr I2.ok.mod.kin J hm.at_ (c.fi f hm.at_) hm.fn (run _ _ Q r2 hs) (hsl _ _)
end
/-! ### a comprehension over zip of two tuples -/
theorem walk_zipT {K : PySem.W.Frag} {a b : Addr} {xs ys : List V} (hn : xs.length = ys.length) : Walk (RZ.ItzT K a b) xs.length (fun H => SqT K H a xs ∧ SqT K H b ys) (YPair (fun i => xs[i]?) (fun i => ys[i]?)) :=
  ⟨fun i _ hi q => ⟨xs, ys, xs[i], ys[i]'(by omega), q.1, q.2, by simp [hi], by simp [show i < ys.length by omega]⟩, fun _ q => ⟨xs, ys, q.1, q.2, .inl (Nat.le_refl _)⟩, fun i H x H' _ q y => by
    obtain ⟨T, u, v, e1, e2, e3, f1, f2⟩ := y
    exact ⟨T, u, v, e1, e2, e3, f1 xs q.1, f2 ys q.2⟩⟩
theorem int_at {hs : List Int} {i : Nat} {y : V} (h : (hs.map V.int)[i]? = some y) : ∃ z : Int, hs[i]? = some z ∧ y = .int z := by
  rw [List.getElem?_map] at h
  cases e : hs[i]? with
  | none => rw [e] at h; cases h
  | some z => rw [e] at h; cases h; exact ⟨z, rfl, rfl⟩
/-! ### claims -/
def clf (tp : Addr) : List (Str × V) := putF "table" (.ref tp) []
theorem clf_table (tp : Addr) : (clf tp).lookup ("table" : Str) = some (.ref tp) := by
  unfold clf
  rw [lookup_putF, if_pos rfl]
theorem clf_no (tp : Addr) {m : Str} (h : ¬ m = "table") : (clf tp).lookup m = none := by
  unfold clf
  rw [lookup_putF, if_neg h]
  all_goals rfl
def ClmAt (K : PySem.W.Frag) (C : Addr) (H : Hp) (a : Addr) (ns : List Int) : Prop := ∃ (dx tp : Addr), H a = some (.ins C dx (clf tp)) ∧ H tp = some (.tup (ns.map V.int))
theorem ClmAt.same {K : PySem.W.Frag} {C : Addr} {H H' : Hp} {a : Addr} {ns : List Int} (h : ClmAt K C H a ns) (e : Same H H') : ClmAt K C H' a ns := by
  obtain ⟨dx, tp, h1, h2⟩ := h
  exact ⟨dx, tp, e _ _ h1, e _ _ h2⟩
def LenOk (n : Nat) : Prop := n = 2 ∨ n = 4 ∨ n = 8 ∨ n = 16
def Tab (ns : List Int) : Prop := LenOk ns.length ∧ ∀ n ∈ ns, 0 ≤ n
theorem LenOk.le {n : Nat} (h : LenOk n) : n ≤ 16 := by unfold LenOk at h; omega
def grt (a b : Int) : Int := if a > b then a else b
def shf (ns : List Int) (w : Int) : List Int := (List.range ns.length).map fun m => grt (ns.getD (2 * m % ns.length) 0) (ns.getD (2 * m % ns.length + 1) 0 - w)
theorem shf_len (ns : List Int) (w : Int) : (shf ns w).length = ns.length := by unfold shf; rw [List.length_map, List.length_range]
theorem low_lt {n m : Nat} (h : LenOk n) : 2 * m % n + 1 < n := by
  rcases h with rfl | rfl | rfl | rfl <;> omega
theorem getD_mem {ns : List Int} {i : Nat} (h : i < ns.length) : ns.getD i 0 ∈ ns := by
  rw [List.getD_eq_getElem?_getD, List.getElem?_eq_getElem h]
  exact List.getElem_mem h
theorem shf_tab {ns : List Int} {w : Int} (h : Tab ns) : Tab (shf ns w) := by
  refine ⟨by rw [shf_len]; exact h.1, fun n hn => ?_⟩
  obtain ⟨m, _, rfl⟩ := List.mem_map.mp hn
  have := low_lt (m := m) h.1
  have z := h.2 _ (getD_mem (i := 2 * m % ns.length) (by omega))
  unfold grt
  split <;> omega
theorem int_get {ns : List Int} {i : Nat} (h : i < ns.length) : atI (ns.map V.int) ((i : Nat) : Int) = some (.int (ns.getD i 0)) := by
  refine atI_nat ?_
  rw [List.getElem?_map, List.getD_eq_getElem?_getD, List.getElem?_eq_getElem h]
  rfl
def sp_Claims_init (K : PySem.W.Frag) (C : Addr) : Sp := fun vs H Q _ => ∃ (x dx l : Addr) (ns : List Int), vs = [.ref x, .ref l] ∧ H x = some (.ins C dx []) ∧ SqL K H l (ns.map V.int) ∧ Tab ns ∧
  ∀ H', Kp x H H' → ClmAt K C H' x ns → Q .non H'
def sp_greater : Sp := fun vs H Q _ => ∃ a b : Int, vs = [.int a, .int b] ∧ Q (.int (grt a b)) H
def sp_rshift (K : PySem.W.Frag) (C : Addr) : Sp := fun vs H Q _ => ∃ (a : Addr) (ns : List Int) (w : Int), vs = [.ref a, .int w] ∧ ClmAt K C H a ns ∧ Tab ns ∧
  ∀ (H' : Hp) (b : Addr), Same H H' → H b = none → ClmAt K C H' b (shf ns w) → Q (.ref b) H'
/-- how many of the hours below h are in the mask -/
def hrsN (m h : Nat) : Nat := ((List.range h).map fun k => m / 2 ^ k % 2).sum
theorem hrsN_succ (m h : Nat) : hrsN m (h + 1) = hrsN m h + m / 2 ^ h % 2 := by
  unfold hrsN
  rw [List.range_succ, List.map_append, List.sum_append]
  simp
def spn (n : Nat) : Nat := if n = 2 then 1 else if n = 4 then 2 else if n = 8 then 3 else 4
theorem hrs_span {n m : Nat} (h : LenOk n) (hm : m < n) : hrsN m (spn n) = hrsN m 4 := by
  rcases h with rfl | rfl | rfl | rfl
  · revert m; decide
  · revert m; decide
  · revert m; decide
  · revert m; decide
def ovr (ns : List Int) (w : Int) : Option Nat := (List.range ns.length).find? fun m => decide (ns.getD m 0 > w * (hrsN m 4 : Nat))
def ov2 : Option Nat → V
  | none => .non
  | some m => .int (m : Nat)
theorem ov2_flat (o : Option Nat) : flatD (ov2 o) = true := by cases o <;> rfl
theorem ovr_hit {ns : List Int} {w : Int} {i : Nat} (hi : i < ns.length) (h : ∀ j, j < i → ¬ ns.getD j 0 > w * (hrsN j 4 : Nat)) (hp : ns.getD i 0 > w * (hrsN i 4 : Nat)) : ovr ns w = some i := by
  unfold ovr
  rw [List.find?_range_eq_some]
  refine ⟨decide_eq_true hp, List.mem_range.mpr hi, fun j hj => ?_⟩
  rw [decide_eq_false (h j hj)]
  rfl
theorem ovr_no {ns : List Int} {w : Int} (h : ∀ j, j < ns.length → ¬ ns.getD j 0 > w * (hrsN j 4 : Nat)) : ovr ns w = none := by
  unfold ovr
  rw [List.find?_range_eq_none]
  intro j hj
  rw [decide_eq_false (h j hj)]
  rfl
def sp_hours : Sp := fun vs H Q _ => ∃ m h : Nat, vs = [.int (m : Nat), .int (h : Nat)] ∧ h ≤ 100 ∧ ∀ H', Same H H' → Q (.int (hrsN m h : Nat)) H'
def sp_span (K : PySem.W.Frag) (C : Addr) : Sp := fun vs H Q _ => ∃ (a : Addr) (ns : List Int), vs = [.ref a] ∧ ClmAt K C H a ns ∧ LenOk ns.length ∧ Q (.int (spn ns.length : Nat)) H
def sp_over (K : PySem.W.Frag) (C : Addr) : Sp := fun vs H Q _ => ∃ (a : Addr) (ns : List Int) (w : Int), vs = [.ref a, .int w] ∧ ClmAt K C H a ns ∧ LenOk ns.length ∧ -(2 ^ 60) < w ∧ w < 2 ^ 60 ∧ ∀ H', Same H H' → Q (ov2 (ovr ns w)) H'
def sp_fits (K : PySem.W.Frag) (C : Addr) : Sp := fun vs H Q _ => ∃ (a : Addr) (ns : List Int) (w : Int), vs = [.ref a, .int w] ∧ ClmAt K C H a ns ∧ LenOk ns.length ∧ -(2 ^ 60) < w ∧ w < 2 ^ 60 ∧ ∀ H', Same H H' → Q (.bl (decide (ov2 (ovr ns w) = .non))) H'
theorem mk_same {H J : Hp} {x dx C : Addr} (hx : H x = none) (hdx : H dx = none) (k : Kp x (upd (upd H dx (.own x)) x (.ins C dx [])) J) : Same H J := fun b o e => k b o (ne_of_none e hx) (by
  rw [upd_ne (ne_of_none e hx), upd_ne (ne_of_none e hdx)]
  exact e)
/-! ### claims: what may be refused -/
def ClmS (K : PySem.W.Frag) (C : Addr) (H : Hp) (a : Addr) (ns : List Int) : Prop := ∃ (dx tp : Addr), H a = some (.ins C dx (clf tp)) ∧ SqT K H tp (ns.map V.int)
theorem ClmS.same {K : PySem.W.Frag} {C : Addr} {H H' : Hp} {a : Addr} {ns : List Int} (h : ClmS K C H a ns) (e : Same H H') : ClmS K C H' a ns := by
  obtain ⟨dx, tp, h1, h2⟩ := h
  exact ⟨dx, tp, e _ _ h1, sqt_same h2 e⟩
def adds (ns ms : List Int) : List Int := (List.range ns.length).map fun k => ns.getD k 0 + ms.getD k 0
theorem adds_len (ns ms : List Int) : (adds ns ms).length = ns.length := by unfold adds; rw [List.length_map, List.length_range]
theorem getD_nn {ns : List Int} (h : ∀ n ∈ ns, 0 ≤ n) (k : Nat) : 0 ≤ ns.getD k 0 := by
  by_cases hk : k < ns.length
  · exact h _ (getD_mem hk)
  · rw [List.getD_eq_getElem?_getD, List.getElem?_eq_none (by omega)]
    exact Int.le_refl 0
theorem adds_tab {ns ms : List Int} (h : Tab ns) (h2 : Tab ms) : Tab (adds ns ms) := by
  refine ⟨by rw [adds_len]; exact h.1, fun n hn => ?_⟩
  obtain ⟨m, _, rfl⟩ := List.mem_map.mp hn
  have a := getD_nn h.2 m
  have b := getD_nn h2.2 m
  omega
instance (n : Nat) : Decidable (LenOk n) := inferInstanceAs (Decidable (n = 2 ∨ n = 4 ∨ n = 8 ∨ n = 16))
instance (ns : List Int) : Decidable (Tab ns) := inferInstanceAs (Decidable (LenOk ns.length ∧ ∀ n ∈ ns, 0 ≤ n))
def sp_Claims_initX (K : PySem.W.Frag) (C B : Addr) : Sp := fun vs H Q E => ∃ (x dx l : Addr) (b : Bool) (ns : List Int), vs = [.ref x, .ref l] ∧ H x = some (.ins C dx []) ∧ SqB K b H l (ns.map V.int) ∧ ns.length ≤ 1000 ∧
  ((Tab ns ∧ ∀ H', Kp x H H' → ClmS K C H' x ns → Q .non H') ∨ (¬ Tab ns ∧ ∀ H', Same H H' → E (.ref B) none H'))
def sp_spanS (K : PySem.W.Frag) (C : Addr) : Sp := fun vs H Q _ => ∃ (a : Addr) (ns : List Int), vs = [.ref a] ∧ ClmS K C H a ns ∧ LenOk ns.length ∧ Q (.int (spn ns.length : Nat)) H
def sp_Clen (K : PySem.W.Frag) (C : Addr) : Sp := fun vs H Q _ => ∃ (x : Addr) (ns : List Int), vs = [.ref x] ∧ ClmS K C H x ns ∧ Q (.int (ns.length : Nat)) H
def sp_Citer (K : PySem.W.Frag) (C : Addr) : Sp := fun vs H Q _ => ∃ (x tp dx : Addr) (ns : List Int), vs = [.ref x] ∧ H x = some (.ins C dx (clf tp)) ∧ SqT K H tp (ns.map V.int) ∧ ∀ it, H it = none → Q (.ref it) (upd H it (itO it tp 0))
def sp_Cget (K : PySem.W.Frag) (C B : Addr) : Sp := fun vs H Q E => ∃ (x : Addr) (ns : List Int) (i : Int), vs = [.ref x, .int i] ∧ ClmS K C H x ns ∧
  ((∃ k : Nat, i = (k : Int) ∧ k < ns.length ∧ Q (.int (ns.getD k 0)) H) ∨ ((i < 0 ∨ (ns.length : Int) ≤ i) ∧ E (.ref B) none H))
def sp_Cadd (K : PySem.W.Frag) (C B : Addr) : Sp := fun vs H Q E => ∃ (a b : Addr) (ns ms : List Int), vs = [.ref a, .ref b] ∧ ClmS K C H a ns ∧ ClmS K C H b ms ∧ Tab ns ∧ Tab ms ∧
  ((ns.length = ms.length ∧ ∀ (H' : Hp) (r : Addr), Same H H' → H r = none → ClmS K C H' r (adds ns ms) → Q (.ref r) H') ∨ (¬ ns.length = ms.length ∧ E (.ref B) none H))
def sp_Ceq (K : PySem.W.Frag) (C : Addr) : Sp := fun vs H Q _ => ∃ (a b : Addr) (ns ms : List Int), vs = [.ref a, .ref b] ∧ ClmS K C H a ns ∧ ClmS K C H b ms ∧ Q (.bl (decide (ns = ms))) H
theorem ClmS.lst {K : PySem.W.Frag} {C : Addr} {H H' : Hp} {a c : Addr} {ns : List Int} {ys : List V} (h : ClmS K C H a ns) (k : Kp c H H') (hl : H c = some (.lst ys)) : ClmS K C H' a ns := by
  obtain ⟨dx, tp, h1, h2⟩ := h
  exact ⟨dx, tp, k _ _ (fun w => by rw [w, hl] at h1; cases h1) h1, sqt_lst h2 k hl⟩
theorem ixN_nat {n k : Nat} (h : k < n) : ixN n ((k : Nat) : Int) = some k := by
  unfold ixN
  simp
  omega
def fS (n i : Nat) : List Nat := (List.range i).filter fun k => decide (([1, 2, 4, 8, 16] : List Nat).getD k 0 = n)
theorem fS_snoc (n i : Nat) : fS n (i + 1) = fS n i ++ (if decide (([1, 2, 4, 8, 16] : List Nat).getD i 0 = n) = true then [i] else []) := by
  unfold fS
  rw [List.range_succ, List.filter_append, List.filter_cons]
  rfl
theorem fS_len (n i : Nat) : (fS n i).length ≤ i := Nat.le_trans (List.length_filter_le ..) (by rw [List.length_range]; exact Nat.le_refl _)
theorem fS_end {n : Nat} (h : LenOk n) : fS n 5 = [spn n] := by
  rcases h with rfl | rfl | rfl | rfl <;> decide
def topS (i : Nat) : Stmt := PySem.Challenge.pw_onecable_k41_claims_added_and_read.main.body.getD i (.Pass ⟨0, 0, 0, 0⟩)
abbrev s_Claims_init : Stmt := inClass (topS 10) 0
theorem sc_Claims_init : FnScope ["self", "table", "number"] ["self", "table"] (defScope s_Claims_init) := ⟨rfl, rfl, rfl, by decide +kernel, rfl, by decide +kernel, by decide +kernel⟩
abbrev s_Claims_span : Stmt := inClass (topS 10) 3
theorem sc_Claims_span : FnScope ["self"] ["self"] (defScope s_Claims_span) := ⟨rfl, rfl, rfl, by decide +kernel, rfl, by decide +kernel, by decide +kernel⟩
abbrev s_Claims_len : Stmt := inClass (topS 10) 6
theorem sc_Claims_len : FnScope ["self"] ["self"] (defScope s_Claims_len) := ⟨rfl, rfl, rfl, by decide +kernel, rfl, by decide +kernel, by decide +kernel⟩
abbrev s_Claims_iter : Stmt := inClass (topS 10) 7
theorem sc_Claims_iter : FnScope ["self"] ["self"] (defScope s_Claims_iter) := ⟨rfl, rfl, rfl, by decide +kernel, rfl, by decide +kernel, by decide +kernel⟩
abbrev s_Claims_getitem : Stmt := inClass (topS 10) 8
theorem sc_Claims_getitem : FnScope ["self", "at"] ["self", "at"] (defScope s_Claims_getitem) := ⟨rfl, rfl, rfl, by decide +kernel, rfl, by decide +kernel, by decide +kernel⟩
abbrev s_Claims_add : Stmt := inClass (topS 10) 9
theorem sc_Claims_add : FnScope ["self", "other", "mine", "others"] ["self", "other"] (defScope s_Claims_add) := ⟨rfl, rfl, rfl, by decide +kernel, rfl, by decide +kernel, by decide +kernel⟩
abbrev s_Claims_eq : Stmt := inClass (topS 10) 11
theorem sc_Claims_eq : FnScope ["self", "other"] ["self", "other"] (defScope s_Claims_eq) := ⟨rfl, rfl, rfl, by decide +kernel, rfl, by decide +kernel, by decide +kernel⟩
abbrev s_Lcell : Stmt := topS 12
theorem sc_Lcell : FnScope ["_law_script", "_law_at"] ["_law_script", "_law_at"] (defScope s_Lcell) := ⟨rfl, rfl, rfl, by decide +kernel, rfl, by decide +kernel, by decide +kernel⟩
abbrev s_Lpool : Stmt := topS 13
theorem sc_Lpool : FnScope ["_law_cell_here"] ["_law_cell_here"] (defScope s_Lpool) := ⟨rfl, rfl, rfl, by decide +kernel, rfl, by decide +kernel, by decide +kernel⟩
abbrev s_Ltake : Stmt := topS 14
theorem sc_Ltake : FnScope ["_law_pool_here", "_law_many", "_law_digit", "_law_mixed"] ["_law_pool_here", "_law_many"] (defScope s_Ltake) := ⟨rfl, rfl, rfl, by decide +kernel, rfl, by decide +kernel, by decide +kernel⟩
abbrev s_Lsame : Stmt := topS 15
theorem sc_Lsame : FnScope ["_law_told", "_law_due", "_law_k"] ["_law_told", "_law_due"] (defScope s_Lsame) := ⟨rfl, rfl, rfl, by decide +kernel, rfl, by decide +kernel, by decide +kernel⟩
abbrev s_Lnumbers : Stmt := topS 16
theorem sc_Lnumbers : FnScope ["_law_pool_here", "_law_size", "_law_most", "_law_k"] ["_law_pool_here", "_law_size"] (defScope s_Lnumbers) := ⟨rfl, rfl, rfl, by decide +kernel, rfl, by decide +kernel, by decide +kernel⟩
abbrev s_Lsecond : Stmt := topS 17
theorem sc_Lsecond : FnScope ["_law_pool_here", "_law_table", "_law_way", "_law_second_here", "_law_at", "_law_size"] ["_law_pool_here", "_law_table"] (defScope s_Lsecond) := ⟨rfl, rfl, rfl, by decide +kernel, rfl, by decide +kernel, by decide +kernel⟩
abbrev s_Lmade : Stmt := topS 18
theorem sc_Lmade : FnScope ["_law_handed", "_law_told"] ["_law_handed"] (defScope s_Lmade) := ⟨rfl, rfl, rfl, by decide +kernel, rfl, by decide +kernel, by decide +kernel⟩
abbrev s_Ladded : Stmt := topS 19
theorem sc_Ladded : FnScope ["_law_one", "_law_two", "_law_total"] ["_law_one", "_law_two"] (defScope s_Ladded) := ⟨rfl, rfl, rfl, by decide +kernel, rfl, by decide +kernel, by decide +kernel⟩
abbrev s_Lunknown : Stmt := topS 20
theorem sc_Lunknown : FnScope ["_law_told", "_law_mask", "_law_number", "_law_refused"] ["_law_told", "_law_mask"] (defScope s_Lunknown) := ⟨rfl, rfl, rfl, by decide +kernel, rfl, by decide +kernel, by decide +kernel⟩
abbrev s_Lreads : Stmt := topS 21
theorem sc_Lreads : FnScope ["_law_told", "_law_table", "_law_spans", "_law_mask", "_law_span"] ["_law_told", "_law_table"] (defScope s_Lreads) := ⟨rfl, rfl, rfl, by decide +kernel, rfl, by decide +kernel, by decide +kernel⟩
abbrev s_law : Stmt := topS 22
theorem sc_law : FnScope ["_law_script", "_law_pool_here", "_law_size", "_law_table", "_law_at", "_law_right", "_law_handed", "_law_told", "_law_again", "_law_second_here", "_law_other", "_law_total", "_law_turned", "_law_sums", "_law_k", "_law_number"] ["_law_script"] (defScope s_law) := ⟨rfl, rfl, rfl, by decide +kernel, rfl, by decide +kernel, by decide +kernel⟩
def sp_Lnums (K : PySem.W.Frag) : Sp := fun vs H Q _ => ∃ (p : Addr) (n : Nat), vs = [.ref p, .int (n : Nat)] ∧ n ≤ 100 ∧ PoolAt H p ∧
  ∀ (H' : Hp) (q : Addr) (ts : List Int), Kp p H H' → PoolAt H' p → H q = none → H' q = some (.lst (ts.map V.int)) → ts.length = n → (∀ t ∈ ts, 0 ≤ t) → Q (.ref q) H'
def sp_Lsecond (K : PySem.W.Frag) : Sp := fun vs H Q _ => ∃ (p l : Addr) (ns : List Int), vs = [.ref p, .ref l] ∧ PoolAt H p ∧ l ≠ p ∧ H l = some (.lst (ns.map V.int)) ∧ Tab ns ∧
  ∀ (H' : Hp) (q : Addr) (ts : List Int), Kp p H H' → H q = none → H' q = some (.lst (ts.map V.int)) → Tab ts → Q (.ref q) H'
def sp_Lmade (K : PySem.W.Frag) (C : Addr) : Sp := fun vs H Q _ => ∃ (l : Addr) (b : Bool) (ns : List Int), vs = [.ref l] ∧ SqB K b H l (ns.map V.int) ∧ ns.length ≤ 1000 ∧
  ((Tab ns ∧ ∀ (H' : Hp) (r : Addr), Same H H' → H r = none → ClmS K C H' r ns → Q (.ref r) H') ∨ (¬ Tab ns ∧ ∀ H', Same H H' → Q .non H'))
def sp_Ladded (K : PySem.W.Frag) (C : Addr) : Sp := fun vs H Q _ => ∃ (a b : Addr) (ns ms : List Int), vs = [.ref a, .ref b] ∧ ClmS K C H a ns ∧ ClmS K C H b ms ∧ Tab ns ∧ Tab ms ∧
  ((ns.length = ms.length ∧ ∀ (H' : Hp) (r : Addr), Same H H' → H r = none → ClmS K C H' r (adds ns ms) → Q (.ref r) H') ∨ (¬ ns.length = ms.length ∧ ∀ H', Same H H' → Q .non H'))
def sp_Lunk (K : PySem.W.Frag) (C : Addr) : Sp := fun vs H Q _ => ∃ (a : Addr) (ns : List Int) (i : Int), vs = [.ref a, .int i] ∧ ClmS K C H a ns ∧ (i < 0 ∨ (ns.length : Int) ≤ i) ∧ ∀ H', Same H H' → Q (.bl true) H'
def sp_Lreads (K : PySem.W.Frag) (C : Addr) : Sp := fun vs H Q _ => ∃ (a l : Addr) (ns : List Int), vs = [.ref a, .ref l] ∧ ClmS K C H a ns ∧ SqL K H l (ns.map V.int) ∧ LenOk ns.length ∧ ∀ H', Same H H' → Q (.bl true) H'
def sp_law (K : PySem.W.Frag) : Sp := fun vs H Q _ => ∃ (a : Addr) (ns : List Int), vs = [.ref a] ∧ SqL K H a (ns.map V.int) ∧ ns.length ≤ 63 ∧ ∀ H', Q (.bl true) H'
structure Txt (P : Program) (w : World) (K : PySem.W.Frag) (mg : Str → Option Value) (C_Claims C_BadClaims A_SPANS : Addr) : Prop where
  g_Claims : mg "Claims" = some (.ref C_Claims)
  cl_Claims : Cls K C_Claims
  nf_Claims_table : NoAttr K C_Claims "table"
  i_Claims : C8.InsC K C_Claims
  g_BadClaims : mg "BadClaims" = some (.ref C_BadClaims)
  x_BadClaims : PySem.W.excIn K C_BadClaims [.type "ValueError", .type "Exception", .type "BaseException", .type "object"] "ValueError.__new__" = true
  k_BadClaims : PySem.W.keepIn K (.ref C_BadClaims) = true
  b_BadClaims : PySem.W.subIn K (.ref C_BadClaims) (.type "BaseException") = some true
  t_BadClaims : PySem.W.typeIn K (.ref C_BadClaims) = some (.type "type")
  ic_BadClaims : PySem.W.isClsIn K C_BadClaims = true
  s_BadClaims : PySem.W.subIn K (.ref C_BadClaims) (.ref C_BadClaims) = some true
  e_BadClaims : ExcC K C_BadClaims
  c_SPANS : mg "SPANS" = some (.ref A_SPANS)
  d_SPANS : KDI K A_SPANS (lkI [(2, 1), (4, 2), (8, 3), (16, 4)])
  sf_Claims : PySem.W.selfFirst K C_Claims = true
  su_Claims : PySem.W.subIn K (.type "int") (.ref C_Claims) = some false
  us_Claims : PySem.W.subIn K (.ref C_Claims) (.type "int") = some false
  at_Claims_add : ∃ g : Addr, PySem.W.findIn K (.ref C_Claims) "__add__" = some (some (.ref g))
  rn_Claims_add : PySem.W.findIn K (.ref C_Claims) "__radd__" = some none
  rc_Claims_add : ∃ rc, PySem.W.findIn K (.ref C_Claims) "__radd__" = some rc ∧ (rc = none ∨ ∃ g : Addr, rc = some (.ref g))
  fi0_add : PySem.W.findIn K (.type "int") "__add__" = some (some (.builtin "int.__add__"))
  fi_add : ∃ fo, PySem.W.findIn K (.type "int") "__add__" = some fo
  fr0_add : PySem.W.findIn K (.type "int") "__radd__" = some (some (.builtin "int.__radd__"))
  fr_add : ∃ fo, PySem.W.findIn K (.type "int") "__radd__" = some fo
  n_any : mg "any" = none
  n_len : mg "len" = none
  n_tuple : mg "tuple" = none
  n_iter : mg "iter" = none
  n_zip : mg "zip" = none
  n_isinstance : mg "isinstance" = none
  n_int : mg "int" = none
  n_abs : mg "abs" = none
  n_bool : mg "bool" = none
  n_str : mg "str" = none
  n_list : mg "list" = none
  n_range : mg "range" = none

section
variable {P : Program} {w : World} {K : PySem.W.Frag} {mg : Str → Option Value} {base : Heap} {C_Claims C_BadClaims A_SPANS : Addr}
theorem ok_Lcell {f : Addr} {fd : FuncData} (F : Fun K "_law_cell" "_law_cell" s_Lcell f fd) (T : Txt P w K mg C_Claims C_BadClaims A_SPANS)  :
    FnOk P w K mg base CX0 1 f fd ["_law_script", "_law_at"] (sp_Lcell K) := by
  refine F.ok sc_Lcell (fun vs H Q E h => ?_) (fun cdv A outer s H vs Q E hr h => ?_)
  · obtain ⟨l, ns, j, rfl, _⟩ := h
    rfl
  · obtain ⟨l, ns, j, rfl, hs, q⟩ := h
    refine ⟨_, (pss_cons (ps_if (pt_cmpR op_lt (pv 1) (pe_callB call_len_seq (by rfl) T.n_len PySem.boot_len (pa_cons (pv 0) pa_nil)) (nomark _)) (pss_one (ps_ret (pe_callB call_abs (by rfl) T.n_abs (by decide +kernel) (pa_cons (pe_callTy call_int1 (by rfl) T.n_int (by decide +kernel) (pa_cons (pe_ix ix_list (pv 0) (pv 1) (fun _ _ => rfl)) pa_nil)) pa_nil)))) pss_nil)
      (pss_one (ps_ret pe_int))), ?_⟩
    refine ⟨_, rfl, _, rfl, l, _, rfl, .inl hs, _, _, rfl, rfl, _, rfl, ?_⟩
    refine ite2 (fun hlt => ?_) (fun _ => q 0 (by decide))
    have hj : j < ns.length := by
      have z := of_decide_eq_true hlt
      rw [List.length_map] at z
      omega
    have hat : (ns.map V.int)[j]? = some (V.int ns[j]) := by rw [List.getElem?_map, List.getElem?_eq_getElem hj] <;> rfl
    refine ⟨_, rfl, _, rfl, l, _, _, _, rfl, rfl, hs, atI_nat hat, .inl ⟨_, rfl, _, rfl, q _ ?_⟩⟩
    split <;> omega
theorem ok_Lpool {f : Addr} {fd : FuncData} (F : Fun K "_law_pool" "_law_pool" s_Lpool f fd) (T : Txt P w K mg C_Claims C_BadClaims A_SPANS)  :
    FnOk P w K mg base CX0 1 f fd ["_law_cell_here"] sp_Lpool := by
  refine F.ok sc_Lpool (fun vs H Q E h => ?_) (fun cdv A outer s H vs Q E hr h => ?_)
  · obtain ⟨c, rfl, _⟩ := h
    rfl
  · obtain ⟨c, rfl, q⟩ := h
    refine ⟨_, (pss_cons (ps_if (pt_cmpR op_ge (pv 0) (pe_op op_pow pe_int pe_int) (nomark _)) (pss_one (ps_ret (pe_lst (pa_cons (pv 0) (pa_cons (pv 0) (pa_cons pe_int pa_nil)))))) pss_nil)
      (pss_one (ps_ret (pe_lst (pa_cons pe_int (pa_cons (pv 0) (pa_cons pe_int pa_nil))))))), ?_⟩
    refine ⟨_, rfl, _, _, rfl, rfl, ⟨by decide, by decide, by decide⟩, _, _, rfl, rfl, _, rfl, ?_⟩
    refine ite2 (fun _ => ?_) (fun _ => ?_)
    · exact ⟨_, rfl, _, rfl, (by show 3 ≤ sizeLine; decide), fun p hp => q p _ hp (same_upd hp) ⟨_, _, _, upd_same⟩⟩
    · exact ⟨_, rfl, (by show 3 ≤ sizeLine; decide), fun p hp => q p _ hp (same_upd hp) ⟨_, _, _, upd_same⟩⟩
theorem ok_Ltake {f : Addr} {fd : FuncData} (F : Fun K "_law_take" "_law_take" s_Ltake f fd) (T : Txt P w K mg C_Claims C_BadClaims A_SPANS)  :
    FnOk P w K mg base CX0 1 f fd ["_law_pool_here", "_law_many"] sp_Ltake := by
  refine F.ok sc_Ltake (fun vs H Q E h => ?_) (fun cdv A outer s H vs Q E hr h => ?_)
  · obtain ⟨p, many, rfl, _⟩ := h
    rfl
  · obtain ⟨p, many, rfl, ⟨x, y, z, hp⟩, hm, hb, q⟩ := h
    refine ⟨_, (pss_cons (ps_asg (pe_op op_add (pe_ix ix_list (pv 0) pe_int (fun _ _ => rfl)) pe_int) (pg_sub (pv 0) pe_int set_list))
      (pss_cons (ps_if (pt_cmpR op_gt (pe_ix ix_list (pv 0) pe_int (fun _ _ => rfl)) pe_int (nomark _)) (pss_cons (ps_set (i := 2) sc_Ltake.nd rfl (Or.inl rfl) (pe_op op_mod (pe_callTy call_int1 (by rfl) T.n_int (by decide +kernel) (pa_cons (pe_ix ix_list (pv 0) pe_int (fun _ _ => rfl)) pa_nil)) (pv 1)))
      (pss_cons (ps_asg (pe_op op_fdivW (pe_ix ix_list (pv 0) pe_int (fun _ _ => rfl)) (pv 1)) (pg_sub (pv 0) pe_int set_list))
      (pss_one (ps_ret (pv 2))))) pss_nil)
      (pss_cons (ps_set (i := 3) sc_Ltake.nd rfl (Or.inl rfl) (pe_op op_mod (pe_callTy call_int1 (by rfl) T.n_int (by decide +kernel) (pa_cons (pe_op op_mulA (pe_op op_add (pe_ix ix_list (pv 0) pe_int (fun _ _ => rfl)) (pe_op op_mulA pe_int (pe_ix ix_list (pv 0) pe_int (fun _ _ => rfl)))) pe_int) pa_nil)) pe_int))
      (pss_cons (ps_set (i := 3) sc_Ltake.nd rfl (Or.inl rfl) (pe_op op_mod (pe_callTy call_int1 (by rfl) T.n_int (by decide +kernel) (pa_cons (pe_op op_add (pe_op op_mulA (pv 3) pe_int) (pe_op op_mulA pe_int (pe_ix ix_list (pv 0) pe_int (fun _ _ => rfl)))) pa_nil)) pe_int))
      (pss_one (ps_ret (pe_op op_mod (pe_callTy call_int1 (by rfl) T.n_int (by decide +kernel) (pa_cons (pe_op op_fdivW (pv 3) pe_int) pa_nil)) (pv 1)))))))), ?_⟩
    refine ⟨_, rfl, p, _, _, _, rfl, rfl, SqL.of hp, at2, _, _, rfl, rfl, _, rfl, p, _, _, _, rfl, rfl, hp, rfl, ?_⟩
    refine ⟨_, rfl, p, _, _, _, rfl, rfl, SqL.of upd_same, at0, _, _, rfl, rfl, _, rfl, ?_⟩
    refine ite2 (fun _ => ?_) (fun _ => ?_)
    · refine ⟨_, rfl, p, _, _, _, rfl, rfl, SqL.of upd_same, at0, .inl ⟨_, rfl, _, rfl, _, _, rfl, rfl, hm, ?_⟩⟩
      refine ⟨_, rfl, p, _, _, _, rfl, rfl, SqL.of upd_same, at0, _, rfl, _, _, rfl, rfl, wide_div hm hb (by decide) (by decide), _, rfl, p, _, _, _, rfl, rfl, upd_same, rfl, ?_⟩
      exact ⟨_, rfl, q _ _ (Kp.trans Kp.upd Kp.upd) ⟨_, _, _, upd_same⟩ (Int.emod_nonneg _ (by omega)) (Int.emod_lt_of_pos _ hm)⟩
    · refine ⟨_, rfl, p, _, _, _, rfl, rfl, SqL.of upd_same, at1, _, rfl, p, _, _, _, rfl, rfl, SqL.of upd_same, at2, _, _, rfl, rfl, .inl (.inl ⟨by decide, by decide⟩), _, _, rfl, rfl, _, _, rfl, rfl, .inl (.inr ⟨by decide, by decide⟩), .inl ⟨_, rfl, _, _, rfl, rfl, (by show (0 : Int) < 2147483647; decide), ?_⟩⟩
      refine ⟨_, rfl, _, _, rfl, rfl, .inl (.inr ⟨by decide, by decide⟩), _, rfl, p, _, _, _, rfl, rfl, SqL.of upd_same, at2, _, _, rfl, rfl, .inl (.inl ⟨by decide, by decide⟩), _, _, rfl, rfl, .inl ⟨_, rfl, _, _, rfl, rfl, (by show (0 : Int) < 2147483399; decide), ?_⟩⟩
      refine ⟨_, rfl, _, _, rfl, rfl, wide_div (b := 300) (by decide) (by decide) (by decide) (by decide), .inl ⟨_, rfl, _, rfl, _, _, rfl, rfl, hm, ?_⟩⟩
      exact q _ _ Kp.upd ⟨_, _, _, upd_same⟩ (Int.emod_nonneg _ (by omega)) (Int.emod_lt_of_pos _ hm)
theorem okr_Lsame {f : Addr} {fd : FuncData} {j n : Nat} (F : Fun K "_law_same" "_law_same" s_Lsame f fd) (T : Txt P w K mg C_Claims C_BadClaims A_SPANS) (c_Lsame : Cal CX0 P w K mg base j "_law_same" (sp_Lsame K n)) :
    FnOk P w K mg base CX0 (j + 1) f fd ["_law_told", "_law_due"] (sp_Lsame K (n + 1)) := by
  refine F.ok sc_Lsame (fun vs H Q E h => ?_) (fun cdv A outer s H vs Q E hr h => ?_)
  · obtain ⟨x, y, rfl, _⟩ := h
    rfl
  · obtain ⟨x, y, rfl, hv, q⟩ := h
    refine ⟨_, (pss_cons (ps_if (pt_cmpR op_isN (pv 1) pe_non (nomark _)) (pss_one (ps_ret (pe_cmpR op_isN (pv 0) pe_non (nomark _)))) pss_nil)
      (pss_cons (ps_if (pt_cmpR op_isB (pv 1) pe_bl (nomark _)) (pss_one (ps_ret (pe_cmpR op_isB (pv 0) pe_bl (nomark _)))) pss_nil)
      (pss_cons (ps_if (pt_cmpR op_isB (pv 1) pe_bl (nomark _)) (pss_one (ps_ret (pe_cmpR op_isB (pv 0) pe_bl (nomark _)))) pss_nil)
      (pss_cons (ps_if (pt_val (pe_callB call_isi (by rfl) T.n_isinstance (by decide +kernel) (pa_cons (pv 1) (pa_cons (pe_bltn (v := .ty "int") (by rfl) T.n_int (by decide +kernel) rfl) pa_nil)))) (pss_one (ps_ret (pe_and (pe_callB call_isi (by rfl) T.n_isinstance (by decide +kernel) (pa_cons (pv 0) (pa_cons (pe_bltn (v := .ty "int") (by rfl) T.n_int (by decide +kernel) rfl) pa_nil))) (pe_and (pe_not (pe_callB call_isi (by rfl) T.n_isinstance (by decide +kernel) (pa_cons (pv 0) (pa_cons (pe_bltn (v := .ty "bool") (by rfl) T.n_bool (by decide +kernel) rfl) pa_nil)))) (pe_one (pe_cmpR op_eq (pv 0) (pv 1) (nomark _))))))) pss_nil)
      (pss_cons (ps_if (pt_val (pe_callB call_isi (by rfl) T.n_isinstance (by decide +kernel) (pa_cons (pv 1) (pa_cons (pe_bltn (v := .ty "str") (by rfl) T.n_str (by decide +kernel) rfl) pa_nil)))) (pss_one (ps_ret (pe_and (pe_callB call_isi (by rfl) T.n_isinstance (by decide +kernel) (pa_cons (pv 0) (pa_cons (pe_bltn (v := .ty "str") (by rfl) T.n_str (by decide +kernel) rfl) pa_nil))) (pe_one (pe_cmpR op_eq (pv 0) (pv 1) (nomark _)))))) pss_nil)
      (pss_cons (ps_if (PW.pt (pw_and (pt_val (pe_callB call_isi (by rfl) T.n_isinstance (by decide +kernel) (pa_cons (pv 1) (pa_cons (pe_bltn (v := .ty "tuple") (by rfl) T.n_tuple (by decide +kernel) rfl) pa_nil)))) (pw_and1 (pt_not (pt_val (pe_callB call_isi (by rfl) T.n_isinstance (by decide +kernel) (pa_cons (pv 0) (pa_cons (pe_bltn (v := .ty "tuple") (by rfl) T.n_tuple (by decide +kernel) rfl) pa_nil)))))))) (pss_one (ps_ret pe_bl)) pss_nil)
      (pss_cons (ps_if (PW.pt (pw_and (pt_val (pe_callB call_isi (by rfl) T.n_isinstance (by decide +kernel) (pa_cons (pv 1) (pa_cons (pe_bltn (v := .ty "list") (by rfl) T.n_list (by decide +kernel) rfl) pa_nil)))) (pw_and1 (pt_not (pt_val (pe_callB call_isi (by rfl) T.n_isinstance (by decide +kernel) (pa_cons (pv 0) (pa_cons (pe_bltn (v := .ty "list") (by rfl) T.n_list (by decide +kernel) rfl) pa_nil)))))))) (pss_one (ps_ret pe_bl)) pss_nil)
      (pss_cons (ps_if (pt_cmpR op_ne (pe_callB call_len_seq (by rfl) T.n_len PySem.boot_len (pa_cons (pv 0) pa_nil)) (pe_callB call_len_seq (by rfl) T.n_len PySem.boot_len (pa_cons (pv 1) pa_nil)) (nomark _)) (pss_one (ps_ret pe_bl)) pss_nil)
      (pss_cons (ps_for PassesOwn.never rfl (pi_range1 (by rfl) T.n_range (pa_cons (pe_callB call_len_seq (by rfl) T.n_len PySem.boot_len (pa_cons (pv 1) pa_nil)) pa_nil)) (pg_name (i := 2) sc_Lsame.nd rfl (Or.inl rfl))
        (pss_one (ps_if (pt_not (pt_val (pc_c c_Lsame hr (Nat.le_refl _) rfl pass0 (pa_cons (pe_ix ix_seq (pv 0) (pv 2) (fun _ _ => rfl)) (pa_cons (pe_ix ix_seq (pv 1) (pv 2) (fun _ _ => rfl)) pa_nil))))) (pss_one (ps_ret pe_bl)) pss_nil)))
      (pss_one (ps_ret pe_bl))))))))))), ?_⟩
    have kL1 : PySem.W.kitOne K (.type "list") (.type "int") = some false := kit_ty (by decide +kernel)
    have kL2 : PySem.W.kitOne K (.type "list") (.type "str") = some false := kit_ty (by decide +kernel)
    have kL3 : PySem.W.kitOne K (.type "list") (.type "tuple") = some false := kit_ty (by decide +kernel)
    have kL4 : PySem.W.kitOne K (.type "list") (.type "list") = some true := kit_ty (by decide +kernel)
    have kT1 : PySem.W.kitOne K (.type "tuple") (.type "int") = some false := kit_ty (by decide +kernel)
    have kT2 : PySem.W.kitOne K (.type "tuple") (.type "str") = some false := kit_ty (by decide +kernel)
    have kT3 : PySem.W.kitOne K (.type "tuple") (.type "tuple") = some true := kit_ty (by decide +kernel)
    have kT4 : PySem.W.kitOne K (.type "tuple") (.type "list") = some false := kit_ty (by decide +kernel)
    have hv' : (flatD x = true ∧ x = y) ∨ (∃ m, n = m + 1 ∧ ∃ (a b : Addr) (xs ys : List V), x = .ref a ∧ y = .ref b ∧ SqL K H a xs ∧ SqL K H b ys ∧ xs.length ≤ sizeLine ∧ Pairs (SameV K H m) xs ys) ∨
        (∃ m, n = m + 1 ∧ ∃ (a b : Addr) (xs ys : List V), x = .ref a ∧ y = .ref b ∧ SqT K H a xs ∧ SqT K H b ys ∧ xs.length ≤ sizeLine ∧ Pairs (SameV K H m) xs ys) := by
      cases n with
      | zero => exact .inl hv
      | succ m =>
        rcases hv with h | h | h
        · exact .inl h
        · exact .inr (.inl ⟨m, rfl, h⟩)
        · exact .inr (.inr ⟨m, rfl, h⟩)
    rcases hv' with ⟨hf, e⟩ | ⟨m, rfl, a, b, xs, ys, rfl, rfl, ha, hb, hl, hp⟩ | ⟨m, rfl, a, b, xs, ys, rfl, rfl, ha, hb, hl, hp⟩
    · subst e
      cases x with
      | non => exact ⟨_, rfl, rfl, _, rfl, iteDT rfl ⟨_, rfl, rfl, q⟩⟩
      | bl b =>
        refine ⟨_, rfl, rfl, _, rfl, iteDF (by intro z; cases z) ?_⟩
        cases b with
        | true => exact ⟨_, rfl, _, rfl, _, rfl, iteDT rfl ⟨_, rfl, _, rfl, q⟩⟩
        | false => exact ⟨_, rfl, _, rfl, _, rfl, iteDF (by intro z; cases z) ⟨_, rfl, _, rfl, _, rfl, iteDT rfl ⟨_, rfl, _, rfl, q⟩⟩⟩
      | int i =>
        refine ⟨_, rfl, rfl, _, rfl, iteDF (by intro z; cases z) ?_⟩
        refine ⟨_, rfl, _, rfl, _, rfl, iteDF (by intro z; cases z) ?_⟩
        refine ⟨_, rfl, _, rfl, _, rfl, iteDF (by intro z; cases z) ?_⟩
        refine ⟨_, rfl, _, _, _, .type "int", true, rfl, .ty "int", .base (.int i), kit_ty (by decide +kernel), true, rfl, iteT ?_⟩
        refine ⟨_, rfl, _, _, _, .type "int", true, rfl, .ty "int", .base (.int i), kit_ty (by decide +kernel), true, rfl, iteT ?_⟩
        refine ⟨_, rfl, _, _, _, .type "bool", false, rfl, .ty "bool", .base (.int i), kit_ty (by decide +kernel), false, rfl, true, rfl, iteT ?_⟩
        refine ⟨_, rfl, _, rfl, rfl, ?_⟩
        rw [decide_eq_true (show V.int i = V.int i from rfl)]
        exact q
      | str i =>
        refine ⟨_, rfl, rfl, _, rfl, iteDF (by intro z; cases z) ?_⟩
        refine ⟨_, rfl, _, rfl, _, rfl, iteDF (by intro z; cases z) ?_⟩
        refine ⟨_, rfl, _, rfl, _, rfl, iteDF (by intro z; cases z) ?_⟩
        refine ⟨_, rfl, _, _, _, .type "int", false, rfl, .ty "int", .base (.str i), kit_ty (by decide +kernel), false, rfl, iteF ?_⟩
        refine ⟨_, rfl, _, _, _, .type "str", true, rfl, .ty "str", .base (.str i), kit_ty (by decide +kernel), true, rfl, iteT ?_⟩
        refine ⟨_, rfl, _, _, _, .type "str", true, rfl, .ty "str", .base (.str i), kit_ty (by decide +kernel), true, rfl, iteT ?_⟩
        refine ⟨_, rfl, _, rfl, rfl, ?_⟩
        rw [decide_eq_true (show V.str i = V.str i from rfl)]
        exact q
      | _ => exact absurd (show false = true from hf) Bool.false_ne_true
    · refine ⟨_, rfl, rfl, _, rfl, iteDF (by intro z; cases z) ?_⟩
      refine ⟨_, rfl, _, rfl, _, rfl, iteDF (by intro z; cases z) ?_⟩
      refine ⟨_, rfl, _, rfl, _, rfl, iteDF (by intro z; cases z) ?_⟩
      refine ⟨_, rfl, _, _, _, .type "int", false, rfl, .ty "int", tyx_list hb, kL1, false, rfl, iteF ?_⟩
      refine ⟨_, rfl, _, _, _, .type "str", false, rfl, .ty "str", tyx_list hb, kL2, false, rfl, iteF ?_⟩
      refine ⟨_, rfl, _, _, _, .type "tuple", false, rfl, .ty "tuple", tyx_list hb, kL3, false, rfl, iteF (iteF ?_)⟩
      refine ⟨_, rfl, _, _, _, .type "list", true, rfl, .ty "list", tyx_list hb, kL4, true, rfl, iteT ?_⟩
      refine ⟨_, rfl, _, _, _, .type "list", true, rfl, .ty "list", tyx_list ha, kL4, true, rfl, iteF ?_⟩
      refine ⟨_, rfl, a, _, rfl, .inl ha, _, rfl, b, _, rfl, .inl hb, rfl, _, rfl, ?_⟩
      rw [decide_eq_true (show V.int (xs.length : Nat) = V.int (ys.length : Nat) by rw [hp.1])]
      refine iteF ?_
      have hy : ys.length ≤ 16777216 := by rw [← hp.1, ← sizeLine_eq]; exact hl
      refine ⟨_, rfl, b, _, rfl, .inl hb, _, rfl, by omega, by omega, for_range (lo := 0) (n := ((ys.length : Nat) : Int).toNat) (fun i σ H' => H' = H ∧ ∃ v : Option V, σ = [some (.ref a), some (.ref b), v]) ⟨rfl, none, rfl⟩ ?_ ?_⟩
      · rintro i σ H' hi ⟨rfl, v, rfl⟩
        have i1 : i < ys.length := by omega
        have i2 : i < xs.length := by rw [hp.1]; exact i1
        have ex : xs[i]? = some xs[i] := List.getElem?_eq_getElem i2
        have ey : ys[i]? = some ys[i] := List.getElem?_eq_getElem i1
        have ex' := atI_nat ex
        have ey' := atI_nat ey
        rw [show ((i : Nat) : Int) = 0 + ((i : Nat) : Int) by omega] at ex' ey'
        refine ⟨_, rfl, _, rfl, .inl ⟨a, _, _, _, rfl, rfl, ha, ex', _, rfl, _, rfl, .inl ⟨b, _, _, _, rfl, rfl, hb, ey', _, _, rfl, hp.2 i _ _ ex ey, true, rfl, iteF ?_⟩⟩⟩
        exact ⟨rfl, _, rfl⟩
      · rintro σ H' ⟨rfl, v, rfl⟩
        exact q
    · refine ⟨_, rfl, rfl, _, rfl, iteDF (by intro z; cases z) ?_⟩
      refine ⟨_, rfl, _, rfl, _, rfl, iteDF (by intro z; cases z) ?_⟩
      refine ⟨_, rfl, _, rfl, _, rfl, iteDF (by intro z; cases z) ?_⟩
      refine ⟨_, rfl, _, _, _, .type "int", false, rfl, .ty "int", tyx_tup hb, kT1, false, rfl, iteF ?_⟩
      refine ⟨_, rfl, _, _, _, .type "str", false, rfl, .ty "str", tyx_tup hb, kT2, false, rfl, iteF ?_⟩
      refine ⟨_, rfl, _, _, _, .type "tuple", true, rfl, .ty "tuple", tyx_tup hb, kT3, true, rfl, iteT ?_⟩
      refine ⟨_, rfl, _, _, _, .type "tuple", true, rfl, .ty "tuple", tyx_tup ha, kT3, true, rfl, iteF ?_⟩
      refine ⟨_, rfl, _, _, _, .type "list", false, rfl, .ty "list", tyx_tup hb, kT4, false, rfl, iteF (iteF ?_)⟩
      refine ⟨_, rfl, a, _, rfl, .inr ha, _, rfl, b, _, rfl, .inr hb, rfl, _, rfl, ?_⟩
      rw [decide_eq_true (show V.int (xs.length : Nat) = V.int (ys.length : Nat) by rw [hp.1])]
      refine iteF ?_
      have hy : ys.length ≤ 16777216 := by rw [← hp.1, ← sizeLine_eq]; exact hl
      refine ⟨_, rfl, b, _, rfl, .inr hb, _, rfl, by omega, by omega, for_range (lo := 0) (n := ((ys.length : Nat) : Int).toNat) (fun i σ H' => H' = H ∧ ∃ v : Option V, σ = [some (.ref a), some (.ref b), v]) ⟨rfl, none, rfl⟩ ?_ ?_⟩
      · rintro i σ H' hi ⟨rfl, v, rfl⟩
        have i1 : i < ys.length := by omega
        have i2 : i < xs.length := by rw [hp.1]; exact i1
        have ex : xs[i]? = some xs[i] := List.getElem?_eq_getElem i2
        have ey : ys[i]? = some ys[i] := List.getElem?_eq_getElem i1
        have ex' := atI_nat ex
        have ey' := atI_nat ey
        rw [show ((i : Nat) : Int) = 0 + ((i : Nat) : Int) by omega] at ex' ey'
        refine ⟨_, rfl, _, rfl, .inr (.inl ⟨a, _, _, _, rfl, rfl, ha, ex', _, rfl, _, rfl, .inr (.inl ⟨b, _, _, _, rfl, rfl, hb, ey', _, _, rfl, hp.2 i _ _ ex ey, true, rfl, iteF ?_⟩)⟩)⟩
        exact ⟨rfl, _, rfl⟩
      · rintro σ H' ⟨rfl, v, rfl⟩
        exact q
theorem ok_Lsame {f : Addr} {fd : FuncData} (F : Fun K "_law_same" "_law_same" s_Lsame f fd) (T : Txt P w K mg C_Claims C_BadClaims A_SPANS) (m : mg "_law_same" = some (.ref f)) (kp : PySem.W.keepIn K (.ref f) = true) (b : Binds K fd ["_law_told", "_law_due"] []) :
    ∀ n : Nat, FnOk P w K mg base CX0 (n + 1) f fd ["_law_told", "_law_due"] (sp_Lsame K n)
  | 0 => F.ok sc_Lsame (fun _ _ _ _ h => False.elim h) (fun _ _ _ _ _ _ _ _ _ h => False.elim h)
  | n + 1 => okr_Lsame F T (cal_mk (ok_Lsame F T m kp b n) m kp b)
theorem spans_not {n : Nat} (h : ¬ LenOk n) : (lkI [(2, 1), (4, 2), (8, 3), (16, 4)] ((n : Nat) : Int)).isSome = false := by
  unfold LenOk at h
  have h2 : ¬ (2 : Int) = (n : Int) := by omega
  have h4 : ¬ (4 : Int) = (n : Int) := by omega
  have h8 : ¬ (8 : Int) = (n : Int) := by omega
  have h16 : ¬ (16 : Int) = (n : Int) := by omega
  unfold lkI
  rw [if_neg h2]
  unfold lkI
  rw [if_neg h4]
  unfold lkI
  rw [if_neg h8]
  unfold lkI
  rw [if_neg h16]
  rfl
theorem spans_is {n : Nat} (h : LenOk n) : (lkI [(2, 1), (4, 2), (8, 3), (16, 4)] ((n : Nat) : Int)).isSome = true := by
  rcases h with rfl | rfl | rfl | rfl <;> decide
theorem any_neg {ns : List Int} : ((ns.map fun n => decide (n < 0)).any id) = false ↔ ∀ n ∈ ns, 0 ≤ n := by
  rw [List.any_map, List.any_eq_false]
  constructor
  · intro h n hn
    have := h n hn
    simp at this
    omega
  · intro h n hn
    have := h n hn
    simp
    omega
theorem ok_Claims_init {f : Addr} {fd : FuncData} (F : Fun K "__init__" "Claims.__init__" s_Claims_init f fd) (T : Txt P w K mg C_Claims C_BadClaims A_SPANS)  :
    FnOk P w K mg base (L2.CX P w) 1 f fd ["self", "table"] (sp_Claims_initX K C_Claims C_BadClaims) := by
  refine F.okX sc_Claims_init (fun vs H Q E h => ?_) (fun cdv A outer s H vs Q E hr h => ?_)
  · obtain ⟨x, dx, l, b, ns, rfl, _⟩ := h
    rfl
  · obtain ⟨x, dx, l, bb, ns, rfl, hx, hl, hz, q⟩ := h
    refine ⟨_, (pss_cons (ps_if (PW.pt (pw_or (pt_cmpR (op_notIn_kdi T.d_SPANS) (pe_callB call_len_seq (by rfl) T.n_len PySem.boot_len (pa_cons (pv 1) pa_nil)) (pe_glob (v := .ref A_SPANS) rfl T.c_SPANS rfl) (by rfl)) (pw_or1 (pt_val (pe_callB (cr_any rfl) (by rfl) T.n_any (by decide +kernel) (pa_cons (pe_lc (own := [("number", 2)]) (g := (gName 2)) (tt := tYes) rfl sc_Claims_init.nd (pi_seqB (pv 1)) (blkOk_by (own := [("number", 2)]) (N := ["self", "table", "number"]) (sc := defScope s_Claims_init) (by decide +kernel)) (fun _ _ _ _ _ => (pg_name (i := 2) sc_Claims_init.nd rfl (Or.inl rfl))) (fun _ _ _ _ _ => pts_nil) (fun _ _ _ _ _ => (pe_cmpR op_lt (pv 2) pe_int (nomark _)))) pa_nil)))))) (pss_one (ps_raise rfl (takes_of rfl rfl rfl rfl) (pmk_own PySem.F.excBase_ValueError T.x_BadClaims T.g_BadClaims T.k_BadClaims (raises_own T.b_BadClaims T.t_BadClaims) rfl))) pss_nil)
      (pss_one (ps_fld (pv 0) (pe_callTy call_tuple_of (by rfl) T.n_tuple (by decide +kernel) (pa_cons (pv 1) pa_nil)) rfl))), ?_⟩
    refine ⟨_, rfl, l, _, rfl, sqb_or hl, _, rfl, rfl, _, rfl, ?_⟩
    rw [List.length_map]
    by_cases hk : LenOk ns.length
    · rw [spans_is hk]
      refine iteF ?_
      refine ⟨_, rfl, l, _, bb, rfl, hl, fun D hD => lc_seqB (K := K) (bb := bb) (a := l) (xs := ns.map V.int) (fun i H' => Same H H' ∧ H' D = some (.lst (((ns.take i).map fun n => decide (n < 0)).map V.bl)))
        ⟨same_upd hD, upd_same⟩ (fun i H' _ ⟨s1, _⟩ => sqb_same hl s1) ?_ ?_⟩
      · rintro i y H' hy ⟨s1, hD1⟩
        obtain ⟨z, hz, rfl⟩ := int_at hy
        refine ⟨rfl, tyes ?_⟩
        refine ⟨_, rfl, _, _, rfl, rfl, _, hD1, small1000 (by rw [List.length_map, List.length_map, List.length_take]; omega), same_app s1 hD, ?_⟩
        rw [upd_same, ← take_snoc hz, List.map_append, List.map_append]
        rfl
      · rintro H1 ⟨s1, hD1⟩
        rw [List.length_map, List.take_length] at hD1
        refine ⟨D, _, rfl, SqL.of hD1, _, rfl, ?_⟩
        refine iteB (fun hany => ?_) (fun hany => ?_)
        · rcases q with ⟨ht, _⟩ | ⟨_, q⟩
          · rw [any_neg.mpr ht.2] at hany
            cases hany
          · exact q _ s1
        · have hp := any_neg.mp hany
          rcases q with ⟨ht, q⟩ | ⟨hn, _⟩
          · have hx1 := s1 _ _ hx
            cases bb with
            | false =>
              have ha1 : SqL K H1 l (ns.map V.int) := Same.seq s1 hl
              refine ⟨_, rfl, l, _, rfl, .inl ⟨ha1, fun z hz' => ?_⟩⟩
              have sz := same_upd (o := .tup (ns.map V.int)) hz'
              have nzx : z ≠ x := fun w => by rw [w, hx1] at hz'; cases hz'
              refine ⟨_, rfl, x, C_Claims, dx, [], rfl, sz _ _ hx1, T.cl_Claims, T.nf_Claims_table, (by show 0 < 1000; decide), ?_⟩
              refine q _ (fun b o nb e => ?_) ⟨dx, z, upd_same, SqT.of (by rw [upd_ne nzx, upd_same])⟩
              rw [upd_ne nb]
              exact sz _ _ (s1 _ _ e)
            | true =>
              have ha1 : SqT K H1 l (ns.map V.int) := sqt_same hl s1
              refine ⟨_, rfl, l, _, rfl, .inr ⟨ha1, ?_⟩⟩
              refine ⟨_, rfl, x, C_Claims, dx, [], rfl, hx1, T.cl_Claims, T.nf_Claims_table, (by show 0 < 1000; decide), ?_⟩
              refine q _ (fun b o nb e => ?_) ⟨dx, l, upd_same, ?_⟩
              · rw [upd_ne nb]
                exact s1 _ _ e
              · rcases ha1 with (h | ⟨o, h⟩) | h
                · exact .inl (.inl (by rw [upd_ne (fun w => by rw [w, hx1] at h; cases h)]; exact h))
                · exact .inl (.inr ⟨o, by rw [upd_ne (fun w => by rw [w, hx1] at h; cases h)]; exact h⟩)
                · exact .inr h
          · exact absurd ⟨hk, hp⟩ hn
    · rw [spans_not hk]
      refine iteT ?_
      rcases q with ⟨ht, _⟩ | ⟨_, q⟩
      · exact absurd ht.1 hk
      · exact q _ (Same.of _)
theorem ok_Claims_span {f : Addr} {fd : FuncData} (F : Fun K "span" "Claims.span" s_Claims_span f fd) (T : Txt P w K mg C_Claims C_BadClaims A_SPANS)  :
    FnOk P w K mg base CX0 1 f fd ["self"] (sp_spanS K C_Claims) := by
  refine F.ok sc_Claims_span (fun vs H Q E h => ?_) (fun cdv A outer s H vs Q E hr h => ?_)
  · obtain ⟨a, ns, rfl, _⟩ := h
    rfl
  · obtain ⟨a, ns, rfl, ⟨dx, tp, ha, htp⟩, hk, q⟩ := h
    refine ⟨_, (pss_one (ps_ret (pe_ix (ix_kdi T.d_SPANS) (pe_glob (v := .ref A_SPANS) rfl T.c_SPANS rfl) (pe_callB call_len_seq (by rfl) T.n_len PySem.boot_len (pa_cons (pe_fld (pv 0) rfl) pa_nil)) (fun _ _ => rfl)))), ?_⟩
    refine ⟨_, rfl, a, C_Claims, dx, _, _, rfl, ha, T.cl_Claims, T.nf_Claims_table, clf_table _, tp, _, rfl, .inr htp, _, ((spn ns.length : Nat) : Int), rfl, rfl, ?_, q⟩
    rw [List.length_map]
    rcases hk with h | h | h | h <;> rw [h] <;> decide
theorem ok_Claims_len {f : Addr} {fd : FuncData} (F : Fun K "__len__" "Claims.__len__" s_Claims_len f fd) (T : Txt P w K mg C_Claims C_BadClaims A_SPANS)  :
    FnOk P w K mg base CX0 1 f fd ["self"] (sp_Clen K C_Claims) := by
  refine F.ok sc_Claims_len (fun vs H Q E h => ?_) (fun cdv A outer s H vs Q E hr h => ?_)
  · obtain ⟨x, ns, rfl, _⟩ := h
    rfl
  · obtain ⟨x, ns, rfl, ⟨dx, tp, hx, ht⟩, q⟩ := h
    refine ⟨_, (pss_one (ps_ret (pe_callB call_len_seq (by rfl) T.n_len PySem.boot_len (pa_cons (pe_fld (pv 0) rfl) pa_nil)))), ?_⟩
    refine ⟨_, rfl, x, C_Claims, dx, _, _, rfl, hx, T.cl_Claims, T.nf_Claims_table, clf_table _, tp, _, rfl, .inr ht, ?_⟩
    rw [List.length_map]
    exact q
theorem ok_Claims_iter {f : Addr} {fd : FuncData} (F : Fun K "__iter__" "Claims.__iter__" s_Claims_iter f fd) (T : Txt P w K mg C_Claims C_BadClaims A_SPANS)  :
    FnOk P w K mg base CX0 1 f fd ["self"] (sp_Citer K C_Claims) := by
  refine F.ok sc_Claims_iter (fun vs H Q E h => ?_) (fun cdv A outer s H vs Q E hr h => ?_)
  · obtain ⟨x, tp, dx, ns, rfl, _⟩ := h
    rfl
  · obtain ⟨x, tp, dx, ns, rfl, hx, ht, q⟩ := h
    refine ⟨_, (pss_one (ps_ret (pe_callB call_iterT (by rfl) T.n_iter (by decide +kernel) (pa_cons (pe_fld (pv 0) rfl) pa_nil)))), ?_⟩
    exact ⟨_, rfl, x, C_Claims, dx, _, _, rfl, hx, T.cl_Claims, T.nf_Claims_table, clf_table _, tp, _, rfl, ht, q⟩
theorem ok_Claims_getitem {f : Addr} {fd : FuncData} (F : Fun K "__getitem__" "Claims.__getitem__" s_Claims_getitem f fd) (T : Txt P w K mg C_Claims C_BadClaims A_SPANS)  :
    FnOk P w K mg base (L2.CX P w) 1 f fd ["self", "at"] (sp_Cget K C_Claims C_BadClaims) := by
  refine F.okX sc_Claims_getitem (fun vs H Q E h => ?_) (fun cdv A outer s H vs Q E hr h => ?_)
  · obtain ⟨x, ns, i, rfl, _⟩ := h
    rfl
  · obtain ⟨x, ns, i, rfl, ⟨dx, tp, hx, ht⟩, q⟩ := h
    refine ⟨_, (pss_cons (ps_if (PW.pt (pw_or (pt_cmpR op_lt (pv 1) pe_int (nomark _)) (pw_or1 (pt_cmpR op_ge (pv 1) (pe_callB call_len_seq (by rfl) T.n_len PySem.boot_len (pa_cons (pe_fld (pv 0) rfl) pa_nil)) (nomark _))))) (pss_one (ps_raise rfl (takes_of rfl rfl rfl rfl) (pmk_own PySem.F.excBase_ValueError T.x_BadClaims T.g_BadClaims T.k_BadClaims (raises_own T.b_BadClaims T.t_BadClaims) rfl))) pss_nil)
      (pss_one (ps_ret (pe_ix ix_tup (pe_fld (pv 0) rfl) (pv 1) (fun _ _ => rfl))))), ?_⟩
    refine ⟨_, rfl, _, _, rfl, rfl, _, rfl, ite2 (fun h1 => ?_) (fun h1 => ⟨_, rfl, _, rfl, x, C_Claims, dx, _, _, rfl, hx, T.cl_Claims, T.nf_Claims_table, clf_table _, tp, _, rfl, .inr ht, _, _, rfl, rfl, _, rfl, ite2 (fun h2 => ?_) (fun h2 => ?_)⟩)⟩
    · simp only [decide_eq_true_eq] at h1
      rcases q with ⟨k, rfl, hk, _⟩ | ⟨_, q⟩
      · omega
      · exact q
    · simp only [decide_eq_true_eq, List.length_map] at h1 h2
      rcases q with ⟨k, rfl, hk, _⟩ | ⟨_, q⟩
      · omega
      · exact q
    · simp only [decide_eq_true_eq, List.length_map] at h1 h2
      rcases q with ⟨k, rfl, hk, q⟩ | ⟨hn, _⟩
      · exact ⟨_, rfl, x, C_Claims, dx, _, _, rfl, hx, T.cl_Claims, T.nf_Claims_table, clf_table _, _, rfl, tp, _, _, _, rfl, rfl, ht, int_get hk, q⟩
      · omega
theorem ok_Claims_add {f : Addr} {fd : FuncData} (F : Fun K "__add__" "Claims.__add__" s_Claims_add f fd) (T : Txt P w K mg C_Claims C_BadClaims A_SPANS) (c_Claims : Mak (L2.CX P w) P w K mg base 1 "Claims" C_Claims (sp_Claims_initX K C_Claims C_BadClaims)) :
    FnOk P w K mg base (L2.CX P w) 3 f fd ["self", "other"] (sp_Cadd K C_Claims C_BadClaims) := by
  refine F.okX sc_Claims_add (fun vs H Q E h => ?_) (fun cdv A outer s H vs Q E hr h => ?_)
  · obtain ⟨a, b, ns, ms, rfl, _⟩ := h
    rfl
  · obtain ⟨a, b, ns, ms, rfl, ⟨dx, tp, ha, htp⟩, ⟨dy, tq, hb, htq⟩, h1, h2, q⟩ := h
    refine ⟨_, (pss_cons (ps_if (pt_cmpR op_ne (pe_callB call_len_seq (by rfl) T.n_len PySem.boot_len (pa_cons (pe_fld (pv 0) rfl) pa_nil)) (pe_callB call_len_seq (by rfl) T.n_len PySem.boot_len (pa_cons (pe_fld (pv 1) rfl) pa_nil)) (nomark _)) (pss_one (ps_raise rfl (takes_of rfl rfl rfl rfl) (pmk_own PySem.F.excBase_ValueError T.x_BadClaims T.g_BadClaims T.k_BadClaims (raises_own T.b_BadClaims T.t_BadClaims) rfl))) pss_nil)
      (pss_one (ps_ret (pc_mk c_Claims hr (by decide) rfl (passes_call (takes_of rfl rfl rfl rfl) fun _ _ _ _ h => h) (pa_cons (pe_lc (own := [("mine", 2), ("others", 3)]) (g := (gTup K 2 (gCons (gName 2) (gCons (gName 3) gNil)))) (tt := tYes) rfl sc_Claims_add.nd (RZ.pi_zipA (by rfl) T.n_zip (pa_cons (pe_fld (pv 0) rfl) (pa_cons (pe_fld (pv 1) rfl) pa_nil))) (blkOk_by (own := [("mine", 2), ("others", 3)]) (N := ["self", "other", "mine", "others"]) (sc := defScope s_Claims_add) (by decide +kernel)) (fun _ _ _ _ _ => (pg_tup rfl (pgs_cons (pg_name (i := 2) sc_Claims_add.nd rfl (Or.inl rfl)) (pgs_cons (pg_name (i := 3) sc_Claims_add.nd rfl (Or.inl rfl)) pgs_nil)))) (fun _ _ _ _ _ => pts_nil) (fun _ _ _ _ _ => (pe_op op_add (pv 2) (pv 3)))) pa_nil))))), ?_⟩
    refine ⟨_, rfl, a, C_Claims, dx, _, _, rfl, ha, T.cl_Claims, T.nf_Claims_table, clf_table _, tp, _, rfl, .inr htp, ?_⟩
    refine ⟨_, rfl, b, C_Claims, dy, _, _, rfl, hb, T.cl_Claims, T.nf_Claims_table, clf_table _, tq, _, rfl, .inr htq, rfl, _, rfl, ?_⟩
    have h16 := h1.1.le
    rw [List.length_map, List.length_map]
    rcases q with ⟨he, q⟩ | ⟨hn, q⟩
    · refine iteNe (by rw [he]) ?_
      have hl : (ns.map V.int).length = (ms.map V.int).length := by rw [List.length_map, List.length_map, he]
      refine ⟨_, rfl, a, C_Claims, dx, _, _, rfl, ha, T.cl_Claims, T.nf_Claims_table, clf_table _, _, rfl, b, C_Claims, dy, _, _, rfl, hb, T.cl_Claims, T.nf_Claims_table, clf_table _, tp, tq, _, _, rfl, .inr ⟨htp, htq, fun D hD => lc_it (walk_zipT (K := K) (a := tp) (b := tq) hl) (fun i H' => Same H H' ∧ H' D = some (.lst (((adds ns ms).take i).map V.int)))
        ⟨same_upd hD, upd_same⟩ (fun i H' _ ⟨s1, _⟩ => ⟨sqt_same htp s1, sqt_same htq s1⟩) ?_ ?_⟩⟩
      · rintro i y H' H2 hi ⟨s1, hD1⟩ ⟨U, u, v, rfl, hU, rfl, hu, hv⟩
        obtain ⟨z, hz, rfl⟩ := int_at hu
        obtain ⟨z2, hz2, rfl⟩ := int_at hv
        rw [List.length_map] at hi
        have s2 := same_upd (o := .tup [.int z, .int z2]) hU
        have e : (adds ns ms)[i]? = some (z + z2) := by
          unfold adds
          rw [List.getElem?_map, List.getElem?_range hi, Option.map_some, getD_at hz, getD_at hz2]
        refine ⟨U, _, rfl, SqT.of upd_same, rfl, _, _, rfl, _, _, rfl, rfl, rfl, tyes ?_⟩
        refine ⟨_, rfl, _, rfl, _, _, rfl, rfl, _, s2 _ _ hD1, small1000 (by rw [List.length_map, List.length_take, adds_len]; omega), same_app (s1.trans s2) hD, ?_⟩
        rw [upd_same, ← take_snoc e, List.map_append]
        rfl
      · rintro H1 ⟨s1, hD1⟩
        rw [List.length_map, ← adds_len ns ms, List.take_length] at hD1
        intro r d nr nd ne
        have f0 : Same H1 (upd (upd H1 d (.own r)) r (.ins C_Claims d [])) := mk_same nr nd (Kp.refl)
        exact ⟨r, d, D, false, adds ns ms, rfl, upd_same, SqL.of (f0 _ _ hD1), by rw [adds_len]; omega, .inl ⟨adds_tab h1 h2, fun J kJ hJ => ⟨rfl, q _ r (s1.trans (mk_same nr nd kJ)) (none_of s1 nr) hJ⟩⟩⟩
    · rw [decide_eq_false (show ¬ V.int ((ns.length : Nat) : Int) = V.int ((ms.length : Nat) : Int) from fun z => hn (by have := V.int.inj z; omega))]
      exact iteT q
theorem ok_Claims_eq {f : Addr} {fd : FuncData} (F : Fun K "__eq__" "Claims.__eq__" s_Claims_eq f fd) (T : Txt P w K mg C_Claims C_BadClaims A_SPANS)  :
    FnOk P w K mg base CX0 1 f fd ["self", "other"] (sp_Ceq K C_Claims) := by
  refine F.ok sc_Claims_eq (fun vs H Q E h => ?_) (fun cdv A outer s H vs Q E hr h => ?_)
  · obtain ⟨a, b, ns, ms, rfl, _⟩ := h
    rfl
  · obtain ⟨a, b, ns, ms, rfl, ⟨dx, tp, ha, htp⟩, ⟨dy, tq, hb, htq⟩, q⟩ := h
    refine ⟨_, (pss_one (ps_ret (pe_and (pe_callB (C8.call_isC T.i_Claims) (by rfl) T.n_isinstance (by decide +kernel) (pa_cons (pv 1) (pa_cons (pe_glob (v := .ref C_Claims) rfl T.g_Claims rfl) pa_nil))) (pe_one (pe_cmpR (op_eqTI (Room.units hr)) (pe_fld (pv 0) rfl) (pe_fld (pv 1) rfl) (nomark _)))))), ?_⟩
    refine ⟨_, rfl, b, dy, _, rfl, hb, true, rfl, iteT ?_⟩
    exact ⟨_, rfl, a, C_Claims, dx, _, _, rfl, ha, T.cl_Claims, T.nf_Claims_table, clf_table _, _, rfl, b, C_Claims, dy, _, _, rfl, hb, T.cl_Claims, T.nf_Claims_table, clf_table _, tp, tq, ns, ms, rfl, rfl, htp, htq, q⟩
theorem ok_Lmade {f : Addr} {fd : FuncData} (F : Fun K "_law_made" "_law_made" s_Lmade f fd) (T : Txt P w K mg C_Claims C_BadClaims A_SPANS) (c_Claims : Mak (L2.CX P w) P w K mg base 1 "Claims" C_Claims (sp_Claims_initX K C_Claims C_BadClaims)) :
    FnOk P w K mg base CX0 3 f fd ["_law_handed"] (sp_Lmade K C_Claims) := by
  refine F.ok sc_Lmade (fun vs H Q E h => ?_) (fun cdv A outer s H vs Q E hr h => ?_)
  · obtain ⟨l, b, ns, rfl, _⟩ := h
    rfl
  · obtain ⟨l, b, ns, rfl, hl, hz, q⟩ := h
    refine ⟨_, (pss_cons (ps_set (i := 1) sc_Lmade.nd rfl (Or.inl rfl) pe_non)
      (C8.pss_cut (ps_try_only (Wout := fun _ _ _ _ => False) rfl rfl ⟨rfl, by decide, .inl T.g_BadClaims⟩ takes0 (fun W pn xe tk _ => (pss_one (ps_set (i := 1) sc_Lmade.nd rfl (Or.inl rfl) (pc_mkS c_Claims hr (by decide) rfl (fun σ => passAt tk σ) (pa_cons (pv 0) pa_nil)))))
        (fun a oe cls d pn _ _ => (pss_one (ps_set (i := 1) sc_Lmade.nd rfl (Or.inl rfl) pe_non))))
      (pss_one (ps_ret (pv 1))))), ?_⟩
    refine ⟨fun σ' H' => ∃ v : V, σ' = [some (.ref l), some v] ∧ Q v H', ?_, fun σ' H' ⟨v, e, q⟩ => by subst e; exact ⟨_, rfl, q⟩⟩
    refine ⟨_, rfl, fun x dx nx ndx ne => ?_⟩
    have s0 : Same H (upd (upd H dx (.own x)) x (.ins C_Claims dx [])) := mk_same nx ndx Kp.refl
    refine ⟨x, dx, l, b, ns, rfl, upd_same, sqb_same hl s0, hz, ?_⟩
    rcases q with ⟨ht, q⟩ | ⟨hn, q⟩
    · exact .inl ⟨ht, fun H' kx hc => ⟨rfl, _, rfl, q _ x (mk_same nx ndx kx) nx hc⟩⟩
    · exact .inr ⟨hn, fun H' s => ⟨true, exm_self T.b_BadClaims T.ic_BadClaims T.t_BadClaims T.s_BadClaims, fun _ a0 ha0 => ⟨_, rfl, q _ (s0.trans s)⟩, fun z => Bool.noConfusion z⟩⟩
theorem ok_Ladded {f : Addr} {fd : FuncData} (F : Fun K "_law_added" "_law_added" s_Ladded f fd) (T : Txt P w K mg C_Claims C_BadClaims A_SPANS) (c_Claims_add : Met (L2.CX P w) P w K mg base 3 C_Claims "__add__" (sp_Cadd K C_Claims C_BadClaims)) :
    FnOk P w K mg base CX0 4 f fd ["_law_one", "_law_two"] (sp_Ladded K C_Claims) := by
  refine F.ok sc_Ladded (fun vs H Q E h => ?_) (fun cdv A outer s H vs Q E hr h => ?_)
  · obtain ⟨a, b, ns, ms, rfl, _⟩ := h
    rfl
  · obtain ⟨a, b, ns, ms, rfl, h1, h2, t1, t2, q⟩ := h
    refine ⟨_, (pss_cons (ps_set (i := 2) sc_Ladded.nd rfl (Or.inl rfl) pe_non)
      (C8.pss_cut (ps_try_only (Wout := fun _ _ _ _ => False) rfl rfl ⟨rfl, by decide, .inl T.g_BadClaims⟩ takes0 (fun W pn xe tk _ => (pss_one (ps_set (i := 2) sc_Ladded.nd rfl (Or.inl rfl) (pe_opS (op_ownS c_Claims_add hr (by decide) (fun σ => passAt tk σ) T.sf_Claims) (pv 0) (pv 1)))))
        (fun a oe cls d pn _ _ => (pss_one (ps_set (i := 2) sc_Ladded.nd rfl (Or.inl rfl) pe_non))))
      (pss_one (ps_ret (pv 2))))), ?_⟩
    obtain ⟨dx, tp, ha, _⟩ := id h1
    obtain ⟨dy, tq, hb, _⟩ := id h2
    refine ⟨fun σ' H' => ∃ v : V, σ' = [some (.ref a), some (.ref b), some v] ∧ Q v H', ?_, fun σ' H' ⟨v, e, q⟩ => by subst e; exact ⟨_, rfl, q⟩⟩
    refine ⟨_, rfl, _, rfl, a, b, dx, dy, _, _, rfl, rfl, ha, hb, a, b, ns, ms, rfl, h1, h2, t1, t2, ?_⟩
    rcases q with ⟨he, q⟩ | ⟨hn, q⟩
    · exact .inl ⟨he, fun H' r s hr hc => ⟨_, rfl, q _ r s hr hc⟩⟩
    · exact .inr ⟨hn, ⟨true, exm_self T.b_BadClaims T.ic_BadClaims T.t_BadClaims T.s_BadClaims, fun _ a0 ha0 => ⟨_, rfl, q _ (Same.of _)⟩, fun z => Bool.noConfusion z⟩⟩
theorem ok_Lunknown {f : Addr} {fd : FuncData} (F : Fun K "_law_unknown" "_law_unknown" s_Lunknown f fd) (T : Txt P w K mg C_Claims C_BadClaims A_SPANS) (c_Claims_getitem : Met (L2.CX P w) P w K mg base 1 C_Claims "__getitem__" (sp_Cget K C_Claims C_BadClaims)) :
    FnOk P w K mg base CX0 3 f fd ["_law_told", "_law_mask"] (sp_Lunk K C_Claims) := by
  refine F.ok sc_Lunknown (fun vs H Q E h => ?_) (fun cdv A outer s H vs Q E hr h => ?_)
  · obtain ⟨a, ns, i, rfl, _⟩ := h
    rfl
  · obtain ⟨a, ns, i, rfl, hc, hi, q⟩ := h
    refine ⟨_, (pss_cons (ps_set (i := 2) sc_Lunknown.nd rfl (Or.inl rfl) pe_non)
      (pss_cons (ps_set (i := 3) sc_Lunknown.nd rfl (Or.inl rfl) pe_bl)
      (C8.pss_cut (ps_try_only (Wout := fun _ _ _ _ => False) rfl rfl ⟨rfl, by decide, .inl T.g_BadClaims⟩ takes0 (fun W pn xe tk _ => (pss_one (ps_set (i := 2) sc_Lunknown.nd rfl (Or.inl rfl) (pe_ixOS c_Claims_getitem hr (by decide) (fun σ => passAt tk σ) (pv 0) (pv 1)))))
        (fun a oe cls d pn _ _ => (pss_one (ps_set (i := 3) sc_Lunknown.nd rfl (Or.inl rfl) pe_bl))))
      (pss_one (ps_ret (pe_and (pv 3) (pe_one (pe_cmpR op_isN (pv 2) pe_non (nomark _))))))))), ?_⟩
    obtain ⟨dx, tp, ha, _⟩ := id hc
    refine ⟨fun σ' H' => σ' = [some (.ref a), some (.int i), some .non, some (.bl true)] ∧ Same H H', ?_, ?_⟩
    · exact ⟨_, rfl, _, rfl, a, dx, _, rfl, ha, a, ns, i, rfl, hc, .inr ⟨hi, ⟨true, exm_self T.b_BadClaims T.ic_BadClaims T.t_BadClaims T.s_BadClaims, fun _ a0 ha0 => ⟨rfl, Same.of _⟩, fun z => Bool.noConfusion z⟩⟩⟩
    · rintro σ' H' ⟨rfl, s⟩
      exact ⟨_, rfl, true, rfl, iteT ⟨_, rfl, rfl, by rw [decide_eq_true rfl]; exact q _ s⟩⟩
theorem ok_Lnumbers {f : Addr} {fd : FuncData} (F : Fun K "_law_numbers" "_law_numbers" s_Lnumbers f fd) (T : Txt P w K mg C_Claims C_BadClaims A_SPANS) (c_Ltake : Cal CX0 P w K mg base 1 "_law_take" sp_Ltake) :
    FnOk P w K mg base CX0 2 f fd ["_law_pool_here", "_law_size"] (sp_Lnums K) := by
  refine F.ok sc_Lnumbers (fun vs H Q E h => ?_) (fun cdv A outer s H vs Q E hr h => ?_)
  · obtain ⟨p, n, rfl, _⟩ := h
    rfl
  · obtain ⟨p, n, rfl, hn, hp, q⟩ := h
    refine ⟨_, (pss_cons (ps_set (i := 2) sc_Lnumbers.nd rfl (Or.inr rfl) (pe_ix ix_list (pe_lst (pa_cons pe_int (pa_cons pe_int (pa_cons pe_int (pa_cons pe_int pa_nil))))) (pc_c c_Ltake hr (by decide) rfl pass0 (pa_cons (pv 0) (pa_cons pe_int pa_nil))) (fun _ _ => rfl)))
      (pss_one (ps_ret (pe_lc (own := [("_law_k", 3)]) (g := (gName 3)) (tt := tYes) rfl sc_Lnumbers.nd (pi_range1 (by rfl) T.n_range (pa_cons (pv 1) pa_nil)) (blkOk_by (own := [("_law_k", 3)]) (N := ["_law_pool_here", "_law_size", "_law_most", "_law_k"]) (sc := defScope s_Lnumbers) (by decide +kernel)) (fun _ _ _ _ _ => (pg_name (i := 3) sc_Lnumbers.nd rfl (Or.inl rfl))) (fun _ _ _ _ _ => pts_nil) (fun _ _ _ _ _ => (pc_c c_Ltake hr (by decide) rfl pass0 (pa_cons (pv 0) (pa_cons (pv 2) pa_nil)))))))), ?_⟩
    refine ⟨(by show 4 ≤ sizeLine; decide), fun y hy => ?_⟩
    have sy := same_upd (o := .lst [.int 21, .int 21, .int 21, .int 1000000001]) hy
    have ny := pool_ne hp hy
    refine ⟨_, rfl, p, 4, rfl, hp.same sy, by decide, by decide, fun H2 r2 k2 p2 b0 b1 => ?_⟩
    obtain ⟨mo, hmo, emo⟩ := pick4 (a := 21) (b := 21) (c := 21) (d := 1000000001) b0 b1
    refine ⟨y, _, _, _, rfl, rfl, SqL.of (k2 _ _ ny upd_same), hmo, ?_⟩
    have k02 : Kp p H H2 := (Kp.of sy).trans k2
    refine ⟨_, rfl, _, rfl, by omega, by omega, fun D hD => lc_range (lo := 0) (n := ((n : Nat) : Int).toNat) (fun i H' => Kp p H2 H' ∧ PoolAt H' p ∧ ∃ ts : List Int, H' D = some (.lst (ts.map V.int)) ∧ ts.length = i ∧ ∀ t ∈ ts, 0 ≤ t)
      ⟨Kp.of (same_upd hD), p2.same (same_upd hD), [], upd_same, rfl, by intro t ht; cases ht⟩ ?_ ?_⟩
    · rintro i H' hi ⟨k3, p3, ts, hD1, hl1, hp1⟩
      have nD := pool_ne p2 hD
      refine ⟨rfl, tyes ?_⟩
      refine ⟨_, rfl, _, rfl, p, mo, rfl, p3, by omega, by omega, fun H4 r4 k4 p4 c0 c1 => ?_⟩
      refine ⟨_, k4 _ _ nD hD1, small1000 (by rw [List.length_map]; omega), kp_app (k3.trans k4) hD, p4.kp Kp.upd nD.symm, ts ++ [r4], by rw [upd_same, List.map_append] <;> rfl, by rw [List.length_append, hl1] <;> rfl, fun t ht => ?_⟩
      rcases List.mem_append.mp ht with h | h
      · exact hp1 t h
      · rw [List.mem_singleton.mp h]
        exact c0
    · rintro H3 ⟨k3, p3, ts, hD1, hl1, hp1⟩
      exact q _ D ts (k02.trans k3) p3 (none_kp k02 (pool_ne p2 hD) hD) hD1 (by omega) hp1
theorem ok_Lsecond {f : Addr} {fd : FuncData} (F : Fun K "_law_second" "_law_second" s_Lsecond f fd) (T : Txt P w K mg C_Claims C_BadClaims A_SPANS) (c_Ltake : Cal CX0 P w K mg base 1 "_law_take" sp_Ltake) (c_Lnumbers : Cal CX0 P w K mg base 2 "_law_numbers" (sp_Lnums K)) :
    FnOk P w K mg base CX0 3 f fd ["_law_pool_here", "_law_table"] (sp_Lsecond K) := by
  refine F.ok sc_Lsecond (fun vs H Q E h => ?_) (fun cdv A outer s H vs Q E hr h => ?_)
  · obtain ⟨p, l, ns, rfl, _⟩ := h
    rfl
  · obtain ⟨p, l, ns, rfl, hp, nl, hl, tab, q⟩ := h
    refine ⟨_, (pss_cons (ps_set (i := 2) sc_Lsecond.nd rfl (Or.inl rfl) (pc_c c_Ltake hr (by decide) rfl pass0 (pa_cons (pv 0) (pa_cons pe_int pa_nil))))
      (pss_cons (ps_if (pt_cmpR op_eq (pv 2) pe_int (nomark _)) (pss_one (ps_ret (pe_callTy call_list_of (by rfl) T.n_list (by decide +kernel) (pa_cons (pv 1) pa_nil)))) pss_nil)
      (pss_cons (ps_if (pt_cmpR op_eq (pv 2) pe_int (nomark _)) (pss_cons (ps_set (i := 3) sc_Lsecond.nd rfl (Or.inl rfl) (pe_callTy call_list_of (by rfl) T.n_list (by decide +kernel) (pa_cons (pv 1) pa_nil)))
      (pss_cons (ps_set (i := 4) sc_Lsecond.nd rfl (Or.inl rfl) (pc_c c_Ltake hr (by decide) rfl pass0 (pa_cons (pv 0) (pa_cons (pe_callB call_len_seq (by rfl) T.n_len PySem.boot_len (pa_cons (pv 1) pa_nil)) pa_nil))))
      (pss_cons (ps_asg (pe_op op_add (pe_op op_add (pe_ix ix_list (pv 3) (pv 4) (fun _ _ => rfl)) pe_int) (pc_c c_Ltake hr (by decide) rfl pass0 (pa_cons (pv 0) (pa_cons pe_int pa_nil)))) (pg_sub (pv 3) (pv 4) set_list))
      (pss_one (ps_ret (pv 3)))))) pss_nil)
      (pss_cons (ps_set (i := 5) sc_Lsecond.nd rfl (Or.inl rfl) (pe_callB call_len_seq (by rfl) T.n_len PySem.boot_len (pa_cons (pv 1) pa_nil)))
      (C8.pss_cut (ps_if (pt_cmpR op_eq (pv 2) pe_int (nomark _)) (pss_one (ps_set (i := 5) sc_Lsecond.nd rfl (Or.inl rfl) (pe_ix ix_list (pe_lst (pa_cons pe_int (pa_cons pe_int (pa_cons pe_int (pa_cons pe_int pa_nil))))) (pc_c c_Ltake hr (by decide) rfl pass0 (pa_cons (pv 0) (pa_cons pe_int pa_nil))) (fun _ _ => rfl)))) pss_nil)
      (pss_one (ps_ret (pc_c c_Lnumbers hr (by decide) rfl pass0 (pa_cons (pv 0) (pa_cons (pv 5) pa_nil)))))))))), ?_⟩
    have h16 := tab.1.le
    have hln : (ns.map V.int).length = ns.length := List.length_map ..
    refine ⟨_, rfl, p, 4, rfl, hp, by decide, by decide, fun H1 wy k1 p1 _ _ => ?_⟩
    have hl1 := k1 _ _ nl hl
    have n2 : 0 < ns.length := by have := tab.1; unfold LenOk at this; omega
    refine ⟨_, rfl, rfl, _, rfl, ite2 (fun _ => ?_) (fun _ => ?_)⟩
    · refine ⟨_, rfl, l, _, rfl, .inl (SqL.of hl1), fun u hu => ?_⟩
      exact q _ u ns (k1.trans (Kp.of (same_upd hu))) (none_kp k1 (pool_ne p1 hu) hu) upd_same tab
    refine ⟨_, rfl, rfl, _, rfl, ite2 (fun _ => ?_) (fun _ => ?_)⟩
    · refine ⟨_, rfl, l, _, rfl, .inl (SqL.of hl1), fun u hu => ?_⟩
      have su := same_upd (o := .lst (ns.map V.int)) hu
      have nu := pool_ne p1 hu
      have hu0 := none_kp k1 nu hu
      refine ⟨_, rfl, _, rfl, l, _, rfl, .inl (SqL.of (su _ _ hl1)), p, _, rfl, p1.same su, by omega, by omega, fun H2 r2 k2 p2 b0 b1 => ?_⟩
      rw [hln] at b1
      obtain ⟨k, rfl⟩ : ∃ k : Nat, r2 = (k : Int) := ⟨r2.toNat, (Int.toNat_of_nonneg b0).symm⟩
      have hu2 := k2 _ _ nu (upd_same (H := H1) (a := u) (o := .lst (ns.map V.int)))
      have hk : k < ns.length := by omega
      refine ⟨_, rfl, _, rfl, u, _, _, _, rfl, rfl, SqL.of hu2, int_get hk, _, _, rfl, rfl, _, rfl, p, 3, rfl, p2, by decide, by decide, fun H3 r3 k3 p3 c0 c1 => ?_⟩
      have hu3 := k3 _ _ nu hu2
      have hix : ixN (ns.map V.int).length ((k : Nat) : Int) = some k := ixN_nat (by rw [hln]; exact hk)
      refine ⟨_, _, rfl, rfl, _, rfl, _, rfl, u, _, _, k, rfl, rfl, hu3, hix, _, rfl, ?_⟩
      have kk : Kp p H H3 := (k1.trans (Kp.of su)).trans (k2.trans k3)
      refine q _ u (ns.set k (ns.getD k 0 + 1 + r3)) (kp_app kk hu0) hu0 (by rw [upd_same, List.map_set]) ⟨by rw [List.length_set]; exact tab.1, fun n hn => ?_⟩
      rcases List.mem_or_eq_of_mem_set hn with h | h
      · exact tab.2 n h
      · rw [h]
        have := tab.2 _ (getD_mem hk)
        omega
    · refine ⟨_, rfl, l, _, rfl, .inl (SqL.of hl1), ?_⟩
      rw [hln]
      refine ⟨fun σ' H' => ∃ (v3 v4 : Option V) (n : Nat), σ' = [some (.ref p), some (.ref l), some (.int wy), v3, v4, some (.int (n : Nat))] ∧ LenOk n ∧ Kp p H H' ∧ PoolAt H' p, ?_, ?_⟩
      · refine ⟨_, rfl, rfl, _, rfl, ite2 (fun _ => ?_) (fun _ => ?_)⟩
        · refine ⟨(by show 4 ≤ sizeLine; decide), fun z hz => ?_⟩
          have sz := same_upd (o := .lst [.int 2, .int 4, .int 8, .int 16]) hz
          have nz := pool_ne p1 hz
          refine ⟨_, rfl, p, 4, rfl, p1.same sz, by decide, by decide, fun H2 r2 k2 p2 b0 b1 => ?_⟩
          obtain ⟨tm, htm, etm⟩ := pick4 (a := 2) (b := 4) (c := 8) (d := 16) b0 b1
          refine ⟨z, _, _, _, rfl, rfl, SqL.of (k2 _ _ nz upd_same), htm, ?_⟩
          obtain ⟨n, rfl⟩ : ∃ n : Nat, tm = (n : Int) := ⟨tm.toNat, (Int.toNat_of_nonneg (by omega)).symm⟩
          exact ⟨_, _, n, rfl, by unfold LenOk; omega, k1.trans ((Kp.of sz).trans k2), p2⟩
        · exact ⟨_, _, ns.length, rfl, tab.1, k1, p1⟩
      · rintro σ' H2 ⟨v3, v4, n, rfl, hk, k2, p2⟩
        refine ⟨_, rfl, _, rfl, p, n, rfl, by have := hk.le; omega, p2, fun H3 u ts k3 p3 hu0 hu hn hpos => ?_⟩
        exact q _ u ts (k2.trans k3) (none_kp k2 (pool_ne p2 hu0) hu0) hu ⟨by rw [hn]; exact hk, hpos⟩
theorem ok_Lreads {f : Addr} {fd : FuncData} (F : Fun K "_law_reads" "_law_reads" s_Lreads f fd) (T : Txt P w K mg C_Claims C_BadClaims A_SPANS) (c_Lsame : Cal CX0 P w K mg base 3 "_law_same" (sp_Lsame K 2)) (c_Claims_span : Prp CX0 P w K mg base 1 C_Claims "span" (sp_spanS K C_Claims)) (c_Claims_len : Met CX0 P w K mg base 1 C_Claims "__len__" (sp_Clen K C_Claims)) (c_Claims_iter : Met CX0 P w K mg base 1 C_Claims "__iter__" (sp_Citer K C_Claims)) (c_Claims_getitem : Met (L2.CX P w) P w K mg base 1 C_Claims "__getitem__" (sp_Cget K C_Claims C_BadClaims)) (c_Lunknown : Cal CX0 P w K mg base 3 "_law_unknown" (sp_Lunk K C_Claims)) :
    FnOk P w K mg base CX0 7 f fd ["_law_told", "_law_table"] (sp_Lreads K C_Claims) := by
  refine F.ok sc_Lreads (fun vs H Q E h => ?_) (fun cdv A outer s H vs Q E hr h => ?_)
  · obtain ⟨a, l, ns, rfl, _⟩ := h
    rfl
  · obtain ⟨a, l, ns, rfl, hc, hl, hk, q⟩ := h
    refine ⟨_, (pss_cons (ps_if (PW.pt (pw_or (pt_not (pt_val (pe_callB (C8.call_isC T.i_Claims) (by rfl) T.n_isinstance (by decide +kernel) (pa_cons (pv 0) (pa_cons (pe_glob (v := .ref C_Claims) rfl T.g_Claims rfl) pa_nil))))) (pw_or1 (pt_not (pt_val (pc_c c_Lsame hr (by decide) rfl pass0 (pa_cons (pe_fld (pv 0) rfl) (pa_cons (pe_callTy call_tuple_of (by rfl) T.n_tuple (by decide +kernel) (pa_cons (pv 1) pa_nil)) pa_nil)))))))) (pss_one (ps_ret pe_bl)) pss_nil)
      (pss_cons (ps_setLc (i := 2) (own := [("_law_span", 4)]) (g := (gName 4)) rfl sc_Lreads.nd rfl rfl (sw_true rfl rfl rfl (by decide +kernel)) (pi_range1 (by rfl) T.n_range (pa_cons pe_int pa_nil)) (blkOk_by (own := [("_law_span", 4)]) (N := ["_law_told", "_law_table", "_law_spans", "_law_mask", "_law_span"]) (sc := defScope s_Lreads) (by decide +kernel)) (fun _ _ _ _ _ => (pg_name (i := 4) sc_Lreads.nd rfl (Or.inl rfl))) (fun _ _ _ _ _ => (pts_one (pt_cmpR op_eq (pe_ix (show IxR _ (rIxL K) from ix_list) (pe_lst (pa_cons pe_int (pa_cons pe_int (pa_cons pe_int (pa_cons pe_int (pa_cons pe_int pa_nil)))))) (pv 4) (fun _ _ => rfl)) (pe_callB (call_len_seqK (K := K) rfl) (by rfl) T.n_len PySem.boot_len (pa_cons (pv 1) pa_nil)) (nomark _)))) (fun _ _ _ _ _ => (pv 4)))
      (pss_cons (ps_if (PW.pt (pw_or (pt_not (pt_val (pc_c c_Lsame hr (by decide) rfl pass0 (pa_cons (pe_lst (pa_cons (pc_prop c_Claims_span hr (by decide) pass0 (pv 0) rfl) pa_nil)) (pa_cons (pv 2) pa_nil))))) (pw_or1 (pt_not (pt_val (pc_c c_Lsame hr (by decide) rfl pass0 (pa_cons (pe_callB (call_lenO (E := E0) c_Claims_len hr (by decide)) (by rfl) T.n_len PySem.boot_len (pa_cons (pv 0) pa_nil)) (pa_cons (pe_callB call_len_seq (by rfl) T.n_len PySem.boot_len (pa_cons (pv 1) pa_nil)) pa_nil)))))))) (pss_one (ps_ret pe_bl)) pss_nil)
      (pss_cons (ps_if (pt_not (pt_val (pc_c c_Lsame hr (by decide) rfl pass0 (pa_cons (pe_callTy (call_listO rfl c_Claims_iter c_Claims_len hr (by decide) (by decide)) (by rfl) T.n_list (by decide +kernel) (pa_cons (pv 0) pa_nil)) (pa_cons (pv 1) pa_nil))))) (pss_one (ps_ret pe_bl)) pss_nil)
      (pss_cons (ps_for PassesOwn.never rfl (pi_range1 (by rfl) T.n_range (pa_cons (pe_callB call_len_seq (by rfl) T.n_len PySem.boot_len (pa_cons (pv 1) pa_nil)) pa_nil)) (pg_name (i := 3) sc_Lreads.nd rfl (Or.inl rfl))
        (pss_one (ps_if (pt_not (pt_val (pc_c c_Lsame hr (by decide) rfl pass0 (pa_cons (pe_ixO c_Claims_getitem hr (by decide) passL (pv 0) (pv 3)) (pa_cons (pe_ix ix_list (pv 1) (pv 3) (fun _ _ => rfl)) pa_nil))))) (pss_one (ps_ret pe_bl)) pss_nil)))
      (pss_one (ps_ret (pe_and (pc_c c_Lunknown hr (by decide) rfl pass0 (pa_cons (pv 0) (pa_cons (pe_op op_sub pe_int pe_int) pa_nil))) (pe_and (pc_c c_Lunknown hr (by decide) rfl pass0 (pa_cons (pv 0) (pa_cons (pe_callB call_len_seq (by rfl) T.n_len PySem.boot_len (pa_cons (pv 1) pa_nil)) pa_nil))) (pe_one (pc_c c_Lunknown hr (by decide) rfl pass0 (pa_cons (pv 0) (pa_cons (pe_op op_add (pe_callB call_len_seq (by rfl) T.n_len PySem.boot_len (pa_cons (pv 1) pa_nil)) pe_int) pa_nil))))))))))))), ?_⟩
    obtain ⟨dx, tp, ha, htp⟩ := id hc
    have h16 := hk.le
    have hln : (ns.map V.int).length = ns.length := List.length_map ..
    refine ⟨_, rfl, a, dx, _, rfl, ha, true, rfl, iteF ?_⟩
    refine ⟨_, rfl, a, C_Claims, dx, _, _, rfl, ha, T.cl_Claims, T.nf_Claims_table, clf_table _, _, rfl, l, _, rfl, .inl ⟨hl, fun u hu => ?_⟩⟩
    have s1 := same_upd (o := .tup (ns.map V.int)) hu
    refine ⟨_, _, rfl, same_intsT (sqt_same htp s1) (SqT.of upd_same) (by omega), true, rfl, iteF ?_⟩
    generalize upd H u (.tup (ns.map V.int)) = H1 at *
    refine ⟨5, rfl, by decide, by decide, fun D hD => lc_range (lo := 0) (n := 5) (fun i H' => Same H1 H' ∧ H' D = some (.lst (((fS ns.length i).map fun k => ((k : Nat) : Int)).map V.int)))
      ⟨same_upd hD, upd_same⟩ ?_ ?_⟩
    · rintro k H2 hk5 ⟨s2, hD1⟩
      have e := fS_snoc ns.length k
      have hfl := fS_len ns.length k
      have hk0 : k = 0 ∨ k = 1 ∨ k = 2 ∨ k = 3 ∨ k = 4 := by omega
      rcases hk0 with rfl | rfl | rfl | rfl | rfl
      all_goals
        refine ⟨rfl, (by show 5 ≤ sizeLine; decide), fun z1 hz1 => ?_⟩
        have s3 := s2.trans (same_upd (o := .lst [.int 1, .int 2, .int 4, .int 8, .int 16]) hz1)
        have hD2 := same_upd (o := .lst [.int 1, .int 2, .int 4, .int 8, .int 16]) hz1 _ _ hD1
        refine ⟨_, rfl, z1, _, _, _, rfl, rfl, SqL.of upd_same, rfl, _, rfl, l, _, rfl, .inl (Same.seq (s1.trans s3) hl), rfl, _, rfl, ite2 (fun hc => ?_) (fun hc => ?_)⟩
        · have hc' := V.int.inj (of_decide_eq_true hc)
          rw [hln] at hc'
          refine ⟨_, rfl, _, hD2, small1000 (by rw [List.length_map, List.length_map]; omega), same_app s3 hD, ?_⟩
          rw [upd_same, e, if_pos, List.map_append, List.map_append]
          · rfl
          · exact decide_eq_true (Int.ofNat.inj hc')
        · have hc' : ¬ _ = _ := fun z => hc (decide_eq_true (congrArg V.int z))
          rw [hln] at hc'
          refine ⟨s3, ?_⟩
          rw [e, if_neg (fun z => by have := of_decide_eq_true z; exact hc' (by rw [← this]; rfl)), List.append_nil]
          exact hD2
    · rintro H2 ⟨s2, hD1⟩
      rw [fS_end hk] at hD1
      have s02 := s1.trans s2
      have hc2 := hc.same s02
      obtain ⟨dx2, tp2, ha2, _⟩ := id hc2
      refine ⟨_, rfl, a, dx2, _, rfl, ha2, a, ns, rfl, hc2, hk, (by show 1 ≤ sizeLine; decide), fun z hz => ?_⟩
      have s3 := same_upd (o := .lst [.int (spn ns.length : Nat)]) hz
      refine ⟨_, rfl, _, _, rfl, same_ints (l := [((spn ns.length : Nat) : Int)]) (SqL.of upd_same) (SqL.of (s3 _ _ hD1)) (by show 1 ≤ _; decide), true, rfl, iteF ?_⟩
      have s03 := s02.trans s3
      have hc3 := hc.same s03
      obtain ⟨dx3, tp3, ha3, htp3⟩ := id hc3
      refine ⟨_, rfl, a, dx3, _, rfl, ha3, a, ns, rfl, hc3, ns.length, rfl, by omega, ?_⟩
      refine ⟨_, rfl, l, _, rfl, .inl (Same.seq s03 hl), _, _, rfl, (by rw [hln]; exact SameV.flat rfl), true, rfl, iteF ?_⟩
      -- list(told)
      generalize upd H2 z (.lst [.int (spn ns.length : Nat)]) = H3 at *
      refine ⟨_, rfl, a, dx3, _, rfl, ha3, fun u hu => ?_⟩
      have s4 := same_upd (o := .lst []) hu
      refine ⟨a, tp3, dx3, ns, rfl, s4 _ _ ha3, sqt_same htp3 s4, fun it hit => ?_⟩
      have s5 := same_upd (o := itO it tp3 0) hit
      have nui : u ≠ it := fun w => by rw [← w, upd_same] at hit; cases hit
      have s45 := s4.trans s5
      have hc5 := hc3.same s45
      refine ⟨it, tp3, ns.map V.int, dx3, _, rfl, upd_same, s45 _ _ ha3, nui, a, ns, rfl, hc5, ns.length, rfl, by omega, ns.length, rfl, by omega, sqt_same htp3 s45, upd_same, (by rw [upd_ne nui, upd_same]), fun H6 he6 hu6 => ?_⟩
      have s36 : Same H3 H6 := fun b o e => by
        have nb : b ≠ u := ne_of_none e hu
        have nb2 : b ≠ it := ne_of_none (s4 _ _ e) hit
        rw [he6 b nb2 nb]
        exact s45 _ _ e
      have s06 := s03.trans s36
      refine ⟨_, rfl, _, _, rfl, same_ints (SqL.of hu6) (Same.seq s06 hl) (by omega), true, rfl, iteF ?_⟩
      refine ⟨_, rfl, l, _, rfl, .inl (Same.seq s06 hl), _, rfl, by omega, by omega, for_range (lo := 0) (n := (((ns.map V.int).length : Nat) : Int).toNat) (fun i σ H' => ∃ (v3 v4 : Option V), σ = [some (.ref a), some (.ref l), some (.ref D), v3, v4] ∧ Same H H')
        ⟨_, _, rfl, s06⟩ ?_ ?_⟩
      · rintro i σ H7 hi ⟨v3, v4, rfl, s7⟩
        have hi' : i < ns.length := by omega
        have hc7 := hc.same s7
        obtain ⟨dx7, tp7, ha7, _⟩ := id hc7
        have g1 := int_get hi'
        rw [show ((i : Nat) : Int) = 0 + ((i : Nat) : Int) by omega] at g1
        refine ⟨_, rfl, _, rfl, a, dx7, _, rfl, ha7, a, ns, _, rfl, hc7, .inl ⟨i, by rw [Int.zero_add], hi', ?_⟩⟩
        refine ⟨_, rfl, _, rfl, l, _, _, _, rfl, rfl, Same.seq s7 hl, g1, _, _, rfl, SameV.flat rfl, true, rfl, iteF ?_⟩
        exact ⟨_, _, rfl, s7⟩
      · rintro σ H7 ⟨v3, v4, rfl, s7⟩
        refine ⟨_, rfl, _, _, rfl, rfl, a, ns, _, rfl, hc.same s7, .inl (by decide), fun H8 s8 => ⟨true, rfl, iteT ?_⟩⟩
        have s78 := s7.trans s8
        refine ⟨_, rfl, _, rfl, l, _, rfl, .inl (Same.seq s78 hl), a, ns, _, rfl, hc.same s78, .inr (by rw [hln]; exact Int.le_refl _), fun H9 s9 => ⟨true, rfl, iteT ?_⟩⟩
        have s79 := s78.trans s9
        exact ⟨_, rfl, _, rfl, l, _, rfl, .inl (Same.seq s79 hl), _, _, rfl, rfl, a, ns, _, rfl, hc.same s79, .inr (by rw [hln]; omega), fun H10 s10 => q _ (s79.trans s10)⟩
theorem in_sizes (n : Nat) : inV (.int (n : Nat)) [V.int 2, V.int 4, V.int 8, V.int 16] = decide (LenOk n) := by
  have e : inV (.int (n : Nat)) [V.int 2, V.int 4, V.int 8, V.int 16] = ((2 : Int) == (n : Int) || ((4 : Int) == (n : Int) || ((8 : Int) == (n : Int) || ((16 : Int) == (n : Int) || false)))) := rfl
  rw [e, Bool.eq_iff_iff, decide_eq_true_iff]
  unfold LenOk
  simp only [Bool.or_eq_true, beq_iff_eq, Bool.false_eq_true, or_false]
  omega
theorem neg_none (ns : List Int) : (ns.filter fun n => decide (n < 0)).length = 0 ↔ ∀ n ∈ ns, 0 ≤ n := by
  rw [List.length_eq_zero_iff, List.filter_eq_nil_iff]
  constructor
  · intro h n hn
    have := h n hn
    simp at this
    omega
  · intro h n hn
    have := h n hn
    simp
    omega
theorem adds_comm {ns ms : List Int} (h : ns.length = ms.length) : adds ms ns = adds ns ms := by
  unfold adds
  rw [h]
  exact congrArg (fun f => (List.range ms.length).map f) (funext fun k => Int.add_comm _ _)
theorem ok_law {f : Addr} {fd : FuncData} (F : Fun K "law" "law" s_law f fd) (T : Txt P w K mg C_Claims C_BadClaims A_SPANS) (c_Lpool : Cal CX0 P w K mg base 1 "_law_pool" sp_Lpool) (c_Lcell : Cal CX0 P w K mg base 1 "_law_cell" (sp_Lcell K)) (c_Ltake : Cal CX0 P w K mg base 1 "_law_take" sp_Ltake) (c_Lnumbers : Cal CX0 P w K mg base 2 "_law_numbers" (sp_Lnums K)) (c_Lmade : Cal CX0 P w K mg base 3 "_law_made" (sp_Lmade K C_Claims)) (c_Lsame : Cal CX0 P w K mg base 3 "_law_same" (sp_Lsame K 2)) (c_Lreads : Cal CX0 P w K mg base 7 "_law_reads" (sp_Lreads K C_Claims)) (c_Lsecond : Cal CX0 P w K mg base 3 "_law_second" (sp_Lsecond K)) (c_Claims : Mak (L2.CX P w) P w K mg base 1 "Claims" C_Claims (sp_Claims_initX K C_Claims C_BadClaims)) (c_Ladded : Cal CX0 P w K mg base 4 "_law_added" (sp_Ladded K C_Claims)) (c_Claims_eq : Met CX0 P w K mg base 1 C_Claims "__eq__" (sp_Ceq K C_Claims)) :
    FnOk P w K mg base CX0 8 f fd ["_law_script"] (sp_law K) := by
  refine F.ok sc_law (fun vs H Q E h => ?_) (fun cdv A outer s H vs Q E hr h => ?_)
  · obtain ⟨a, ns, rfl, _⟩ := h
    rfl
  · obtain ⟨a, ss, rfl, hS, hlen, q⟩ := h
    refine ⟨_, (pss_cons (ps_set (i := 1) sc_law.nd rfl (Or.inl rfl) (pc_c c_Lpool hr (by decide) rfl pass0 (pa_cons (pc_c c_Lcell hr (by decide) rfl pass0 (pa_cons (pv 0) (pa_cons pe_int pa_nil))) pa_nil)))
      (pss_cons (ps_set (i := 2) sc_law.nd rfl (Or.inl rfl) (pe_ix ix_list (pe_lst (pa_cons pe_int (pa_cons pe_int (pa_cons pe_int (pa_cons pe_int pa_nil))))) (pc_c c_Ltake hr (by decide) rfl pass0 (pa_cons (pv 1) (pa_cons pe_int pa_nil))) (fun _ _ => rfl)))
      (C8.pss_cut (ps_if (pt_cmpR op_eq (pc_c c_Ltake hr (by decide) rfl pass0 (pa_cons (pv 1) (pa_cons pe_int pa_nil))) pe_int (nomark _)) (pss_one (ps_set (i := 2) sc_law.nd rfl (Or.inl rfl) (pc_c c_Ltake hr (by decide) rfl pass0 (pa_cons (pv 1) (pa_cons pe_int pa_nil))))) pss_nil)
      (pss_cons (ps_set (i := 3) sc_law.nd rfl (Or.inr rfl) (pc_c c_Lnumbers hr (by decide) rfl pass0 (pa_cons (pv 1) (pa_cons (pv 2) pa_nil))))
      (C8.pss_cut (ps_if (PW.pt (pw_and (pt_cmpR op_gt (pv 2) pe_int (nomark _)) (pw_and1 (pt_cmpR op_eq (pc_c c_Ltake hr (by decide) rfl pass0 (pa_cons (pv 1) (pa_cons pe_int pa_nil))) pe_int (nomark _))))) (pss_cons (ps_set (i := 4) sc_law.nd rfl (Or.inl rfl) (pc_c c_Ltake hr (by decide) rfl pass0 (pa_cons (pv 1) (pa_cons (pv 2) pa_nil))))
      (pss_one (ps_asg (pe_op op_sub (pe_op op_sub pe_int pe_int) (pc_c c_Ltake hr (by decide) rfl pass0 (pa_cons (pv 1) (pa_cons pe_int pa_nil)))) (pg_sub (pv 3) (pv 4) set_list)))) pss_nil)
      (C8.pss_cut (ps_set (i := 5) sc_law.nd rfl (Or.inl rfl) (pe_and (pe_cmpR op_in_seq (pv 2) (pe_lst (pa_cons pe_int (pa_cons pe_int (pa_cons pe_int (pa_cons pe_int pa_nil))))) (by rfl)) (pe_one (pe_cmpR op_eq (pe_callB call_len_seq (by rfl) T.n_len PySem.boot_len (pa_cons (pe_lc (own := [("_law_number", 15)]) (g := (gName 15)) rfl sc_law.nd (pi_list (pv 3)) (blkOk_by (own := [("_law_number", 15)]) (N := ["_law_script", "_law_pool_here", "_law_size", "_law_table", "_law_at", "_law_right", "_law_handed", "_law_told", "_law_again", "_law_second_here", "_law_other", "_law_total", "_law_turned", "_law_sums", "_law_k", "_law_number"]) (sc := defScope s_law) (by decide +kernel)) (fun _ _ _ _ _ => (pg_name (i := 15) sc_law.nd rfl (Or.inl rfl))) (fun _ _ _ _ _ => (pts_one (pt_cmpR op_lt (pv 15) pe_int (nomark _)))) (fun _ _ _ _ _ => (pv 15))) pa_nil)) pe_int (nomark _)))))
      (pss_cons (ps_set (i := 6) sc_law.nd rfl (Or.inl rfl) (pe_callTy call_list_of (by rfl) T.n_list (by decide +kernel) (pa_cons (pv 3) pa_nil)))
      (pss_cons (ps_set (i := 7) sc_law.nd rfl (Or.inl rfl) (pc_c c_Lmade hr (by decide) rfl pass0 (pa_cons (pv 6) pa_nil)))
      (pss_cons (ps_set (i := 8) sc_law.nd rfl (Or.inl rfl) (pc_c c_Lmade hr (by decide) rfl pass0 (pa_cons (pe_callTy call_tuple_of (by rfl) T.n_tuple (by decide +kernel) (pa_cons (pv 3) pa_nil)) pa_nil)))
      (pss_cons (ps_if (pt_not (pt_val (pc_c c_Lsame hr (by decide) rfl pass0 (pa_cons (pv 6) (pa_cons (pv 3) pa_nil))))) (pss_one (ps_ret pe_bl)) pss_nil)
      (pss_cons (ps_if (pt_not (pt_val (pv 5))) (pss_one (ps_ret (pe_and (pe_cmpR op_isN (pv 7) pe_non (nomark _)) (pe_one (pe_cmpR op_isN (pv 8) pe_non (nomark _)))))) pss_nil)
      (pss_cons (ps_expr (pe_bm PySem.F.plainAttrs_list PySem.F.slot_list_append PySem.F.type_list_append mt_append (pv 6) (pa_cons pe_int pa_nil)))
      (pss_cons (ps_asg (pe_op op_add (pe_ix ix_list (pv 6) pe_int (fun _ _ => rfl)) pe_int) (pg_sub (pv 6) pe_int set_list))
      (pss_cons (ps_if (PW.pt (pw_or (pt_not (pt_val (pc_c c_Lreads hr (by decide) rfl pass0 (pa_cons (pv 7) (pa_cons (pv 3) pa_nil))))) (pw_or1 (pt_not (pt_val (pc_c c_Lreads hr (by decide) rfl pass0 (pa_cons (pv 8) (pa_cons (pv 3) pa_nil)))))))) (pss_one (ps_ret pe_bl)) pss_nil)
      (pss_cons (ps_set (i := 9) sc_law.nd rfl (Or.inr rfl) (pc_c c_Lsecond hr (by decide) rfl pass0 (pa_cons (pc_c c_Lpool hr (by decide) rfl pass0 (pa_cons (pc_c c_Lcell hr (by decide) rfl pass0 (pa_cons (pv 0) (pa_cons pe_int pa_nil))) pa_nil)) (pa_cons (pv 3) pa_nil))))
      (pss_cons (ps_set (i := 10) sc_law.nd rfl (Or.inl rfl) (pc_mk c_Claims hr (by decide) rfl passL (pa_cons (pe_callTy call_list_of (by rfl) T.n_list (by decide +kernel) (pa_cons (pv 9) pa_nil)) pa_nil)))
      (C8.pss_cut (ps_set (i := 11) sc_law.nd rfl (Or.inl rfl) (pc_c c_Ladded hr (by decide) rfl pass0 (pa_cons (pv 7) (pa_cons (pv 10) pa_nil))))
      (C8.pss_cut (ps_set (i := 12) sc_law.nd rfl (Or.inl rfl) (pc_c c_Ladded hr (by decide) rfl pass0 (pa_cons (pv 10) (pa_cons (pv 7) pa_nil))))
      (C8.pss_cut (ps_if (pt_cmpR op_eq (pe_callB call_len_seq (by rfl) T.n_len PySem.boot_len (pa_cons (pv 9) pa_nil)) (pv 2) (nomark _)) (pss_cons (ps_setLc (i := 13) (own := [("_law_k", 14)]) (g := (gName 14)) (tt := tYes) rfl sc_law.nd rfl rfl (sw_true rfl rfl rfl (by decide +kernel)) (pi_range1 (by rfl) T.n_range (pa_cons (pv 2) pa_nil)) (blkOk_by (own := [("_law_k", 14)]) (N := ["_law_script", "_law_pool_here", "_law_size", "_law_table", "_law_at", "_law_right", "_law_handed", "_law_told", "_law_again", "_law_second_here", "_law_other", "_law_total", "_law_turned", "_law_sums", "_law_k", "_law_number"]) (sc := defScope s_law) (by decide +kernel)) (fun _ _ _ _ _ => (pg_name (i := 14) sc_law.nd rfl (Or.inl rfl))) (fun _ _ _ _ _ => pts_nil) (fun _ _ _ _ _ => (pe_op op_add (pe_ix (show IxR _ (rIxL K) from ix_list) (pv 3) (pv 14) (fun _ _ => rfl)) (pe_ix (show IxR _ (rIxL K) from ix_list) (pv 9) (pv 14) (fun _ _ => rfl)))))
      (pss_one (ps_if (PW.pt (pw_or (pt_not (pt_val (pc_c c_Lreads hr (by decide) rfl pass0 (pa_cons (pv 11) (pa_cons (pv 13) pa_nil))))) (pw_or1 (pt_not (pt_val (pc_c c_Lreads hr (by decide) rfl pass0 (pa_cons (pv 12) (pa_cons (pv 13) pa_nil)))))))) (pss_one (ps_ret pe_bl)) pss_nil))) (pss_one (ps_if (PW.pt (pw_or (pt_cmpR op_notN (pv 11) pe_non (nomark _)) (pw_or1 (pt_cmpR op_notN (pv 12) pe_non (nomark _))))) (pss_one (ps_ret pe_bl)) pss_nil)))
      (pss_cons (ps_if (PW.pt (pw_or (pt_not (pt_val (pc_c c_Lsame hr (by decide) rfl pass0 (pa_cons (pe_cmpR (op_cmpO c_Claims_eq hr (by decide) pass0) (pv 7) (pv 10) (nomark _)) (pa_cons (pe_cmpR (op_eqLI (Room.units hr)) (pv 3) (pv 9) (nomark _)) pa_nil))))) (pw_or1 (pt_not (pt_val (pc_c c_Lsame hr (by decide) rfl pass0 (pa_cons (pe_cmpR (op_cmpO c_Claims_eq hr (by decide) pass0) (pv 10) (pv 7) (nomark _)) (pa_cons (pe_cmpR (op_eqLI (Room.units hr)) (pv 3) (pv 9) (nomark _)) pa_nil)))))))) (pss_one (ps_ret pe_bl)) pss_nil)
      (pss_one (ps_ret (pe_and (pc_c c_Lsame hr (by decide) rfl pass0 (pa_cons (pe_cmpR (op_cmpO c_Claims_eq hr (by decide) pass0) (pv 7) (pv 8) (nomark _)) (pa_cons pe_bl pa_nil))) (pe_and (pc_c c_Lreads hr (by decide) rfl pass0 (pa_cons (pv 7) (pa_cons (pv 3) pa_nil))) (pe_one (pc_c c_Lreads hr (by decide) rfl pass0 (pa_cons (pv 10) (pa_cons (pv 9) pa_nil)))))))))))))))))))))))))))), ?_⟩
    refine ⟨_, rfl, a, ss, 0, rfl, hS, fun c0 _ => ⟨c0, rfl, fun z0 Ha m0 u0 P0 => ?_⟩⟩
    refine ⟨(by show 4 ≤ sizeLine; decide), fun z hz => ?_⟩
    have sz := same_upd (o := .lst [.int 2, .int 4, .int 8, .int 16]) hz
    have nz := pool_ne P0 hz
    refine ⟨_, rfl, z0, 4, rfl, P0.same sz, by decide, by decide, fun H1 r1 k1 p1 a0 a1 => ?_⟩
    obtain ⟨tm, htm, etm⟩ := pick4 (a := 2) (b := 4) (c := 8) (d := 16) a0 a1
    refine ⟨z, _, _, _, rfl, rfl, SqL.of (k1 _ _ nz upd_same), htm, ?_⟩
    refine ⟨fun σ' H' => ∃ n : Nat, σ' = [some (.ref a), some (.ref z0), some (.int (n : Nat)), none, none, none, none, none, none, none, none, none, none, none, none, none] ∧ n ≤ 17 ∧ PoolAt H' z0 ∧ Kp z0 Ha H', ?_, ?_⟩
    · have kH : Kp z0 Ha H1 := (Kp.of sz).trans k1
      refine ⟨_, rfl, z0, 4, rfl, p1, by decide, by decide, fun H2 r2 k2 p2 _ _ => ⟨rfl, _, rfl, ite2 (fun _ => ?_) (fun _ => ?_)⟩⟩
      · refine ⟨_, rfl, z0, 18, rfl, p2, by decide, by decide, fun H3 r3 k3 p3 b0 b1 => ?_⟩
        refine ⟨r3.toNat, ?_, by omega, p3, kH.trans (k2.trans k3)⟩
        rw [Int.toNat_of_nonneg b0]
        rfl
      · refine ⟨tm.toNat, ?_, by omega, p2, kH.trans k2⟩
        rw [Int.toNat_of_nonneg (by omega)]
        rfl
    · rintro σ' J0 ⟨n, rfl, hn, pp, kJ⟩
      have sJ : Same H J0 := Kp.same u0 kJ m0
      refine ⟨_, rfl, _, rfl, z0, n, rfl, by omega, pp, fun J1 D ts0 k1 p1 hD0 hD hl0 hp0 => ?_⟩
      have nD := pool_ne pp hD0
      have hDH := none_of sJ hD0
      have sJ1 : Same H J1 := Kp.same u0 (kJ.trans k1) m0
      refine ⟨fun σ' H' => ∃ (v4 : Option V) (ns : List Int), σ' = [some (.ref a), some (.ref z0), some (.int (n : Nat)), some (.ref D), v4, none, none, none, none, none, none, none, none, none, none, none] ∧ ns.length = n ∧ H' D = some (.lst (ns.map V.int)) ∧ Same H H', ?_, ?_⟩
      · refine ⟨_, rfl, _, _, rfl, rfl, _, rfl, ite2 (fun h1 => ⟨_, rfl, z0, 4, rfl, p1, by decide, by decide, fun J2 r2 k2 p2 _ _ => ⟨rfl, _, rfl, ite2 (fun _ => ?_) (fun _ => ?_)⟩⟩) (fun h1 => ?_)⟩
        · simp only [decide_eq_true_eq] at h1
          refine ⟨_, rfl, _, rfl, z0, _, rfl, p2, by omega, by omega, fun J3 r3 k3 p3 b0 b1 => ?_⟩
          obtain ⟨k, rfl⟩ : ∃ k : Nat, r3 = (k : Int) := ⟨r3.toNat, (Int.toNat_of_nonneg b0).symm⟩
          refine ⟨_, _, rfl, rfl, _, rfl, z0, 20, rfl, p3, by decide, by decide, fun J4 r4 k4 p4 _ _ => ⟨_, _, rfl, rfl, ?_⟩⟩
          have k14 := (k2.trans k3).trans k4
          have hD4 := k14 _ _ nD hD
          refine ⟨_, rfl, _, rfl, D, _, _, k, rfl, rfl, hD4, ixN_nat (by rw [List.length_map]; omega), ?_⟩
          exact ⟨_, ts0.set k (0 - 1 - r4), rfl, by rw [List.length_set]; exact hl0, by rw [upd_same, List.map_set], same_app (Kp.same u0 ((kJ.trans k1).trans k14) m0) hDH⟩
        · exact ⟨_, ts0, rfl, hl0, k2 _ _ nD hD, Kp.same u0 ((kJ.trans k1).trans k2) m0⟩
        · exact ⟨_, ts0, rfl, hl0, hD, sJ1⟩
      · clear hD hl0 hp0 p1 k1 sJ1 pp kJ sJ hD0
        rintro σ' J2 ⟨v4, ns, rfl, hln, hD, sH⟩
        subst hln
        have hml : (ns.map V.int).length = ns.length := List.length_map ..
        refine ⟨fun σ' H' => σ' = [some (.ref a), some (.ref z0), some (.int (ns.length : Nat)), some (.ref D), v4, some (.bl (decide (Tab ns))), none, none, none, none, none, none, none, none, none, none] ∧ H' D = some (.lst (ns.map V.int)) ∧ Same H H', ?_, ?_⟩
        · refine ⟨_, rfl, (by show 4 ≤ sizeLine; decide), fun z hz => ?_⟩
          have s1 := same_upd (o := .lst [.int 2, .int 4, .int 8, .int 16]) hz
          refine ⟨z, _, rfl, .inl (SqL.of upd_same), rfl, rfl, _, rfl, ?_⟩
          change (if inV (.int (ns.length : Nat)) [V.int 2, V.int 4, V.int 8, V.int 16] = true then _ else _)
          rw [in_sizes]
          by_cases hk : LenOk ns.length
          · rw [decide_eq_true hk]
            refine iteT ?_
            have hD1 := s1 _ _ hD
            refine ⟨_, rfl, D, rfl, ⟨_, SqL.of hD1⟩, fun B hB => lc_list (K := K) (a := D) (xs := ns.map V.int) (fun i H' => Same (upd J2 z (.lst [.int 2, .int 4, .int 8, .int 16])) H' ∧ H' B = some (.lst (((ns.take i).filter fun n => decide (n < 0)).map V.int)))
              ⟨same_upd hB, upd_same⟩ (fun i H' _ ⟨s2, _⟩ => SqL.of (s2 _ _ hD1)) ?_ ?_⟩
            · rintro i y H' hy ⟨s2, hB1⟩
              obtain ⟨w, hw, rfl⟩ := int_at hy
              have e : (ns.take (i + 1)).filter (fun n => decide (n < 0)) = (ns.take i).filter (fun n => decide (n < 0)) ++ (if decide (w < 0) = true then [w] else []) := by
                rw [← take_snoc hw, List.filter_append, List.filter_cons]
                rfl
              refine ⟨rfl, _, rfl, _, _, rfl, rfl, _, rfl, ite2 (fun hc => ?_) (fun hc => ?_)⟩
              · refine ⟨_, rfl, _, hB1, small1000 (by rw [List.length_map]; exact Nat.le_trans (List.length_filter_le ..) (by rw [List.length_take]; omega)), same_app s2 hB, ?_⟩
                rw [upd_same, e, if_pos hc, List.map_append]
                rfl
              · refine ⟨s2, ?_⟩
                rw [e, if_neg hc, List.append_nil]
                exact hB1
            · rintro H' ⟨s2, hB1⟩
              rw [hml, List.take_length] at hB1
              refine ⟨B, _, rfl, .inl (SqL.of hB1), rfl, ?_⟩
              have e : decide (V.int ((((ns.filter fun n => decide (n < 0)).map V.int).length : Nat) : Int) = V.int 0) = decide (Tab ns) := by
                rw [List.length_map, Bool.eq_iff_iff, decide_eq_true_iff, decide_eq_true_iff]
                constructor
                · intro h
                  have := V.int.inj h
                  exact ⟨hk, (neg_none ns).mp (by omega)⟩
                · intro h
                  rw [(neg_none ns).mpr h.2]
                  rfl
              rw [e]
              exact ⟨rfl, s2 _ _ hD1, (sH.trans s1).trans s2⟩
          · rw [decide_eq_false hk]
            refine iteF ?_
            rw [← decide_eq_false (show ¬ Tab ns from fun h => hk h.1)]
            exact ⟨rfl, s1 _ _ hD, sH.trans s1⟩
        · clear hD sH
          rintro σ' J3 ⟨rfl, hD, sH⟩
          have kT : ∀ {x : V}, flatD x = true → SameV K J3 1 x x := fun h => SameV.flat h
          refine ⟨_, rfl, D, _, rfl, .inl (SqL.of hD), fun h hh => ?_⟩
          have s1 := same_upd (o := .lst (ns.map V.int)) hh
          have nDh : D ≠ h := ne_of_none hD hh
          have hhH := none_of sH hh
          have hh1 := upd_same (H := J3) (a := h) (o := .lst (ns.map V.int))
          have hD1 := s1 _ _ hD
          have sH1 := sH.trans s1
          generalize upd J3 h (.lst (ns.map V.int)) = J4 at *
          refine ⟨_, rfl, h, false, ns, rfl, SqL.of hh1, by omega, ?_⟩
          by_cases ht : Tab ns
          · refine .inl ⟨ht, fun J5 r s2 hr0 hr => ?_⟩
            refine ⟨_, rfl, D, _, rfl, .inl ⟨SqL.of (s2 _ _ hD1), fun u hu => ?_⟩⟩
            have s3 := s2.trans (same_upd (o := .tup (ns.map V.int)) hu)
            have hr3 := hr.same (same_upd (o := .tup (ns.map V.int)) hu)
            refine ⟨u, true, ns, rfl, SqT.of upd_same, by omega, .inl ⟨ht, fun J6 r' s4' hr0' hr' => ?_⟩⟩
            have s4 := s3.trans s4'
            have hr4 := hr3.same s4'
            have hh4 := s4 _ _ hh1
            have hD4 := s4 _ _ hD1
            refine ⟨_, rfl, _, rfl, _, _, rfl, same_ints (SqL.of hh4) (SqL.of hD4) (by omega), true, rfl, iteF ?_⟩
            refine ⟨_, rfl, _, rfl, ?_⟩
            rw [decide_eq_true ht]
            refine iteF ?_
            refine ⟨_, rfl, .inl ⟨rfl, _, SqL.of hh4⟩, h, _, _, rfl, rfl, hh4, small1000 (by omega), ?_⟩
            obtain ⟨y0, ys, ey⟩ : ∃ y0 ys, ns = y0 :: ys := by
              cases ns with
              | nil => exact absurd ht.1 (by unfold LenOk; decide)
              | cons y0 ys => exact ⟨y0, ys, rfl⟩
            have k1 : Kp h J6 (upd J6 h (.lst (ns.map V.int ++ [V.int 3]))) := Kp.upd
            refine ⟨_, rfl, h, _, _, _, rfl, rfl, SqL.of upd_same, (by rw [ey]; exact (show atI _ ((0 : Nat) : Int) = some (V.int y0) from atI_nat rfl)), _, _, rfl, rfl, _, rfl, h, _, _, 0, rfl, rfl, upd_same, (show ixN _ ((0 : Nat) : Int) = some 0 from ixN_nat (by rw [List.length_append]; show 0 < _ + 1; omega)), ?_⟩
            have k2 := k1.trans (Kp.upd (p := h) (H := upd J6 h (.lst (ns.map V.int ++ [V.int 3]))) (o := .lst ((ns.map V.int ++ [V.int 3]).set 0 (V.int (y0 + 1)))))
            have hrA := hr4.lst k2 hh4
            have hrB := hr'.lst k2 hh4
            have hDA := k2 _ _ nDh hD4
            have sHA : Same H (upd (upd J6 h (.lst (ns.map V.int ++ [V.int 3]))) h (.lst ((ns.map V.int ++ [V.int 3]).set 0 (V.int (y0 + 1))))) := same_app (same_app (sH1.trans s4) hhH) hhH
            have eG : upd (upd J6 h (.lst (ns.map V.int ++ [V.int 3]))) h (.lst ((ns.map V.int ++ [V.int 3]).set 0 ((fun i j : Int => V.int (i + j)) y0 1))) = upd (upd J6 h (.lst (ns.map V.int ++ [V.int 3]))) h (.lst ((ns.map V.int ++ [V.int 3]).set 0 (V.int (y0 + 1)))) := rfl
            rw [eG]
            generalize upd (upd J6 h (.lst (ns.map V.int ++ [V.int 3]))) h (.lst ((ns.map V.int ++ [V.int 3]).set 0 (V.int (y0 + 1)))) = G at *
            clear k1 k2 hh4 hD4 hr4 s4 s4' s3 hr3 s2 hD1 hh1 sH1 s1
            refine ⟨_, rfl, _, rfl, r, D, ns, rfl, hrA, SqL.of hDA, ht.1, fun G1 s1 => ⟨true, rfl, iteF ?_⟩⟩
            refine ⟨_, rfl, _, rfl, r', D, ns, rfl, hrB.same s1, SqL.of (s1 _ _ hDA), ht.1, fun G2 s2 => ⟨true, rfl, iteF ?_⟩⟩
            have s12 := s1.trans s2
            refine ⟨_, rfl, a, ss, 1, rfl, Same.seq (sHA.trans s12) hS, fun c1 _ => ⟨c1, rfl, fun z1 G3 m1 u1 P1 => ?_⟩⟩
            have hD2 := s12 _ _ hDA
            refine ⟨_, rfl, z1, D, ns, rfl, P1, ne_of_none hD2 m1, u1 _ _ hD2, ht, fun G4 se ts k4 hse0 hse htt => ?_⟩
            have s4 : Same G G4 := s12.trans (Kp.same u1 k4 m1)
            have hD4 := s4 _ _ hDA
            have hr4 := hrA.same s4
            have hr4' := hrB.same s4
            refine ⟨_, rfl, se, _, rfl, .inl (SqL.of hse), fun l hl => ?_⟩
            have e0 := same_upd (o := .lst (ts.map V.int)) hl
            intro r2 d2 nr nd ne
            have f0 : Same (upd G4 l (.lst (ts.map V.int))) (upd (upd (upd G4 l (.lst (ts.map V.int))) d2 (.own r2)) r2 (.ins C_Claims d2 [])) := mk_same nr nd (Kp.refl)
            have t16 := htt.1.le
            refine ⟨r2, d2, l, false, ts, rfl, upd_same, SqL.of (f0 _ _ upd_same), by rw [List.length_map] at *; omega, .inl ⟨htt, fun G5 kG hr2 => ⟨rfl, ?_⟩⟩⟩
            have s5 : Same G4 G5 := e0.trans (mk_same nr nd kG)
            have hD5 := s5 _ _ hD4
            have hse5 := s5 _ _ hse
            have hr5 := hr4.same s5
            have hr5' := hr4'.same s5
            refine ⟨fun σ' H' => ∃ v : V, σ' = [some (.ref a), some (.ref z0), some (.int (ns.length : Nat)), some (.ref D), v4, some (.bl true), some (.ref h), some (.ref r), some (.ref r'), some (.ref se), some (.ref r2), some v, none, none, none, none] ∧ Same G5 H' ∧ ((ns.length = ts.length ∧ ∃ q, v = .ref q ∧ ClmS K C_Claims H' q (adds ns ts)) ∨ (¬ ns.length = ts.length ∧ v = .non)), ?_, ?_⟩
            · refine ⟨_, rfl, _, rfl, r, r2, ns, ts, rfl, hr5, hr2, ht, htt, ?_⟩
              by_cases he : ns.length = ts.length
              · exact .inl ⟨he, fun G6 q s6 _ hq => ⟨_, rfl, s6, .inl ⟨he, q, rfl, hq⟩⟩⟩
              · exact .inr ⟨he, fun G6 s6 => ⟨_, rfl, s6, .inr ⟨he, rfl⟩⟩⟩
            · rintro σ' G6 ⟨v11, rfl, s6, h11⟩
              refine ⟨fun σ' H' => ∃ v : V, σ' = [some (.ref a), some (.ref z0), some (.int (ns.length : Nat)), some (.ref D), v4, some (.bl true), some (.ref h), some (.ref r), some (.ref r'), some (.ref se), some (.ref r2), some v11, some v, none, none, none] ∧ Same G6 H' ∧ ((ns.length = ts.length ∧ ∃ q, v = .ref q ∧ ClmS K C_Claims H' q (adds ns ts)) ∨ (¬ ns.length = ts.length ∧ v = .non)), ?_, ?_⟩
              · refine ⟨_, rfl, _, rfl, r2, r, ts, ns, rfl, hr2.same s6, hr5.same s6, htt, ht, ?_⟩
                by_cases he : ns.length = ts.length
                · exact .inl ⟨he.symm, fun G7 q s7 _ hq => ⟨_, rfl, s7, .inl ⟨he, q, rfl, by rw [← adds_comm he]; exact hq⟩⟩⟩
                · exact .inr ⟨fun z => he z.symm, fun G7 s7 => ⟨_, rfl, s7, .inr ⟨he, rfl⟩⟩⟩
              · rintro σ' G7 ⟨v12, rfl, s7, h12⟩
                have s57 := s6.trans s7
                refine ⟨fun σ' H' => ∃ v13 v14 : Option V, σ' = [some (.ref a), some (.ref z0), some (.int (ns.length : Nat)), some (.ref D), v4, some (.bl true), some (.ref h), some (.ref r), some (.ref r'), some (.ref se), some (.ref r2), some v11, some v12, v13, v14, none] ∧ Same G7 H', ?_, ?_⟩
                · refine ⟨_, rfl, se, _, rfl, .inl (SqL.of (s57 _ _ hse5)), _, rfl, rfl, _, rfl, ?_⟩
                  rw [List.length_map]
                  by_cases he : ns.length = ts.length
                  · rw [decide_eq_true (show V.int ((ts.length : Nat) : Int) = V.int ((ns.length : Nat) : Int) by rw [he])]
                    refine iteT ?_
                    obtain ⟨_, q1, rfl, hq1⟩ | ⟨z, _⟩ := h11
                    · obtain ⟨_, q2, rfl, hq2⟩ | ⟨z, _⟩ := h12
                      · have hq1' := hq1.same s7
                        refine ⟨_, rfl, _, rfl, by omega, by omega, fun B hB => lc_range (lo := 0) (n := ((ns.length : Nat) : Int).toNat) (fun i H' => Same G7 H' ∧ H' B = some (.lst (((adds ns ts).take i).map V.int)))
                          ⟨same_upd hB, upd_same⟩ ?_ ?_⟩
                        · rintro i H' hi ⟨sB, hB1⟩
                          have hi1 : i < ns.length := by omega
                          have g1 := int_get hi1
                          have g2 := int_get (ns := ts) (i := i) (by omega)
                          rw [show ((i : Nat) : Int) = 0 + ((i : Nat) : Int) by omega] at g1 g2
                          have e : (adds ns ts)[i]? = some (ns.getD i 0 + ts.getD i 0) := by
                            unfold adds
                            rw [List.getElem?_map, List.getElem?_range hi1]
                            rfl
                          refine ⟨rfl, tyes ?_⟩
                          refine ⟨_, rfl, _, rfl, D, _, _, _, rfl, rfl, SqL.of (sB _ _ (s57 _ _ hD5)), g1, _, rfl, _, rfl, se, _, _, _, rfl, rfl, SqL.of (sB _ _ (s57 _ _ hse5)), g2, _, _, rfl, rfl, ?_⟩
                          refine ⟨_, hB1, small1000 (by rw [List.length_map, List.length_take, adds_len]; omega), same_app sB hB, ?_⟩
                          rw [upd_same, ← take_snoc e, List.map_append]
                          rfl
                        · rintro H' ⟨sB, hB1⟩
                          rw [show ((ns.length : Nat) : Int).toNat = (adds ns ts).length by rw [adds_len]; omega, List.take_length] at hB1
                          have ok : LenOk (adds ns ts).length := by rw [adds_len]; exact ht.1
                          refine ⟨_, rfl, _, rfl, q1, B, _, rfl, hq1'.same sB, SqL.of hB1, ok, fun G8 s8 => ⟨true, rfl, iteF ?_⟩⟩
                          refine ⟨_, rfl, _, rfl, q2, B, _, rfl, hq2.same (sB.trans s8), SqL.of (s8 _ _ hB1), ok, fun G9 s9 => ⟨true, rfl, iteF ?_⟩⟩
                          exact ⟨_, _, rfl, (sB.trans s8).trans s9⟩
                      · exact absurd he z
                    · exact absurd he z
                  · rw [decide_eq_false (show ¬ V.int ((ts.length : Nat) : Int) = V.int ((ns.length : Nat) : Int) from fun z => he (by have := V.int.inj z; omega))]
                    refine iteF ?_
                    obtain ⟨z, _⟩ | ⟨_, rfl⟩ := h11
                    · exact absurd z he
                    · obtain ⟨z, _⟩ | ⟨_, rfl⟩ := h12
                      · exact absurd z he
                      · exact ⟨_, rfl, rfl, _, rfl, iteNe rfl ⟨_, rfl, rfl, _, rfl, iteNe rfl ⟨_, _, rfl, Same.of _⟩⟩⟩
                · rintro σ' G8 ⟨v13, v14, rfl, s8⟩
                  have s58 := s57.trans s8
                  have hr8 := hr5.same s58
                  have hr8' := hr5'.same s58
                  have hr28 := hr2.same s58
                  have hD8 := s58 _ _ hD5
                  have hse8 := s58 _ _ hse5
                  obtain ⟨dx, tp, e1, _⟩ := id hr8
                  obtain ⟨dy, tq, e2, _⟩ := id hr28
                  obtain ⟨dz, tr, e3, _⟩ := id hr8'
                  refine ⟨_, rfl, _, rfl, r, r2, dx, dy, _, _, rfl, rfl, e1, e2, r, r2, ns, ts, rfl, hr8, hr28, ?_⟩
                  refine ⟨_, rfl, _, rfl, D, se, ns, ts, rfl, rfl, SqL.of hD8, SqL.of hse8, _, _, rfl, SameV.flat rfl, true, rfl, iteF ?_⟩
                  refine ⟨_, rfl, _, rfl, r2, r, dy, dx, _, _, rfl, rfl, e2, e1, r2, r, ts, ns, rfl, hr28, hr8, ?_⟩
                  refine ⟨_, rfl, _, rfl, D, se, ns, ts, rfl, rfl, SqL.of hD8, SqL.of hse8, _, _, rfl, (by rw [show decide (ts = ns) = decide (ns = ts) by rw [Bool.eq_iff_iff, decide_eq_true_iff, decide_eq_true_iff]; exact eq_comm]; exact SameV.flat rfl), true, rfl, iteF ?_⟩
                  refine ⟨_, rfl, _, rfl, r, r', dx, dz, _, _, rfl, rfl, e1, e3, r, r', ns, ns, rfl, hr8, hr8', ?_⟩
                  refine ⟨_, _, rfl, (by rw [decide_eq_true rfl]; exact SameV.flat rfl), true, rfl, iteT ?_⟩
                  refine ⟨_, rfl, _, rfl, r, D, ns, rfl, hr8, SqL.of hD8, ht.1, fun G9 s9 => ⟨true, rfl, iteT ?_⟩⟩
                  exact ⟨_, rfl, _, rfl, r2, se, ts, rfl, hr28.same s9, SqL.of (s9 _ _ hse8), htt.1, fun G10 _ => q _⟩
          · refine .inr ⟨ht, fun J5 s2 => ?_⟩
            refine ⟨_, rfl, D, _, rfl, .inl ⟨SqL.of (s2 _ _ hD1), fun u hu => ?_⟩⟩
            have s3 := s2.trans (same_upd (o := .tup (ns.map V.int)) hu)
            refine ⟨u, true, ns, rfl, SqT.of upd_same, by omega, .inr ⟨ht, fun J6 s4' => ?_⟩⟩
            have s4 := s3.trans s4'
            refine ⟨_, rfl, _, rfl, _, _, rfl, same_ints (SqL.of (s4 _ _ hh1)) (SqL.of (s4 _ _ hD1)) (by omega), true, rfl, iteF ?_⟩
            refine ⟨_, rfl, _, rfl, ?_⟩
            rw [decide_eq_false ht]
            refine iteT ?_
            refine ⟨_, rfl, rfl, true, rfl, iteT ⟨_, rfl, rfl, ?_⟩⟩
            rw [decide_eq_true rfl]
            exact q _
end
theorem all_mk {l : PySem.W.OpenLaw} {w : World} {K : PySem.W.Frag} {h : Heap} {mg : Str → Option Value} {fa C_Claims C_BadClaims A_SPANS : Addr} {ukSPANS0 uvSPANS0 ukSPANS1 uvSPANS1 ukSPANS2 uvSPANS2 ukSPANS3 uvSPANS3 : Tok} {nSPANS : Nat} {f_Claims_init : Addr} {od_Claims_init an_Claims_init : Option Addr} {sl_Claims_init : Array (Option Value)} {oc_Claims_init kV_Claims_init dc_Claims_init pm_Claims_init cd_Claims_init ct_Claims_init : Value} {f_Claims_span : Addr} {od_Claims_span an_Claims_span : Option Addr} {sl_Claims_span : Array (Option Value)} {oc_Claims_span kV_Claims_span dc_Claims_span pm_Claims_span cd_Claims_span ct_Claims_span : Value} {p_Claims_span : Addr} {rp_Claims_span : List Value} {f_Claims_len : Addr} {od_Claims_len an_Claims_len : Option Addr} {sl_Claims_len : Array (Option Value)} {oc_Claims_len kV_Claims_len dc_Claims_len pm_Claims_len cd_Claims_len ct_Claims_len : Value} {f_Claims_iter : Addr} {od_Claims_iter an_Claims_iter : Option Addr} {sl_Claims_iter : Array (Option Value)} {oc_Claims_iter kV_Claims_iter dc_Claims_iter pm_Claims_iter cd_Claims_iter ct_Claims_iter : Value} {f_Claims_getitem : Addr} {od_Claims_getitem an_Claims_getitem : Option Addr} {sl_Claims_getitem : Array (Option Value)} {oc_Claims_getitem kV_Claims_getitem dc_Claims_getitem pm_Claims_getitem cd_Claims_getitem ct_Claims_getitem : Value} {f_Claims_add : Addr} {od_Claims_add an_Claims_add : Option Addr} {sl_Claims_add : Array (Option Value)} {oc_Claims_add kV_Claims_add dc_Claims_add pm_Claims_add cd_Claims_add ct_Claims_add : Value} {f_Claims_eq : Addr} {od_Claims_eq an_Claims_eq : Option Addr} {sl_Claims_eq : Array (Option Value)} {oc_Claims_eq kV_Claims_eq dc_Claims_eq pm_Claims_eq cd_Claims_eq ct_Claims_eq : Value} {f_Lcell : Addr} {od_Lcell an_Lcell : Option Addr} {sl_Lcell : Array (Option Value)} {oc_Lcell kV_Lcell dc_Lcell pm_Lcell cd_Lcell ct_Lcell : Value} {f_Lpool : Addr} {od_Lpool an_Lpool : Option Addr} {sl_Lpool : Array (Option Value)} {oc_Lpool kV_Lpool dc_Lpool pm_Lpool cd_Lpool ct_Lpool : Value} {f_Ltake : Addr} {od_Ltake an_Ltake : Option Addr} {sl_Ltake : Array (Option Value)} {oc_Ltake kV_Ltake dc_Ltake pm_Ltake cd_Ltake ct_Ltake : Value} {f_Lsame : Addr} {od_Lsame an_Lsame : Option Addr} {sl_Lsame : Array (Option Value)} {oc_Lsame kV_Lsame dc_Lsame pm_Lsame cd_Lsame ct_Lsame : Value} {f_Lnumbers : Addr} {od_Lnumbers an_Lnumbers : Option Addr} {sl_Lnumbers : Array (Option Value)} {oc_Lnumbers kV_Lnumbers dc_Lnumbers pm_Lnumbers cd_Lnumbers ct_Lnumbers : Value} {f_Lsecond : Addr} {od_Lsecond an_Lsecond : Option Addr} {sl_Lsecond : Array (Option Value)} {oc_Lsecond kV_Lsecond dc_Lsecond pm_Lsecond cd_Lsecond ct_Lsecond : Value} {f_Lmade : Addr} {od_Lmade an_Lmade : Option Addr} {sl_Lmade : Array (Option Value)} {oc_Lmade kV_Lmade dc_Lmade pm_Lmade cd_Lmade ct_Lmade : Value} {f_Ladded : Addr} {od_Ladded an_Ladded : Option Addr} {sl_Ladded : Array (Option Value)} {oc_Ladded kV_Ladded dc_Ladded pm_Ladded cd_Ladded ct_Ladded : Value} {f_Lunknown : Addr} {od_Lunknown an_Lunknown : Option Addr} {sl_Lunknown : Array (Option Value)} {oc_Lunknown kV_Lunknown dc_Lunknown pm_Lunknown cd_Lunknown ct_Lunknown : Value} {f_Lreads : Addr} {od_Lreads an_Lreads : Option Addr} {sl_Lreads : Array (Option Value)} {oc_Lreads kV_Lreads dc_Lreads pm_Lreads cd_Lreads ct_Lreads : Value} {f_law : Addr} {od_law an_law : Option Addr} {sl_law : Array (Option Value)} {oc_law kV_law dc_law pm_law cd_law ct_law : Value}
    (X : K.In h) (G : h.Ns mainGlobals mg) (hfa : mg "law" = some (.ref fa))
    (g_Claims : PySem.W.nsIn K mainGlobals "Claims" = some (some (.ref C_Claims)))
    (pg_Claims : PySem.W.plainGet K C_Claims Str.empty = true)
    (hd_Claims : PySem.W.hasDictIn K C_Claims = true)
    (po_Claims : PySem.W.plainOver K C_Claims = true)
    (sa_Claims : PySem.W.findIn K (.ref C_Claims) "__setattr__" = some (some (.builtin "object.__setattr__")))
    (nf_Claims_table : PySem.W.findIn K (.ref C_Claims) "table" = some none)
    (ha_Claims : PySem.W.findIn K (.ref C_Claims) "__class__" = some (some (.builtin "object.__class__")))
    (hn_Claims : PySem.W.specialIn K (.builtin "object.__class__") "__get__" = some (some (.builtin "getset_descriptor.__get__")))
    (ht_Claims : PySem.W.takesIn K (.builtin "object.__class__") = some true)
    (hm_Claims : PySem.W.mroIn K C_Claims (.type "object") = some true)
    (me_Claims : PySem.W.kitOne K (.ref C_Claims) (.ref C_Claims) = some true)
    (g_BadClaims : PySem.W.nsIn K mainGlobals "BadClaims" = some (some (.ref C_BadClaims)))
    (x_BadClaims : PySem.W.excIn K C_BadClaims [.type "ValueError", .type "Exception", .type "BaseException", .type "object"] "ValueError.__new__" = true)
    (k_BadClaims : PySem.W.keepIn K (.ref C_BadClaims) = true)
    (b_BadClaims : PySem.W.subIn K (.ref C_BadClaims) (.type "BaseException") = some true)
    (t_BadClaims : PySem.W.typeIn K (.ref C_BadClaims) = some (.type "type"))
    (ic_BadClaims : PySem.W.isClsIn K C_BadClaims = true)
    (s_BadClaims : PySem.W.subIn K (.ref C_BadClaims) (.ref C_BadClaims) = some true)
    (eg_BadClaims : PySem.W.findIn K (.ref C_BadClaims) "__getattribute__" = some (some (.builtin "BaseException.__getattribute__")))
    (ek_BadClaims : PySem.W.findIn K (.ref C_BadClaims) "__getattr__" = some none)
    (ed_BadClaims : PySem.W.hasDictIn K C_BadClaims = true)
    (ea_BadClaims : PySem.W.findIn K (.ref C_BadClaims) "__class__" = some (some (.builtin "object.__class__")))
    (en_BadClaims : PySem.W.specialIn K (.builtin "object.__class__") "__get__" = some (some (.builtin "getset_descriptor.__get__")))
    (et_BadClaims : PySem.W.takesIn K (.builtin "object.__class__") = some true)
    (em_BadClaims : PySem.W.mroIn K C_BadClaims (.type "object") = some true)
    (c_SPANS : PySem.W.nsIn K mainGlobals "SPANS" = some (some (.ref A_SPANS)))
    (l_SPANS : K.lookup A_SPANS = some ⟨.type "dict", none, .dict #[⟨2, .int 2 ukSPANS0, .int 1 uvSPANS0⟩, ⟨4, .int 4 ukSPANS1, .int 2 uvSPANS1⟩, ⟨8, .int 8 ukSPANS2, .int 3 uvSPANS2⟩, ⟨16, .int 16 ukSPANS3, .int 4 uvSPANS3⟩] nSPANS, #[]⟩)
    (low_SPANS : (A_SPANS == sysModules) = false)
    (sf_Claims : PySem.W.selfFirst K C_Claims = true)
    (su_Claims : PySem.W.subIn K (.type "int") (.ref C_Claims) = some false)
    (us_Claims : PySem.W.subIn K (.ref C_Claims) (.type "int") = some false)
    (rn_Claims_add : PySem.W.findIn K (.ref C_Claims) "__radd__" = some none)
    (fi0_add : PySem.W.findIn K (.type "int") "__add__" = some (some (.builtin "int.__add__")))
    (fr0_add : PySem.W.findIn K (.type "int") "__radd__" = some (some (.builtin "int.__radd__")))
    (n_any : PySem.W.nsIn K mainGlobals "any" = some none)
    (n_len : PySem.W.nsIn K mainGlobals "len" = some none)
    (n_tuple : PySem.W.nsIn K mainGlobals "tuple" = some none)
    (n_iter : PySem.W.nsIn K mainGlobals "iter" = some none)
    (n_zip : PySem.W.nsIn K mainGlobals "zip" = some none)
    (n_isinstance : PySem.W.nsIn K mainGlobals "isinstance" = some none)
    (n_int : PySem.W.nsIn K mainGlobals "int" = some none)
    (n_abs : PySem.W.nsIn K mainGlobals "abs" = some none)
    (n_bool : PySem.W.nsIn K mainGlobals "bool" = some none)
    (n_str : PySem.W.nsIn K mainGlobals "str" = some none)
    (n_list : PySem.W.nsIn K mainGlobals "list" = some none)
    (n_range : PySem.W.nsIn K mainGlobals "range" = some none)
    (mk_Claims : PySem.W.makesIn K C_Claims = true)
    (mkk_Claims : PySem.W.keepIn K (.ref C_Claims) = true)
    (a_Claims_init : PySem.W.findIn K (.ref C_Claims) "__init__" = some (some (.ref f_Claims_init)))
    (j_Claims_init : PySem.W.isFn K (.ref f_Claims_init) = true)
    (l_Claims_init : K.lookup f_Claims_init = some ⟨oc_Claims_init, od_Claims_init, .func (PySem.W.fnOf "__init__" "Claims.__init__" (defArgs s_Claims_init) (defBody s_Claims_init) (defScope s_Claims_init) .none kV_Claims_init dc_Claims_init pm_Claims_init an_Claims_init cd_Claims_init ct_Claims_init), sl_Claims_init⟩)
    (q_Claims_init : PySem.W.codeIn K cd_Claims_init "Claims.__init__" = true)
    (k_Claims_init : PySem.W.keepIn K (.ref f_Claims_init) = true)
    (pa_Claims_span : PySem.W.findIn K (.ref C_Claims) "span" = some (some (.ref p_Claims_span)))
    (pgt_Claims_span : PySem.W.specialIn K (.ref p_Claims_span) "__get__" = some (some (.builtin "property.__get__")))
    (ptk_Claims_span : PySem.W.takesIn K (.ref p_Claims_span) = some true)
    (prc_Claims_span : PySem.W.recIn K p_Claims_span "property" = some (.ref f_Claims_span :: rp_Claims_span))
    (l_Claims_span : K.lookup f_Claims_span = some ⟨oc_Claims_span, od_Claims_span, .func (PySem.W.fnOf "span" "Claims.span" (defArgs s_Claims_span) (defBody s_Claims_span) (defScope s_Claims_span) .none kV_Claims_span dc_Claims_span pm_Claims_span an_Claims_span cd_Claims_span ct_Claims_span), sl_Claims_span⟩)
    (q_Claims_span : PySem.W.codeIn K cd_Claims_span "Claims.span" = true)
    (k_Claims_span : PySem.W.keepIn K (.ref f_Claims_span) = true)
    (a_Claims_len : PySem.W.findIn K (.ref C_Claims) "__len__" = some (some (.ref f_Claims_len)))
    (j_Claims_len : PySem.W.isFn K (.ref f_Claims_len) = true)
    (l_Claims_len : K.lookup f_Claims_len = some ⟨oc_Claims_len, od_Claims_len, .func (PySem.W.fnOf "__len__" "Claims.__len__" (defArgs s_Claims_len) (defBody s_Claims_len) (defScope s_Claims_len) .none kV_Claims_len dc_Claims_len pm_Claims_len an_Claims_len cd_Claims_len ct_Claims_len), sl_Claims_len⟩)
    (q_Claims_len : PySem.W.codeIn K cd_Claims_len "Claims.__len__" = true)
    (k_Claims_len : PySem.W.keepIn K (.ref f_Claims_len) = true)
    (a_Claims_iter : PySem.W.findIn K (.ref C_Claims) "__iter__" = some (some (.ref f_Claims_iter)))
    (j_Claims_iter : PySem.W.isFn K (.ref f_Claims_iter) = true)
    (l_Claims_iter : K.lookup f_Claims_iter = some ⟨oc_Claims_iter, od_Claims_iter, .func (PySem.W.fnOf "__iter__" "Claims.__iter__" (defArgs s_Claims_iter) (defBody s_Claims_iter) (defScope s_Claims_iter) .none kV_Claims_iter dc_Claims_iter pm_Claims_iter an_Claims_iter cd_Claims_iter ct_Claims_iter), sl_Claims_iter⟩)
    (q_Claims_iter : PySem.W.codeIn K cd_Claims_iter "Claims.__iter__" = true)
    (k_Claims_iter : PySem.W.keepIn K (.ref f_Claims_iter) = true)
    (a_Claims_getitem : PySem.W.findIn K (.ref C_Claims) "__getitem__" = some (some (.ref f_Claims_getitem)))
    (j_Claims_getitem : PySem.W.isFn K (.ref f_Claims_getitem) = true)
    (l_Claims_getitem : K.lookup f_Claims_getitem = some ⟨oc_Claims_getitem, od_Claims_getitem, .func (PySem.W.fnOf "__getitem__" "Claims.__getitem__" (defArgs s_Claims_getitem) (defBody s_Claims_getitem) (defScope s_Claims_getitem) .none kV_Claims_getitem dc_Claims_getitem pm_Claims_getitem an_Claims_getitem cd_Claims_getitem ct_Claims_getitem), sl_Claims_getitem⟩)
    (q_Claims_getitem : PySem.W.codeIn K cd_Claims_getitem "Claims.__getitem__" = true)
    (k_Claims_getitem : PySem.W.keepIn K (.ref f_Claims_getitem) = true)
    (a_Claims_add : PySem.W.findIn K (.ref C_Claims) "__add__" = some (some (.ref f_Claims_add)))
    (j_Claims_add : PySem.W.isFn K (.ref f_Claims_add) = true)
    (l_Claims_add : K.lookup f_Claims_add = some ⟨oc_Claims_add, od_Claims_add, .func (PySem.W.fnOf "__add__" "Claims.__add__" (defArgs s_Claims_add) (defBody s_Claims_add) (defScope s_Claims_add) .none kV_Claims_add dc_Claims_add pm_Claims_add an_Claims_add cd_Claims_add ct_Claims_add), sl_Claims_add⟩)
    (q_Claims_add : PySem.W.codeIn K cd_Claims_add "Claims.__add__" = true)
    (k_Claims_add : PySem.W.keepIn K (.ref f_Claims_add) = true)
    (a_Claims_eq : PySem.W.findIn K (.ref C_Claims) "__eq__" = some (some (.ref f_Claims_eq)))
    (j_Claims_eq : PySem.W.isFn K (.ref f_Claims_eq) = true)
    (l_Claims_eq : K.lookup f_Claims_eq = some ⟨oc_Claims_eq, od_Claims_eq, .func (PySem.W.fnOf "__eq__" "Claims.__eq__" (defArgs s_Claims_eq) (defBody s_Claims_eq) (defScope s_Claims_eq) .none kV_Claims_eq dc_Claims_eq pm_Claims_eq an_Claims_eq cd_Claims_eq ct_Claims_eq), sl_Claims_eq⟩)
    (q_Claims_eq : PySem.W.codeIn K cd_Claims_eq "Claims.__eq__" = true)
    (k_Claims_eq : PySem.W.keepIn K (.ref f_Claims_eq) = true)
    (a_Lcell : PySem.W.nsIn K mainGlobals "_law_cell" = some (some (.ref f_Lcell)))
    (l_Lcell : K.lookup f_Lcell = some ⟨oc_Lcell, od_Lcell, .func (PySem.W.fnOf "_law_cell" "_law_cell" (defArgs s_Lcell) (defBody s_Lcell) (defScope s_Lcell) .none kV_Lcell dc_Lcell pm_Lcell an_Lcell cd_Lcell ct_Lcell), sl_Lcell⟩)
    (q_Lcell : PySem.W.codeIn K cd_Lcell "_law_cell" = true)
    (k_Lcell : PySem.W.keepIn K (.ref f_Lcell) = true)
    (a_Lpool : PySem.W.nsIn K mainGlobals "_law_pool" = some (some (.ref f_Lpool)))
    (l_Lpool : K.lookup f_Lpool = some ⟨oc_Lpool, od_Lpool, .func (PySem.W.fnOf "_law_pool" "_law_pool" (defArgs s_Lpool) (defBody s_Lpool) (defScope s_Lpool) .none kV_Lpool dc_Lpool pm_Lpool an_Lpool cd_Lpool ct_Lpool), sl_Lpool⟩)
    (q_Lpool : PySem.W.codeIn K cd_Lpool "_law_pool" = true)
    (k_Lpool : PySem.W.keepIn K (.ref f_Lpool) = true)
    (a_Ltake : PySem.W.nsIn K mainGlobals "_law_take" = some (some (.ref f_Ltake)))
    (l_Ltake : K.lookup f_Ltake = some ⟨oc_Ltake, od_Ltake, .func (PySem.W.fnOf "_law_take" "_law_take" (defArgs s_Ltake) (defBody s_Ltake) (defScope s_Ltake) .none kV_Ltake dc_Ltake pm_Ltake an_Ltake cd_Ltake ct_Ltake), sl_Ltake⟩)
    (q_Ltake : PySem.W.codeIn K cd_Ltake "_law_take" = true)
    (k_Ltake : PySem.W.keepIn K (.ref f_Ltake) = true)
    (a_Lsame : PySem.W.nsIn K mainGlobals "_law_same" = some (some (.ref f_Lsame)))
    (l_Lsame : K.lookup f_Lsame = some ⟨oc_Lsame, od_Lsame, .func (PySem.W.fnOf "_law_same" "_law_same" (defArgs s_Lsame) (defBody s_Lsame) (defScope s_Lsame) .none kV_Lsame dc_Lsame pm_Lsame an_Lsame cd_Lsame ct_Lsame), sl_Lsame⟩)
    (q_Lsame : PySem.W.codeIn K cd_Lsame "_law_same" = true)
    (k_Lsame : PySem.W.keepIn K (.ref f_Lsame) = true)
    (a_Lnumbers : PySem.W.nsIn K mainGlobals "_law_numbers" = some (some (.ref f_Lnumbers)))
    (l_Lnumbers : K.lookup f_Lnumbers = some ⟨oc_Lnumbers, od_Lnumbers, .func (PySem.W.fnOf "_law_numbers" "_law_numbers" (defArgs s_Lnumbers) (defBody s_Lnumbers) (defScope s_Lnumbers) .none kV_Lnumbers dc_Lnumbers pm_Lnumbers an_Lnumbers cd_Lnumbers ct_Lnumbers), sl_Lnumbers⟩)
    (q_Lnumbers : PySem.W.codeIn K cd_Lnumbers "_law_numbers" = true)
    (k_Lnumbers : PySem.W.keepIn K (.ref f_Lnumbers) = true)
    (a_Lsecond : PySem.W.nsIn K mainGlobals "_law_second" = some (some (.ref f_Lsecond)))
    (l_Lsecond : K.lookup f_Lsecond = some ⟨oc_Lsecond, od_Lsecond, .func (PySem.W.fnOf "_law_second" "_law_second" (defArgs s_Lsecond) (defBody s_Lsecond) (defScope s_Lsecond) .none kV_Lsecond dc_Lsecond pm_Lsecond an_Lsecond cd_Lsecond ct_Lsecond), sl_Lsecond⟩)
    (q_Lsecond : PySem.W.codeIn K cd_Lsecond "_law_second" = true)
    (k_Lsecond : PySem.W.keepIn K (.ref f_Lsecond) = true)
    (a_Lmade : PySem.W.nsIn K mainGlobals "_law_made" = some (some (.ref f_Lmade)))
    (l_Lmade : K.lookup f_Lmade = some ⟨oc_Lmade, od_Lmade, .func (PySem.W.fnOf "_law_made" "_law_made" (defArgs s_Lmade) (defBody s_Lmade) (defScope s_Lmade) .none kV_Lmade dc_Lmade pm_Lmade an_Lmade cd_Lmade ct_Lmade), sl_Lmade⟩)
    (q_Lmade : PySem.W.codeIn K cd_Lmade "_law_made" = true)
    (k_Lmade : PySem.W.keepIn K (.ref f_Lmade) = true)
    (a_Ladded : PySem.W.nsIn K mainGlobals "_law_added" = some (some (.ref f_Ladded)))
    (l_Ladded : K.lookup f_Ladded = some ⟨oc_Ladded, od_Ladded, .func (PySem.W.fnOf "_law_added" "_law_added" (defArgs s_Ladded) (defBody s_Ladded) (defScope s_Ladded) .none kV_Ladded dc_Ladded pm_Ladded an_Ladded cd_Ladded ct_Ladded), sl_Ladded⟩)
    (q_Ladded : PySem.W.codeIn K cd_Ladded "_law_added" = true)
    (k_Ladded : PySem.W.keepIn K (.ref f_Ladded) = true)
    (a_Lunknown : PySem.W.nsIn K mainGlobals "_law_unknown" = some (some (.ref f_Lunknown)))
    (l_Lunknown : K.lookup f_Lunknown = some ⟨oc_Lunknown, od_Lunknown, .func (PySem.W.fnOf "_law_unknown" "_law_unknown" (defArgs s_Lunknown) (defBody s_Lunknown) (defScope s_Lunknown) .none kV_Lunknown dc_Lunknown pm_Lunknown an_Lunknown cd_Lunknown ct_Lunknown), sl_Lunknown⟩)
    (q_Lunknown : PySem.W.codeIn K cd_Lunknown "_law_unknown" = true)
    (k_Lunknown : PySem.W.keepIn K (.ref f_Lunknown) = true)
    (a_Lreads : PySem.W.nsIn K mainGlobals "_law_reads" = some (some (.ref f_Lreads)))
    (l_Lreads : K.lookup f_Lreads = some ⟨oc_Lreads, od_Lreads, .func (PySem.W.fnOf "_law_reads" "_law_reads" (defArgs s_Lreads) (defBody s_Lreads) (defScope s_Lreads) .none kV_Lreads dc_Lreads pm_Lreads an_Lreads cd_Lreads ct_Lreads), sl_Lreads⟩)
    (q_Lreads : PySem.W.codeIn K cd_Lreads "_law_reads" = true)
    (k_Lreads : PySem.W.keepIn K (.ref f_Lreads) = true)
    (a_law : PySem.W.nsIn K mainGlobals "law" = some (some (.ref f_law)))
    (l_law : K.lookup f_law = some ⟨oc_law, od_law, .func (PySem.W.fnOf "law" "law" (defArgs s_law) (defBody s_law) (defScope s_law) .none kV_law dc_law pm_law an_law cd_law ct_law), sl_law⟩)
    (q_law : PySem.W.codeIn K cd_law "law" = true)
    (k_law : PySem.W.keepIn K (.ref f_law) = true) :
    ∃ fd : FuncData, (∀ (s : Shared) (v : Value), BindsTo s fd ⟨[v], []⟩ [("_law_script", v)]) ∧ ∀ base : Heap, K.In base → base.Ns mainGlobals mg → FnOk l.prog w K mg base CX0 8 fa fd ["_law_script"] (sp_law K) := by
  have e := hfa.symm.trans (PySem.W.mg_of X G a_law)
  cases e
  have T : Txt l.prog w K mg C_Claims C_BadClaims A_SPANS := ⟨PySem.W.mg_of X G g_Claims, ⟨pg_Claims, hd_Claims, po_Claims, sa_Claims⟩, nf_Claims_table, ⟨⟨pg_Claims, hd_Claims, po_Claims, sa_Claims⟩, ha_Claims, hn_Claims, ht_Claims, hm_Claims, me_Claims⟩, PySem.W.mg_of X G g_BadClaims, x_BadClaims, k_BadClaims, b_BadClaims, t_BadClaims, ic_BadClaims, s_BadClaims, ⟨eg_BadClaims, ek_BadClaims, b_BadClaims, ed_BadClaims, ea_BadClaims, en_BadClaims, et_BadClaims, em_BadClaims⟩, PySem.W.mg_of X G c_SPANS, kdi_mk [((2, 1), (ukSPANS0, uvSPANS0)), ((4, 2), (ukSPANS1, uvSPANS1)), ((8, 3), (ukSPANS2, uvSPANS2)), ((16, 4), (ukSPANS3, uvSPANS3))] l_SPANS low_SPANS, sf_Claims, su_Claims, us_Claims, ⟨_, a_Claims_add⟩, rn_Claims_add, ⟨_, rn_Claims_add, .inl rfl⟩, fi0_add, ⟨_, fi0_add⟩, fr0_add, ⟨_, fr0_add⟩, PySem.W.mg_none_of X G n_any, PySem.W.mg_none_of X G n_len, PySem.W.mg_none_of X G n_tuple, PySem.W.mg_none_of X G n_iter, PySem.W.mg_none_of X G n_zip, PySem.W.mg_none_of X G n_isinstance, PySem.W.mg_none_of X G n_int, PySem.W.mg_none_of X G n_abs, PySem.W.mg_none_of X G n_bool, PySem.W.mg_none_of X G n_str, PySem.W.mg_none_of X G n_list, PySem.W.mg_none_of X G n_range⟩
  have F_Claims_init := fun_mk (st := s_Claims_init) l_Claims_init q_Claims_init k_Claims_init
  have b_Claims_init := F_Claims_init.binds (ps := ["self", "table"]) fun _ _ _ _ _ _ us hl => match us, hl with | [_, _], _ => rfl
  have F_Claims_span := fun_mk (st := s_Claims_span) l_Claims_span q_Claims_span k_Claims_span
  have b_Claims_span := F_Claims_span.binds (ps := ["self"]) fun _ _ _ _ _ _ us hl => match us, hl with | [_], _ => rfl
  have F_Claims_len := fun_mk (st := s_Claims_len) l_Claims_len q_Claims_len k_Claims_len
  have b_Claims_len := F_Claims_len.binds (ps := ["self"]) fun _ _ _ _ _ _ us hl => match us, hl with | [_], _ => rfl
  have F_Claims_iter := fun_mk (st := s_Claims_iter) l_Claims_iter q_Claims_iter k_Claims_iter
  have b_Claims_iter := F_Claims_iter.binds (ps := ["self"]) fun _ _ _ _ _ _ us hl => match us, hl with | [_], _ => rfl
  have F_Claims_getitem := fun_mk (st := s_Claims_getitem) l_Claims_getitem q_Claims_getitem k_Claims_getitem
  have b_Claims_getitem := F_Claims_getitem.binds (ps := ["self", "at"]) fun _ _ _ _ _ _ us hl => match us, hl with | [_, _], _ => rfl
  have F_Claims_add := fun_mk (st := s_Claims_add) l_Claims_add q_Claims_add k_Claims_add
  have b_Claims_add := F_Claims_add.binds (ps := ["self", "other"]) fun _ _ _ _ _ _ us hl => match us, hl with | [_, _], _ => rfl
  have F_Claims_eq := fun_mk (st := s_Claims_eq) l_Claims_eq q_Claims_eq k_Claims_eq
  have b_Claims_eq := F_Claims_eq.binds (ps := ["self", "other"]) fun _ _ _ _ _ _ us hl => match us, hl with | [_, _], _ => rfl
  have F_Lcell := fun_mk (st := s_Lcell) l_Lcell q_Lcell k_Lcell
  have b_Lcell := F_Lcell.binds (ps := ["_law_script", "_law_at"]) fun _ _ _ _ _ _ us hl => match us, hl with | [_, _], _ => rfl
  have F_Lpool := fun_mk (st := s_Lpool) l_Lpool q_Lpool k_Lpool
  have b_Lpool := F_Lpool.binds (ps := ["_law_cell_here"]) fun _ _ _ _ _ _ us hl => match us, hl with | [_], _ => rfl
  have F_Ltake := fun_mk (st := s_Ltake) l_Ltake q_Ltake k_Ltake
  have b_Ltake := F_Ltake.binds (ps := ["_law_pool_here", "_law_many"]) fun _ _ _ _ _ _ us hl => match us, hl with | [_, _], _ => rfl
  have F_Lsame := fun_mk (st := s_Lsame) l_Lsame q_Lsame k_Lsame
  have b_Lsame := F_Lsame.binds (ps := ["_law_told", "_law_due"]) fun _ _ _ _ _ _ us hl => match us, hl with | [_, _], _ => rfl
  have F_Lnumbers := fun_mk (st := s_Lnumbers) l_Lnumbers q_Lnumbers k_Lnumbers
  have b_Lnumbers := F_Lnumbers.binds (ps := ["_law_pool_here", "_law_size"]) fun _ _ _ _ _ _ us hl => match us, hl with | [_, _], _ => rfl
  have F_Lsecond := fun_mk (st := s_Lsecond) l_Lsecond q_Lsecond k_Lsecond
  have b_Lsecond := F_Lsecond.binds (ps := ["_law_pool_here", "_law_table"]) fun _ _ _ _ _ _ us hl => match us, hl with | [_, _], _ => rfl
  have F_Lmade := fun_mk (st := s_Lmade) l_Lmade q_Lmade k_Lmade
  have b_Lmade := F_Lmade.binds (ps := ["_law_handed"]) fun _ _ _ _ _ _ us hl => match us, hl with | [_], _ => rfl
  have F_Ladded := fun_mk (st := s_Ladded) l_Ladded q_Ladded k_Ladded
  have b_Ladded := F_Ladded.binds (ps := ["_law_one", "_law_two"]) fun _ _ _ _ _ _ us hl => match us, hl with | [_, _], _ => rfl
  have F_Lunknown := fun_mk (st := s_Lunknown) l_Lunknown q_Lunknown k_Lunknown
  have b_Lunknown := F_Lunknown.binds (ps := ["_law_told", "_law_mask"]) fun _ _ _ _ _ _ us hl => match us, hl with | [_, _], _ => rfl
  have F_Lreads := fun_mk (st := s_Lreads) l_Lreads q_Lreads k_Lreads
  have b_Lreads := F_Lreads.binds (ps := ["_law_told", "_law_table"]) fun _ _ _ _ _ _ us hl => match us, hl with | [_, _], _ => rfl
  refine ⟨PySem.W.fnOf "law" "law" (defArgs s_law) (defBody s_law) (defScope s_law) .none kV_law dc_law pm_law an_law cd_law ct_law, fun s v => .of_eq rfl, fun base _ _ => ?_⟩
  have c_Claims := mak_mk (ok_Claims_init (P := l.prog) (w := w) (base := base) F_Claims_init T ) (T.g_Claims) ⟨mk_Claims, a_Claims_init, j_Claims_init, mkk_Claims⟩ b_Claims_init
  have c_Claims_span := prp_mk (ok_Claims_span (P := l.prog) (w := w) (base := base) F_Claims_span T ) T.cl_Claims ⟨pa_Claims_span, pgt_Claims_span, ptk_Claims_span, ⟨_, prc_Claims_span⟩⟩ b_Claims_span
  have c_Claims_len := met_mk (ok_Claims_len (P := l.prog) (w := w) (base := base) F_Claims_len T ) T.cl_Claims ⟨a_Claims_len, j_Claims_len, k_Claims_len⟩ b_Claims_len (fn_in l_Claims_len)
  have c_Claims_iter := met_mk (ok_Claims_iter (P := l.prog) (w := w) (base := base) F_Claims_iter T ) T.cl_Claims ⟨a_Claims_iter, j_Claims_iter, k_Claims_iter⟩ b_Claims_iter (fn_in l_Claims_iter)
  have c_Claims_getitem := met_mk (ok_Claims_getitem (P := l.prog) (w := w) (base := base) F_Claims_getitem T ) T.cl_Claims ⟨a_Claims_getitem, j_Claims_getitem, k_Claims_getitem⟩ b_Claims_getitem (fn_in l_Claims_getitem)
  have c_Claims_add := met_mk (ok_Claims_add (P := l.prog) (w := w) (base := base) F_Claims_add T c_Claims) T.cl_Claims ⟨a_Claims_add, j_Claims_add, k_Claims_add⟩ b_Claims_add (fn_in l_Claims_add)
  have c_Claims_eq := met_mk (ok_Claims_eq (P := l.prog) (w := w) (base := base) F_Claims_eq T ) T.cl_Claims ⟨a_Claims_eq, j_Claims_eq, k_Claims_eq⟩ b_Claims_eq (fn_in l_Claims_eq)
  have c_Lcell := cal_mk (ok_Lcell (P := l.prog) (w := w) (base := base) F_Lcell T ) (PySem.W.mg_of X G a_Lcell) k_Lcell b_Lcell
  have c_Lpool := cal_mk (ok_Lpool (P := l.prog) (w := w) (base := base) F_Lpool T ) (PySem.W.mg_of X G a_Lpool) k_Lpool b_Lpool
  have c_Ltake := cal_mk (ok_Ltake (P := l.prog) (w := w) (base := base) F_Ltake T ) (PySem.W.mg_of X G a_Ltake) k_Ltake b_Ltake
  have c_Lsame := cal_mk (ok_Lsame (P := l.prog) (w := w) (base := base) F_Lsame T (PySem.W.mg_of X G a_Lsame) k_Lsame b_Lsame 2) (PySem.W.mg_of X G a_Lsame) k_Lsame b_Lsame
  have c_Lnumbers := cal_mk (ok_Lnumbers (P := l.prog) (w := w) (base := base) F_Lnumbers T c_Ltake) (PySem.W.mg_of X G a_Lnumbers) k_Lnumbers b_Lnumbers
  have c_Lsecond := cal_mk (ok_Lsecond (P := l.prog) (w := w) (base := base) F_Lsecond T c_Ltake c_Lnumbers) (PySem.W.mg_of X G a_Lsecond) k_Lsecond b_Lsecond
  have c_Lmade := cal_mk (ok_Lmade (P := l.prog) (w := w) (base := base) F_Lmade T c_Claims) (PySem.W.mg_of X G a_Lmade) k_Lmade b_Lmade
  have c_Ladded := cal_mk (ok_Ladded (P := l.prog) (w := w) (base := base) F_Ladded T c_Claims_add) (PySem.W.mg_of X G a_Ladded) k_Ladded b_Ladded
  have c_Lunknown := cal_mk (ok_Lunknown (P := l.prog) (w := w) (base := base) F_Lunknown T c_Claims_getitem) (PySem.W.mg_of X G a_Lunknown) k_Lunknown b_Lunknown
  have c_Lreads := cal_mk (ok_Lreads (P := l.prog) (w := w) (base := base) F_Lreads T c_Lsame c_Claims_span c_Claims_len c_Claims_iter c_Claims_getitem c_Lunknown) (PySem.W.mg_of X G a_Lreads) k_Lreads b_Lreads
  exact ok_law (fun_mk (st := s_law) l_law q_law k_law) T c_Lpool c_Lcell c_Ltake c_Lnumbers c_Lmade c_Lsame c_Lreads c_Lsecond c_Claims c_Ladded c_Claims_eq

theorem walk {l : PySem.W.OpenLaw} {q : Program} {loose : List Str} {XP : (Str → Option Value) → Heap → Prop} {YP : World → Heap → Prop} {d : DefRec} {K : Params → PySem.W.Frag} (hn : l.most = some 63) (hdf : d.params.defaults = [])
    (hY : ∀ (w : World) (h : Heap), YP w h → (K w.params).In h)
    (F : ∀ (w : World) (mg : Str → Option Value) (fa : Addr) (h : Heap), (K w.params).In h → h.Ns mainGlobals mg → mg d.name = some (.ref fa) →
      ∃ fd : FuncData, (∀ (s : Shared) (u : Value), BindsTo s fd ⟨[u], []⟩ [("_law_script", u)]) ∧ ∀ base : Heap, (K w.params).In base → base.Ns mainGlobals mg → FnOk l.prog w (K w.params) mg base CX0 8 fa fd ["_law_script"] (sp_law (K w.params))) :
    PySem.W.WalkO q loose XP YP l.row.toRowW d [] (fun f vs => PySem.call f vs) :=
  L2.walk_of (n := 63) (k := 8) (x := "_law_script") (CX := fun _ => CX0) (sp := fun w => sp_law (K w.params)) hn (by decide) hdf ⟨rfl, by decide, by decide⟩ hY F (fun _ _ a ns hl _ hS => ⟨a, ns, rfl, hS, hl, fun _ => rfl⟩) fun _ _ _ _ _ z => z
end My

open PySem PySem.W PyProof.Rows in
set_option maxRecDepth 100000 in
set_option maxHeartbeats 0 in
theorem PySem.Challenge.cw_onecable_k41_claims_added_and_read_holds : PySem.Challenge.rw_onecable_k41_claims_added_and_read.Holds := by
  w_on; o_law; k_head; (case hw => w_witness2)
  k_fill
  refine My.walk (l := PySem.Challenge.rw_onecable_k41_claims_added_and_read) rfl rfl (fun w h Y => PySem.W.kIn_of Y) ?F
  case F =>
    intro w mg fa h KX G hmg
    refine' My.all_mk KX G hmg ?g_Claims ?pg_Claims ?hd_Claims ?po_Claims ?sa_Claims ?nf_Claims_table ?ha_Claims ?hn_Claims ?ht_Claims ?hm_Claims ?me_Claims ?g_BadClaims ?x_BadClaims ?k_BadClaims ?b_BadClaims ?t_BadClaims ?ic_BadClaims ?s_BadClaims ?eg_BadClaims ?ek_BadClaims ?ed_BadClaims ?ea_BadClaims ?en_BadClaims ?et_BadClaims ?em_BadClaims ?c_SPANS ?l_SPANS ?low_SPANS ?sf_Claims ?su_Claims ?us_Claims ?rn_Claims_add ?fi0_add ?fr0_add ?n_any ?n_len ?n_tuple ?n_iter ?n_zip ?n_isinstance ?n_int ?n_abs ?n_bool ?n_str ?n_list ?n_range ?mk_Claims ?mkk_Claims ?a_Claims_init ?j_Claims_init ?l_Claims_init ?q_Claims_init ?k_Claims_init ?pa_Claims_span ?pgt_Claims_span ?ptk_Claims_span ?prc_Claims_span ?l_Claims_span ?q_Claims_span ?k_Claims_span ?a_Claims_len ?j_Claims_len ?l_Claims_len ?q_Claims_len ?k_Claims_len ?a_Claims_iter ?j_Claims_iter ?l_Claims_iter ?q_Claims_iter ?k_Claims_iter ?a_Claims_getitem ?j_Claims_getitem ?l_Claims_getitem ?q_Claims_getitem ?k_Claims_getitem ?a_Claims_add ?j_Claims_add ?l_Claims_add ?q_Claims_add ?k_Claims_add ?a_Claims_eq ?j_Claims_eq ?l_Claims_eq ?q_Claims_eq ?k_Claims_eq ?a_Lcell ?l_Lcell ?q_Lcell ?k_Lcell ?a_Lpool ?l_Lpool ?q_Lpool ?k_Lpool ?a_Ltake ?l_Ltake ?q_Ltake ?k_Ltake ?a_Lsame ?l_Lsame ?q_Lsame ?k_Lsame ?a_Lnumbers ?l_Lnumbers ?q_Lnumbers ?k_Lnumbers ?a_Lsecond ?l_Lsecond ?q_Lsecond ?k_Lsecond ?a_Lmade ?l_Lmade ?q_Lmade ?k_Lmade ?a_Ladded ?l_Ladded ?q_Ladded ?k_Ladded ?a_Lunknown ?l_Lunknown ?q_Lunknown ?k_Lunknown ?a_Lreads ?l_Lreads ?q_Lreads ?k_Lreads ?a_law ?l_law ?q_law ?k_law
    (case g_Claims => k_is)
    (case pg_Claims => k_is)
    (case hd_Claims => k_is)
    (case po_Claims => k_is)
    (case sa_Claims => k_is)
    (case nf_Claims_table => k_is)
    (case ha_Claims => k_is)
    (case hn_Claims => k_is)
    (case ht_Claims => k_is)
    (case hm_Claims => k_is)
    (case me_Claims => kit_is)
    (case g_BadClaims => k_is)
    (case x_BadClaims => k_exc)
    (case k_BadClaims => k_is)
    (case b_BadClaims => k_is)
    (case t_BadClaims => k_is)
    (case ic_BadClaims => k_is)
    (case s_BadClaims => first | rfl | decide | k_is)
    (case eg_BadClaims => k_is)
    (case ek_BadClaims => k_is)
    (case ed_BadClaims => k_is)
    (case ea_BadClaims => k_is)
    (case en_BadClaims => k_is)
    (case et_BadClaims => k_is)
    (case em_BadClaims => k_is)
    (case c_SPANS => k_is)
    (case l_SPANS => k_is)
    (case low_SPANS => first | rfl | decide | k_is)
    (case sf_Claims => k_is)
    (case su_Claims => k_is)
    (case us_Claims => k_is)
    (case rn_Claims_add => k_is)
    (case fi0_add => k_is)
    (case fr0_add => k_is)
    (case n_any => k_is)
    (case n_len => k_is)
    (case n_tuple => k_is)
    (case n_iter => k_is)
    (case n_zip => k_is)
    (case n_isinstance => k_is)
    (case n_int => k_is)
    (case n_abs => k_is)
    (case n_bool => k_is)
    (case n_str => k_is)
    (case n_list => k_is)
    (case n_range => k_is)
    (case mk_Claims => k_is)
    (case mkk_Claims => k_is)
    (case a_Claims_init => k_is)
    (case j_Claims_init => k_is)
    (case l_Claims_init => k_is)
    (case q_Claims_init => k_is)
    (case k_Claims_init => k_is)
    (case pa_Claims_span => k_is)
    (case pgt_Claims_span => k_is)
    (case ptk_Claims_span => k_is)
    (case prc_Claims_span => k_is)
    (case l_Claims_span => k_is)
    (case q_Claims_span => k_is)
    (case k_Claims_span => k_is)
    (case a_Claims_len => k_is)
    (case j_Claims_len => k_is)
    (case l_Claims_len => k_is)
    (case q_Claims_len => k_is)
    (case k_Claims_len => k_is)
    (case a_Claims_iter => k_is)
    (case j_Claims_iter => k_is)
    (case l_Claims_iter => k_is)
    (case q_Claims_iter => k_is)
    (case k_Claims_iter => k_is)
    (case a_Claims_getitem => k_is)
    (case j_Claims_getitem => k_is)
    (case l_Claims_getitem => k_is)
    (case q_Claims_getitem => k_is)
    (case k_Claims_getitem => k_is)
    (case a_Claims_add => k_is)
    (case j_Claims_add => k_is)
    (case l_Claims_add => k_is)
    (case q_Claims_add => k_is)
    (case k_Claims_add => k_is)
    (case a_Claims_eq => k_is)
    (case j_Claims_eq => k_is)
    (case l_Claims_eq => k_is)
    (case q_Claims_eq => k_is)
    (case k_Claims_eq => k_is)
    (case a_Lcell => k_is)
    (case l_Lcell => k_is)
    (case q_Lcell => k_is)
    (case k_Lcell => k_is)
    (case a_Lpool => k_is)
    (case l_Lpool => k_is)
    (case q_Lpool => k_is)
    (case k_Lpool => k_is)
    (case a_Ltake => k_is)
    (case l_Ltake => k_is)
    (case q_Ltake => k_is)
    (case k_Ltake => k_is)
    (case a_Lsame => k_is)
    (case l_Lsame => k_is)
    (case q_Lsame => k_is)
    (case k_Lsame => k_is)
    (case a_Lnumbers => k_is)
    (case l_Lnumbers => k_is)
    (case q_Lnumbers => k_is)
    (case k_Lnumbers => k_is)
    (case a_Lsecond => k_is)
    (case l_Lsecond => k_is)
    (case q_Lsecond => k_is)
    (case k_Lsecond => k_is)
    (case a_Lmade => k_is)
    (case l_Lmade => k_is)
    (case q_Lmade => k_is)
    (case k_Lmade => k_is)
    (case a_Ladded => k_is)
    (case l_Ladded => k_is)
    (case q_Ladded => k_is)
    (case k_Ladded => k_is)
    (case a_Lunknown => k_is)
    (case l_Lunknown => k_is)
    (case q_Lunknown => k_is)
    (case k_Lunknown => k_is)
    (case a_Lreads => k_is)
    (case l_Lreads => k_is)
    (case q_Lreads => k_is)
    (case k_Lreads => k_is)
    (case a_law => k_is)
    (case l_law => k_is)
    (case q_law => k_is)
    (case k_law => k_is)

