import PyProof.Rows.All
import Wide.All
import OpenK.AllK
import Wide.FinOn
import HandS.ForMost
import HandS.Exc
import HandS.TryOnly
import HandS.ExcOwn
import HandS.WordsExc
import HandS.Wide
import HandS.Codes
import HandS.IsInst
import HandS.ExcIs
import HandS.More
import HandS.Star
import KE.RegKIsAll
import HandS.OwnEq
import KE.GoesEnum
import HandS.Zip
import HandS.Style
import HandS.NamedTupSort
import HandS.Set
import HandS.Property
import HandS.ClsMeth
import PySem.Challenge.RW_onecable_k40_claims_of_open_cars
set_option Elab.async false
set_option maxRecDepth 100000
set_option maxHeartbeats 4000000
set_option linter.all false
namespace My
open PySem PySem.Spec PyProof.Rows L2
/-! ### callables of the text: a def by its name, a method, a class -/
structure Cal (CX : CXT) (P : Program) (w : World) (K : PySem.W.Frag) (mg : Str → Option Value) (base : Heap) (k : Nat) (x : Str) (sp : Sp) : Prop where
  ex : ∃ (f : Addr) (fd : FuncData) (ps : List Str), FnOk P w K mg base CX k f fd ps sp ∧ mg x = some (.ref f) ∧ PySem.W.keepIn K (.ref f) = true ∧ Binds K fd ps []
structure Met (CX : CXT) (P : Program) (w : World) (K : PySem.W.Frag) (mg : Str → Option Value) (base : Heap) (k : Nat) (C : Addr) (m : Str) (sp : Sp) : Prop where
  ex : ∃ (f : Addr) (fd : FuncData) (ps : List Str), Cls K C ∧ Meth K C m f ∧ FnOk P w K mg base CX k f fd ps sp ∧ Binds K fd ps []
  fi : ∀ f, PySem.W.findIn K (.ref C) m = some (some (.ref f)) → PySem.W.fnIn K f = true
structure Mak (CX : CXT) (P : Program) (w : World) (K : PySem.W.Frag) (mg : Str → Option Value) (base : Heap) (k : Nat) (x : Str) (C : Addr) (sp : Sp) : Prop where
  ex : ∃ (f : Addr) (fd : FuncData) (ps : List Str), Mk K C f ∧ FnOk P w K mg base CX k f fd ps sp ∧ mg x = some (.ref C) ∧ Binds K fd ps []
section
variable {CX : CXT} {P : Program} {w : World} {K : PySem.W.Frag} {mg : Str → Option Value} {base : Heap} {k : Nat} {x m : Str} {f C : Addr} {fd : FuncData} {ps : List Str} {sp : Sp}
theorem cal_mk (F : FnOk P w K mg base CX k f fd ps sp) (m : mg x = some (.ref f)) (kp : PySem.W.keepIn K (.ref f) = true) (b : Binds K fd ps []) : Cal CX P w K mg base k x sp := ⟨f, fd, ps, F, m, kp, b⟩
theorem met_mk (F : FnOk P w K mg base CX k f fd ps sp) (c : Cls K C) (me : Meth K C m f) (b : Binds K fd ps []) (fi : PySem.W.fnIn K f = true) : Met CX P w K mg base k C m sp := ⟨⟨f, fd, ps, c, me, F, b⟩, fun g h => by
  have z := me.at_.symm.trans h
  cases z
  exact fi⟩
theorem fn_in {oc : Value} {od : Option Addr} {fdx : FuncData} {sl : Array (Option Value)} (l : K.lookup f = some ⟨oc, od, .func fdx, sl⟩) : PySem.W.fnIn K f = true := by
  unfold PySem.W.fnIn
  rw [l]
theorem mak_mk (F : FnOk P w K mg base CX k f fd ps sp) (m : mg x = some (.ref C)) (M : Mk K C f) (b : Binds K fd ps []) : Mak CX P w K mg base k x C sp := ⟨f, fd, ps, M, F, m, b⟩
end
section
variable {X : Cx} {CX : CXT} {k j : Nat} {C : Addr} {x m : Str} {sp : Sp} {E : XK} {p pos apos : Pos} {e o : Expr} {es : List Expr} {ta : TE} {t : TA}
theorem pc_c (c : Cal CX X.prog X.w X.K X.mg X.base k x sp) (hr : Room j X.A) (hk : k ≤ j) (hg : Gl X x) (hx : Passes CX X E) (ha : PA X (e :: es) t)
    (hdb : (x == ("__debug__" : Str)) = false := by decide) (he : starEach (e :: es) X.env = (false, eval e X.env) :: starEach es X.env := by rfl) (hpl : (backTo pos (starEach es X.env)).any (·.1) = false := by rfl) :
    PE X (.Call (.Name x p) (e :: es) [] pos) (tCall sp [] E t) := by
  obtain ⟨f, fd, ps, F, hm, kp, b⟩ := c.ex
  exact pe_call F (hr.mono hk) hg hm kp b .nil hx ha hdb he hpl
theorem pc_cS {E : L2.St → XK} (c : Cal CX X.prog X.w X.K X.mg X.base k x sp) (hr : Room j X.A) (hk : k ≤ j) (hg : Gl X x) (hx : ∀ σ, PassesAt CX X σ (E σ)) (ha : PA X (e :: es) t)
    (hdb : (x == ("__debug__" : Str)) = false := by decide) (he : starEach (e :: es) X.env = (false, eval e X.env) :: starEach es X.env := by rfl) (hpl : (backTo pos (starEach es X.env)).any (·.1) = false := by rfl) :
    PE X (.Call (.Name x p) (e :: es) [] pos) (tCallS sp E t) := by
  obtain ⟨f, fd, ps, F, hm, kp, b⟩ := c.ex
  exact pe_callS F (hr.mono hk) hg hm kp b hx ha hdb he hpl
theorem pc_mk (c : Mak CX X.prog X.w X.K X.mg X.base k x C sp) (hr : Room j X.A) (hk : k + 1 ≤ j) (hg : Gl X x) (hx : Passes CX X E) (ha : PA X (e :: es) t)
    (hdb : (x == ("__debug__" : Str)) = false := by decide) (he : starEach (e :: es) X.env = (false, eval e X.env) :: starEach es X.env := by rfl) (hpl : (backTo pos (starEach es X.env)).any (·.1) = false := by rfl) :
    PE X (.Call (.Name x p) (e :: es) [] pos) (tMake C sp [] E t) := by
  obtain ⟨f, fd, ps, M, F, hm, b⟩ := c.ex
  exact pe_make M F (hr.mono hk) hg hm b .nil hx ha hdb he hpl
/-- a class made where a try stands around: what is raised is wished for at the slots -/
def tMakeS (C : Addr) (sp : Sp) (E : L2.St → XK) (t : TA) : TE := fun σ H Q => t σ H fun vs H1 => ∀ x dx, H1 x = none → H1 dx = none → dx ≠ x →
  sp (.ref x :: (vs ++ [])) (upd (upd H1 dx (.own x)) x (.ins C dx [])) (fun v H2 => v = .non ∧ Q (.ref x) H2) (E σ)
theorem run_mkS {f : Addr} {fd : FuncData} {ps : List Str} {ds : List Value} {dvs : List V} {pins : List (Addr × Obj)} {σ : L2.St} {H : Hp} {s : Shared} {Q : VK} {us : List Value} {vs : List V} (M : Mk X.K C f) (F : FnOk X.prog X.w X.K X.mg X.base CX k f fd ps sp) (hr : Room (k + 1) X.A) (hb : Binds X.K fd ps ds) (hd : Vals dvs ds)
    (hx : PassesAt CX X σ E) (I : Inv X pins σ H s) (r : Vals vs us)
    (h : ∀ x dx, H x = none → H dx = none → dx ≠ x → sp (.ref x :: (vs ++ dvs)) (upd (upd H dx (.own x)) x (.ins C dx [])) (fun v H2 => v = .non ∧ Q (.ref x) H2) E) :
    wpAny (model X.prog X.w) X.A (call (.ref C) us) (EP X pins σ Q) X.xe s := by
  have hq := h (s.heap.objs.size + 1) s.heap.objs.size (I.hok.fresh (Nat.le_succ _)) (I.hok.fresh (Nat.le_refl _)) (Nat.ne_of_lt (Nat.lt_succ_self _))
  have I2 := Inv.made (C := C) I
  have r2 : Vals (V.ref (s.heap.objs.size + 1) :: (vs ++ dvs)) (Value.ref (s.heap.objs.size + 1) :: (us ++ ds)) := .cons rfl (r.append hd)
  have hl : (Value.ref (s.heap.objs.size + 1) :: us ++ ds).length = ps.length := by
    have e := r2.length
    rw [F.len _ _ _ _ hq] at e
    exact e.symm
  refine wpAny_call (make_map (f := f) I.kIn M.makes M.init (beq_iff_eq.mp M.fn) (codeAny_mono (F.run _ X.stack _ _ ⟨Value.ref (s.heap.objs.size + 1) :: us, []⟩ (Value.ref (s.heap.objs.size + 1) :: (us ++ ds)) _ _ E (hr.make C us [])
    (I2.env0.make C us []) (hb _ (Value.ref (s.heap.objs.size + 1) :: us) I2.kIn hl) r2 hq) fun r s' hq' => ?_))
  cases r with
  | error e => exact hx pins _ _ e s' I2 hq'
  | ok fl =>
    cases fl with
    | ret u =>
      obtain ⟨v, H', I3, rv, ev, q3⟩ := I2.after hq'
      subst ev
      exact ⟨rv, ⟨V.ref (s.heap.objs.size + 1), H', I3, rfl, q3⟩⟩
    | next => exact False.elim hq'
    | brk => exact False.elim hq'
    | cont => exact False.elim hq'
theorem pc_mkS {E : L2.St → XK} (c : Mak CX X.prog X.w X.K X.mg X.base k x C sp) (hr : Room j X.A) (hk : k + 1 ≤ j) (hg : Gl X x) (hx : ∀ σ, PassesAt CX X σ (E σ)) (ha : PA X (e :: es) t)
    (hdb : (x == ("__debug__" : Str)) = false := by decide) (he : starEach (e :: es) X.env = (false, eval e X.env) :: starEach es X.env := by rfl) (hpl : (backTo pos (starEach es X.env)).any (·.1) = false := by rfl) :
    PE X (.Call (.Name x p) (e :: es) [] pos) (tMakeS C sp E t) := by
  obtain ⟨f, fd, ps, M, F, hm, b⟩ := c.ex
  refine ⟨fun pins s σ H Q I h => ?_⟩
  refine wpAny_Call_Name_kw (ld_glob I hg hm ?_ hdb)
  refine PySem.W.callWith_K (h₀ := X.base) I.ok.mod.kin M.kp (thn (ha.run pos pins s σ H _ I h) fun us s1 ⟨vs, H1, I1, r, q⟩ => ⟨I1.kIn, ?_⟩) he hpl
  exact run_mkS M F (hr.mono hk) b .nil (hx σ) I1 r q
theorem pc_mt {pl : Sem Bool} (c : Met CX X.prog X.w X.K X.mg X.base k C m sp) (hr : Room j X.A) (hk : k ≤ j) (hx : Passes CX X E) (he : PE X o ta) (ha : PA X (e :: es) t)
    (hst : starEach (e :: es) X.env = (false, eval e X.env) :: starEach es X.env := by rfl) (hpl : (backTo pos (starEach es X.env)).any (·.1) = false := by rfl)
    (ht : eval (.Call (.Attribute o m apos) (e :: es) [] pos) X.env = (do
      let ov ← eval o X.env
      standAt apos.atName
      let (f, first) ← holding [ov] (getMethod ov m pl)
      callWith pos f first (backTo pos (starEach (e :: es) X.env)) (backToKw pos (keywordEach [] X.env))) := by rfl) :
    PE X (.Call (.Attribute o m apos) (e :: es) [] pos) (tMeth C m sp [] E ta t) := by
  obtain ⟨f, fd, ps, hc, hm, F, b⟩ := c.ex
  exact pe_meth (pl := pl) he hc hm F (hr.mono hk) b .nil hx ha hst hpl ht
theorem pc_mt0 {pl : Sem Bool} (c : Met CX X.prog X.w X.K X.mg X.base k C m sp) (hr : Room j X.A) (hk : k ≤ j) (hx : Passes CX X E) (he : PE X o ta)
    (ht : eval (.Call (.Attribute o m apos) [] [] pos) X.env = (do
      let ov ← eval o X.env
      standAt apos.atName
      let (f, first) ← holding [ov] (getMethod ov m pl)
      callWith pos f first (backTo pos (starEach [] X.env)) (backToKw pos (keywordEach [] X.env))) := by rfl) :
    PE X (.Call (.Attribute o m apos) [] [] pos) (tMeth C m sp [] E ta tNil) := by
  obtain ⟨f, fd, ps, hc, hm, F, b⟩ := c.ex
  exact pe_meth0 (pl := pl) he hc hm F (hr.mono hk) b .nil hx ht
/-! ### further operators -/
/-- * : one factor small, or both below a million bits together -/
def CMulA (i j : Int) : Prop := CMul i j ∨ CMulW i j
theorem op_mulA : OpR X (binaryOp .Mult) (rI CMulA fun i j => .int (i * j)) := opI fun _ _ _ _ _ _ _ hc q => mul_int q (hc.elim CMul.ok CMulW.ok)
/-- // by any divisor but 0 that is no giant -/
def CDivA (_ j : Int) : Prop := j ≠ 0 ∧ j.natAbs.log2 < 9000
theorem op_fdivA : OpR X (binaryOp .FloorDiv) (rI CDivA fun i j => .int (i.fdiv j)) := opI fun _ _ _ _ _ _ _ hc q => floordiv_int hc.1 q (.inl (PyProof.noPylong_of_log2 hc.2))
theorem divA {i j : Int} {b : Nat} (h : j ≠ 0) (hb : j.natAbs < 2 ^ b) (h0 : 0 < b) (h9 : b ≤ 9000) : CDivA i j := ⟨h, Nat.lt_of_lt_of_le (PySem.Flt.log2_lt_of h0 hb) h9⟩
end
/-! ### heaps: all but what stands at p is kept -/
def Kp (p : Addr) (H H' : Hp) : Prop := ∀ b o, b ≠ p → H b = some o → H' b = some o
theorem Kp.refl {p : Addr} {H : Hp} : Kp p H H := fun _ _ _ h => h
theorem Kp.trans {p : Addr} {H H1 H2 : Hp} (a : Kp p H H1) (b : Kp p H1 H2) : Kp p H H2 := fun c o n h => b c o n (a c o n h)
theorem Kp.upd {p : Addr} {H : Hp} {o : HO} : Kp p H (upd H p o) := fun _ _ n h => by rw [upd_ne n]; exact h
theorem Kp.same {p : Addr} {H0 H H' : Hp} (s : Same H0 H) (k : Kp p H H') (n : H0 p = none) : Same H0 H' := fun b o h => k b o (fun e => by rw [e, n] at h; cases h) (s b o h)
theorem same_upd {H : Hp} {p : Addr} {o : HO} (n : H p = none) : Same H (upd H p o) := fun b u h => by rw [upd_ne (ne_of_none h n)]; exact h
theorem Same.of (H : Hp) : Same H H := fun _ _ h => h
/-- isinstance(e, c), e the exception that the suite holds; its class and its dict are told in the reading -/
theorem call_isE2 {X : Cx} {a D : Addr} {oe : Obj} {cls : Value} {d : Option Addr} {pn : List (Addr × Obj)} (C : ExcC X.K D) (hz : Zc cls d oe) (hf : ∃ vs, oe.data = .fields vs) :
    CallR (X.suite a ((a, oe) :: pn)) (.builtin "isinstance") (fun xs H Q => cls = .ref D ∧ d = none ∧ rIsE X.K D a xs H Q) := by
  intro pins s σ H xs us Q I r h
  obtain ⟨rfl, rfl, h⟩ := h
  exact call_isE C hz hf pins s σ H xs us Q I r h
/-- an error of the class at S is what «except S» names -/
theorem exm_self {K : PySem.W.Frag} {S : Addr} (h1 : PySem.W.subIn K (.ref S) (.type "BaseException") = some true) (h2 : PySem.W.isClsIn K S = true) (h3 : PySem.W.typeIn K (.ref S) = some (.type "type")) (h4 : PySem.W.subIn K (.ref S) (.ref S) = some true) :
    PySem.W.exmOne K (.ref S) (.ref S) = some true := by
  have e1 : (PySem.W.subIn K (.ref S) (.type "BaseException") == some true) = true := by rw [h1] <;> rfl
  have e2 : ((PySem.W.clsIn K S).isSome && PySem.W.typeIn K (.ref S) == some (.type "type")) = true := by
    have h2' : (PySem.W.clsIn K S).isSome = true := h2
    rw [h2', h3] <;> rfl
  show (if (PySem.W.subIn K (.ref S) (.type "BaseException") == some true) = true then (if ((PySem.W.clsIn K S).isSome && PySem.W.typeIn K (.ref S) == some (.type "type")) = true then PySem.W.subIn K (.ref S) (.ref S) else none) else none) = some true
  rw [if_pos e1, if_pos e2]
  exact h4
/-- x is True, x is False: whatever x is -/
theorem op_isB {X : Cx} : OpR X (compareOp .Is) (fun x y H Q => ∃ b, y = .bl b ∧ Q (.bl (decide (x = .bl b))) H) := by
  intro pins s σ H x y v u Q I rx ry h
  obtain ⟨b, rfl, q⟩ := h
  cases (show u = Value.bool b from ry)
  have fin : ∀ k : Bool, decide (x = .bl b) = k → EP X pins σ Q (.bool k) s := fun k e => ⟨.bl k, H, I, rfl, by rw [← e]; exact q⟩
  cases x with
  | non => cases (show v = Value.none from rx); exact wpAny_pure (fin _ (by simp))
  | bl c =>
    cases (show v = Value.bool c from rx)
    refine wpAny_pure (fin _ ?_)
    by_cases e : c = b
    · subst e; simp
    · simp [e]
  | int i => obtain ⟨t, e⟩ := (show ∃ t, v = Value.int i t from rx); subst e; exact wpAny_pure (fin _ (by simp))
  | str i => obtain ⟨t, e⟩ := (show ∃ t, v = Value.str i t from rx); subst e; exact wpAny_pure (fin _ (by simp))
  | byt i => obtain ⟨t, e⟩ := (show ∃ t, v = Value.bytes i t from rx); subst e; exact wpAny_pure (fin _ (by simp))
  | flt i => obtain ⟨t, e⟩ := (show ∃ t, v = Value.float i t from rx); subst e; exact wpAny_pure (fin _ (by simp))
  | ref a => cases (show v = Value.ref a from rx); exact wpAny_pure (fin _ (by simp))
  | ty n => cases (show v = Value.type n from rx); exact wpAny_pure (fin _ (by simp))
theorem iteDT {p A B : Prop} [Decidable p] (hp : p) (h : A) : if decide p = true then A else B := by
  rw [decide_eq_true hp]
  exact iteT h
theorem iteDF {p A B : Prop} [Decidable p] (hp : ¬ p) (h : B) : if decide p = true then A else B := by
  rw [decide_eq_false hp]
  exact iteF h
/-! ### rules for a comprehension's block: the written part by its own name -/
section
variable {X : Cx} {K : PySem.W.Frag}
theorem pe_fldK {e : Expr} {f : Str} {pos : Pos} {ta : TE} (hK : X.K = K) (he : PE X e ta) (hb : attributeBase e f X.env (eval e X.env) = eval e X.env) : PE X (.Attribute e f pos) (tFld K ta f) := by
  subst hK
  exact pe_fld he hb
theorem pe_conK {e : Expr} {f : Str} {pos : Pos} {ta : TE} (hK : X.K = K) (he : PE X e ta) (hb : attributeBase e f X.env (eval e X.env) = eval e X.env) : PE X (.Attribute e f pos) (tCon K ta f) := by
  subst hK
  exact pe_con he hb
theorem call_len_seqK (hK : X.K = K) : CallR X (.builtin "len") (fun xs H Q => ∃ p ys, xs = [.ref p] ∧ (SqL K H p ys ∨ SqT K H p ys) ∧ Q (.int ys.length) H) := by
  subst hK
  exact call_len_seq
theorem call_list_ofK (hK : X.K = K) : CallR X (.type "list") (fun xs H Q => ∃ p ys, xs = [.ref p] ∧ (SqL K H p ys ∨ SqT K H p ys) ∧ ∀ l, H l = none → Q (.ref l) (upd H l (.lst ys))) := by
  subst hK
  exact call_list_of
theorem call_tuple_ofK (hK : X.K = K) : CallR X (.type "tuple") (fun xs H Q => ∃ p ys, xs = [.ref p] ∧ ((SqL K H p ys ∧ ∀ l, H l = none → Q (.ref l) (upd H l (.tup ys))) ∨ (SqT K H p ys ∧ Q (.ref p) H))) := by
  subst hK
  exact call_tuple_of
theorem call_isiK (hK : X.K = K) : CallR X (.builtin "isinstance") (rIsi K) := by
  subst hK
  exact call_isi
theorem cr_sumK (hK : X.K = K) (hc : X.calm = true) : CallR X (.builtin "sum") (rSum K) := by
  subst hK
  exact cr_sum hc
end
/-! ### properties -/
structure Prp (CX : CXT) (P : Program) (w : World) (K : PySem.W.Frag) (mg : Str → Option Value) (base : Heap) (k : Nat) (C : Addr) (m : Str) (sp : Sp) : Prop where
  ex : ∃ (p g : Addr) (fd : FuncData) (ps : List Str), Cls K C ∧ PropOf K C m p g ∧ FnOk P w K mg base CX k g fd ps sp ∧ Binds K fd ps []
theorem prp_mk {CX : CXT} {P : Program} {w : World} {K : PySem.W.Frag} {mg : Str → Option Value} {base : Heap} {k : Nat} {m : Str} {f p C : Addr} {fd : FuncData} {ps : List Str} {sp : Sp} (F : FnOk P w K mg base CX k f fd ps sp) (c : Cls K C) (h : PropOf K C m p f) (b : Binds K fd ps []) : Prp CX P w K mg base k C m sp := ⟨p, f, fd, ps, c, h, F, b⟩
theorem pc_prop {X : Cx} {CX : CXT} {k j : Nat} {C : Addr} {m : Str} {sp : Sp} {E : XK} {e : Expr} {pos : Pos} {ta : TE} (c : Prp CX X.prog X.w X.K X.mg X.base k C m sp) (hr : Room j X.A) (hk : k + 1 ≤ j) (hx : Passes CX X.nox E) (he : PE X e ta)
    (hab : attributeBase e m X.env (eval e X.env) = eval e X.env) : PE X (.Attribute e m pos) (tProp C sp [] E ta) := by
  obtain ⟨p, g, fd, ps, hc, hp, F, b⟩ := c.ex
  exact pe_prop he hc hp F (hr.mono hk) b .nil hx hab
/-! ### classmethods, and a class made through a local name -/
theorem clm_rd {K : PySem.W.Frag} {C : Addr} (h1 : PySem.W.nsIn K PySem.cStatics "thirdparty.any" = some none) (h2 : PySem.W.typeIn K (.ref C) = some (.type "type")) (h3 : PySem.W.findIn K (.type "type") "__getattribute__" = some (some (.builtin "type.__getattribute__")))
    (h4 : PySem.W.subIn K (.type "type") (.type "type") = some true) (h5 : PySem.W.specialIn K (.ref C) "__getattribute__" = some (some (.builtin "type.__getattribute__"))) : ClX.CRead K C (.type "type") := by
  refine ⟨?_, h5⟩
  unfold PySem.W.readsIn
  rw [h1, h2, h3, h4]
  rfl
theorem clm_at {K : PySem.W.Frag} {C p g : Addr} {m : Str} {rest : List Value} (h1 : PySem.W.findIn K (.type "type") m = some none) (h2 : PySem.W.findIn K (.ref C) m = some (some (.ref p))) (h3 : PySem.W.typeIn K (.ref p) = some (.type "classmethod"))
    (h4 : PySem.W.specialIn K (.ref p) "__get__" = some (some (.builtin "classmethod.__get__"))) (h5 : PySem.W.recIn K p "classmethod" = some (.ref g :: rest)) (h7 : PySem.W.fnIn K g = true) : ClX.CMet K C (.type "type") m p g := by
  refine ⟨?_, ⟨rest, h5⟩, h7⟩
  unfold PySem.W.findCls
  rw [h1, h2]
  simp only [Option.bind_some]
  refine (if_neg (fun z => Bool.noConfusion z)).trans ?_
  rw [h3]
  simp only [Option.bind_some]
  rw [h4]
  rfl
structure ClM (CX : CXT) (P : Program) (w : World) (K : PySem.W.Frag) (mg : Str → Option Value) (base : Heap) (k : Nat) (C : Addr) (m : Str) (sp : Sp) : Prop where
  ex : ∃ (p g : Addr) (fd : FuncData) (ps : List Str), ClX.CRead K C (.type "type") ∧ ClX.CMet K C (.type "type") m p g ∧ FnOk P w K mg base CX k g fd ps sp ∧ Binds K fd ps []
theorem clm_mk {CX : CXT} {P : Program} {w : World} {K : PySem.W.Frag} {mg : Str → Option Value} {base : Heap} {k : Nat} {m : Str} {f p C : Addr} {fd : FuncData} {ps : List Str} {sp : Sp} (F : FnOk P w K mg base CX k f fd ps sp) (c : ClX.CRead K C (.type "type")) (h : ClX.CMet K C (.type "type") m p f) (b : Binds K fd ps []) : ClM CX P w K mg base k C m sp := ⟨p, f, fd, ps, c, h, F, b⟩
section
variable {X : Cx} {CX : CXT} {k j i : Nat} {C : Addr} {x y m : Str} {sp : Sp} {E : XK} {p pos apos : Pos} {e o : Expr} {es : List Expr} {to : TE} {t : TA}
theorem pc_mkL (c : Mak CX X.prog X.w X.K X.mg X.base k y C sp) (hr : Room j X.A) (hk : k + 1 ≤ j) (hN : X.N[i]? = some x) (hv : Vis X.env.scope x) (hx : Passes CX X E) (ha : PA X (e :: es) t)
    (hdb : (x == ("__debug__" : Str)) = false := by decide) (hcd : (x == ("__classdict__" : Str)) = false := by decide) (he : starEach (e :: es) X.env = (false, eval e X.env) :: starEach es X.env := by rfl) (hpl : (backTo pos (starEach es X.env)).any (·.1) = false := by rfl) :
    PE X (.Call (.Name x p) (e :: es) [] pos) (fun σ H Q => σ[i]? = some (some (.ref C)) ∧ tMake C sp [] E t σ H Q) := by
  obtain ⟨f, fd, ps, M, F, hm, b⟩ := c.ex
  refine ⟨fun pins s σ H Q I h => ?_⟩
  obtain ⟨hs, ht⟩ := h
  refine wpAny_Call_Name_kw (thn ((pe_var (pos := p) hN hv hdb hcd).run pins s σ H (fun v H1 => v = .ref C ∧ H1 = H) I ⟨.ref C, hs, rfl, rfl⟩) fun u s1 ⟨v, H1, I1, r1, q1⟩ => ?_)
  obtain ⟨rfl, rfl⟩ := q1
  cases r1
  refine PySem.W.callWith_K (h₀ := X.base) I.ok.mod.kin M.kp (thn (ha.run pos pins s1 σ _ _ I1 ht) fun us s2 ⟨vs, H2, I2, r, q⟩ => ⟨I2.kIn, ?_⟩) he hpl
  exact run_make M F (hr.mono hk) b .nil hx I2 r q
theorem pc_cm {pl : Sem Bool} (c : ClM CX X.prog X.w X.K X.mg X.base k C m sp) (hr : Room j X.A) (hk : k ≤ j) (hx : Passes CX X E) (he : PE X o to) (ha : PA X (e :: es) t)
    (hst : starEach (e :: es) X.env = (false, eval e X.env) :: starEach es X.env := by rfl) (hpl : (backTo pos (starEach es X.env)).any (·.1) = false := by rfl)
    (ht : eval (.Call (.Attribute o m apos) (e :: es) [] pos) X.env = (do
      let ov ← eval o X.env
      standAt apos.atName
      let (f, first) ← holding [ov] (getMethod ov m pl)
      callWith pos f first (backTo pos (starEach (e :: es) X.env)) (backToKw pos (keywordEach [] X.env))) := by rfl) :
    PE X (.Call (.Attribute o m apos) (e :: es) [] pos) (ClX.tCMeth C (fun vs H Q E => sp (vs ++ []) H Q E) E to t) := by
  obtain ⟨p, g, fd, ps, hc, hm, F, b⟩ := c.ex
  exact ClX.pe_cmeth (pl := pl) he hc hm (F.raw b .nil) (hr.mono hk) hx ha hst hpl ht
end
/-! ### operators of an own class, called by their signs -/
theorem inst_of {X : Cx} {pins : List (Addr × Obj)} {σ : L2.St} {H : Hp} {s : Shared} {a C dx : Addr} {fs : List (Str × V)} (I : Inv X pins σ H s) (h : H a = some (.ins C dx fs)) :
    ∃ (ox : Obj) (od : Option Obj), PySem.W.InstAt s.heap a ox C od ∧ ox.data = .plain := by
  obtain ⟨mA, O, _⟩ := ins_get I.hok h
  obtain ⟨od, J, _⟩ := O.look
  exact ⟨_, _, J, rfl⟩
theorem back_of {X : Cx} {pins : List (Addr × Obj)} {σ : L2.St} {Q : VK} {u : Value} {s : Shared} (h : EP X pins σ Q u s) : PySem.W.CmpBack (EP X pins σ Q) u s := by
  obtain ⟨v, H', I, r, q⟩ := id h
  cases u with
  | notImplemented =>
    cases v <;> first
      | exact (nomatch (show Value.notImplemented = _ from r))
      | (obtain ⟨t, e⟩ := (show ∃ t, Value.notImplemented = _ from r); cases e)
  | _ => exact h
/-- what the text has of an operator's method: run it on two values; A: where the call stands -/
theorem met_runA {X : Cx} {CX : CXT} {A : Around} {k j : Nat} {C : Addr} {m : Str} {sp : Sp} {E : XK} (c : Met CX X.prog X.w X.K X.mg X.base k C m sp) (hr : Room j A) (hk : k ≤ j) (hx : Passes CX X E)
    (hA : ∀ (s : Shared) (H : Hp), Env0 X.prog X.w X.K X.mg X.base X.A X.stack s H → Env0 X.prog X.w X.K X.mg X.base A X.stack s H) :
    ∃ f : Addr, PySem.W.findIn X.K (.ref C) m = some (some (.ref f)) ∧ PySem.W.isFn X.K (.ref f) = true ∧ PySem.W.keepIn X.K (.ref f) = true ∧
      ∀ (pins : List (Addr × Obj)) (s : Shared) (σ : L2.St) (H : Hp) (us : List Value) (vs : List V) (Q : VK), Inv X pins σ H s → Vals vs us → sp vs H Q E → wpAny (model X.prog X.w) A (call (.ref f) us) (EP X pins σ Q) X.xe s := by
  obtain ⟨f, fd, ps, hc, hm, F, b⟩ := c.ex
  refine ⟨f, hm.at_, hm.fn, hm.kp, fun pins s σ H us vs Q I r h => ?_⟩
  have hl : us.length = ps.length := by rw [← r.length]; exact F.len _ _ _ _ h
  have hb := b s us I.kIn (by rw [List.append_nil]; exact hl)
  rw [List.append_nil] at hb
  refine wpAny_call (codeAny_mono (F.run A X.stack s H ⟨us, []⟩ us vs Q E (hr.mono hk) (hA _ _ I.env0) hb r h) fun r s' hq => ?_)
  match r with
  | .error e => exact hx pins σ H s e s' I hq
  | .ok (.ret u) => exact I.after hq
  | .ok .next => exact False.elim hq
  | .ok .brk => exact False.elim hq
  | .ok .cont => exact False.elim hq
theorem met_run {X : Cx} {CX : CXT} {k j : Nat} {C : Addr} {m : Str} {sp : Sp} {E : XK} (c : Met CX X.prog X.w X.K X.mg X.base k C m sp) (hr : Room j X.A) (hk : k ≤ j) (hx : Passes CX X E) :
    ∃ f : Addr, PySem.W.findIn X.K (.ref C) m = some (some (.ref f)) ∧ PySem.W.isFn X.K (.ref f) = true ∧ PySem.W.keepIn X.K (.ref f) = true ∧
      ∀ (pins : List (Addr × Obj)) (s : Shared) (σ : L2.St) (H : Hp) (us : List Value) (vs : List V) (Q : VK), Inv X pins σ H s → Vals vs us → sp vs H Q E → wpAny (model X.prog X.w) X.A (call (.ref f) us) (EP X pins σ Q) X.xe s := met_runA c hr hk hx fun _ _ z => z
section
variable {X : Cx} {CX : CXT} {k j : Nat} {C : Addr} {m : Str} {sp : Sp} {E : XK}
def rOwn2 (C : Addr) (sp : Sp) (E : XK) : R2 := fun x y H Q => ∃ (a b dx dy : Addr) (fs gs : List (Str × V)), x = .ref a ∧ y = .ref b ∧ H a = some (.ins C dx fs) ∧ H b = some (.ins C dy gs) ∧ sp [x, y] H Q E
/-- x op y, both of one own class that has the method -/
theorem op_own {op : Operator} (c : Met CX X.prog X.w X.K X.mg X.base k C m sp) (hr : Room j X.A) (hk : k ≤ j) (hx : Passes CX X E) (sf : PySem.W.selfFirst X.K C = true) (hm : PySem.dunder op.info.2 = m := by decide +kernel) :
    OpR X (binaryOp op) (rOwn2 C sp E) := by
  intro pins s σ H x y v u Q I rx ry h
  obtain ⟨a, b, dx, dy, fs, gs, rfl, rfl, ha, hb, hs⟩ := h
  obtain ⟨f, hf, fn, kp, run⟩ := met_run c hr hk hx
  obtain ⟨mF, F⟩ := I.fr
  obtain ⟨ox, od, J, _⟩ := inst_of I ha
  obtain ⟨oy, oe, J2, _⟩ := inst_of I hb
  have r2 : Vals [V.ref a, V.ref b] [v, u] := .cons rx (.cons ry .nil)
  cases (show v = Value.ref a from rx)
  cases (show u = Value.ref b from ry)
  exact PySem.W.binop_K F I.ok.mod.kin J J2.type sf (by rw [hm]; exact hf) fn (wpAny_mono (run pins s σ H _ _ Q I r2 hs) (fun _ _ z => back_of z) fun _ _ z => z)
def rOwnI (C : Addr) (sp : Sp) (E : XK) : R2 := fun x y H Q => ∃ (a dx : Addr) (fs : List (Str × V)) (i : Int), x = .ref a ∧ y = .int i ∧ H a = some (.ins C dx fs) ∧ sp [x, y] H Q E
/-- x op i, i a whole number -/
theorem op_ownI {op : Operator} (c : Met CX X.prog X.w X.K X.mg X.base k C m sp) (hr : Room j X.A) (hk : k ≤ j) (hx : Passes CX X E) (sf : PySem.W.selfFirst X.K C = true)
    (hrc : ∃ rc, PySem.W.findIn X.K (.ref C) (dunderR op.info.2) = some rc ∧ (rc = none ∨ ∃ g : Addr, rc = some (.ref g)))
    (h1 : ∃ fo, PySem.W.findIn X.K (.type "int") (PySem.dunder op.info.2) = some fo) (h2 : ∃ ro, PySem.W.findIn X.K (.type "int") (dunderR op.info.2) = some ro) (hsub : PySem.W.subIn X.K (.type "int") (.ref C) = some false)
    (hm : PySem.dunder op.info.2 = m := by decide +kernel) : OpR X (binaryOp op) (rOwnI C sp E) := by
  intro pins s σ H x y v u Q I rx ry h
  obtain ⟨a, dx, fs, i, rfl, rfl, ha, hs⟩ := h
  obtain ⟨f, hf, fn, kp, run⟩ := met_run c hr hk hx
  obtain ⟨rc, hrc, hp⟩ := hrc
  obtain ⟨fo, h1⟩ := h1
  obtain ⟨ro, h2⟩ := h2
  obtain ⟨mF, F⟩ := I.fr
  obtain ⟨ox, od, J, _⟩ := inst_of I ha
  have r2 : Vals [V.ref a, V.int i] [v, u] := .cons rx (.cons ry .nil)
  cases (show v = Value.ref a from rx)
  obtain ⟨t, et⟩ := (show ∃ t, u = Value.int i t from ry)
  subst et
  exact PySem.W.ksp_binT (T := "int") F I.ok.mod.kin J rfl sf (by rw [hm]; exact hf) fn hrc hp h1 h2 hsub (wpAny_mono (run pins s σ H _ _ Q I r2 hs) (fun _ _ z => back_of z) fun _ _ z => z)
def rOwn1 (C : Addr) (sp : Sp) (E : XK) : V → Hp → VK → Prop := fun x H Q => ∃ (a dx : Addr) (fs : List (Str × V)), x = .ref a ∧ H a = some (.ins C dx fs) ∧ sp [x] H Q E
/-- -x -/
theorem un_own (c : Met CX X.prog X.w X.K X.mg X.base k C "__neg__" sp) (hr : Room j X.A) (hk : k ≤ j) (hx : Passes CX X E) : UnR X (unaryOp .USub) (rOwn1 C sp E) := by
  intro pins s σ H x v Q I rx h
  obtain ⟨a, dx, fs, rfl, ha, hs⟩ := h
  obtain ⟨f, hf, fn, kp, run⟩ := met_run c hr hk hx
  obtain ⟨mF, F⟩ := I.fr
  obtain ⟨ox, od, J, _⟩ := inst_of I ha
  have r1 : Vals [V.ref a] [v] := .cons rx .nil
  cases (show v = Value.ref a from rx)
  exact PySem.W.ksp_neg F I.ok.mod.kin J hf fn (run pins s σ H _ _ Q I r1 hs)
/-- int's method finds no int in an own instance -/
theorem int_declines {prog : Program} {w : World} {A : Around} {Er : Value → Shared → Prop} {s : Shared} {x D : Addr} {ox : Obj} {od : Option Obj} {i : Int} {t : Tok} {nm : String} {id : String} {nmB : String} {f : Int → Int → Sem Fin} {Q : Option Value → Shared → Prop}
    (J : PySem.W.InstAt s.heap x ox D od) (hd : ox.data = .plain) (slot : Slot "int" (PySem.dunder nm) id) (entry : entryFor table id = some (Builtin.Int.intBinary nmB f)) (args : argsOk id ⟨[.int i t, .ref x], []⟩) (h : Q none s) :
    wpAny (model prog w) A (tryMethod (.int i t) (PySem.dunder nm) (.ref x)) Q Er s := by
  refine wpAny_tryMethod_declines (typeIs_int s i t) slot ?_
  refine GQ.call_here slot (typeIs_int s i t) entry args ?_
  unfold Builtin.Int.intBinary
  obtain ⟨hp, g, d, tk, os⟩ := s
  obtain ⟨oc, odd, odt, osl⟩ := ox
  dsimp only at hd
  subst hd
  have hx : hp.get? x = some _ := J.1
  wp_walk using AutoSeq1.wpAny_loadPart' hx
  exact ⟨rfl, h⟩
end
def rIOwn (C : Addr) (sp : Sp) (E : XK) : R2 := fun x y H Q => ∃ (a dx : Addr) (fs : List (Str × V)) (i : Int), x = .int i ∧ y = .ref a ∧ H a = some (.ins C dx fs) ∧ sp [y, x] H Q E
/-- i op x, i a whole number: x's reflected method -/
theorem op_Iown {X : Cx} {CX : CXT} {k j : Nat} {C : Addr} {sp : Sp} {E : XK} {op : Operator} {nm id nmB : String} {f : Int → Int → Sem Fin} (hop : op.info.2 = nm)
    (slot : Slot "int" (PySem.dunder nm) id) (entry : entryFor table id = some (Builtin.Int.intBinary nmB f)) (args : ∀ (i : Int) (t : Tok) (x : Addr), argsOk id ⟨[.int i t, .ref x], []⟩) (fills : fillsNumberSlot (.type "int") nm = pure true)
    (c : Met CX X.prog X.w X.K X.mg X.base k C (dunderR nm) sp) (hr : Room j X.A) (hk : k ≤ j) (hx : Passes CX X E) (sf : PySem.W.selfFirst X.K C = true)
    (hs : ∃ g : Addr, PySem.W.findIn X.K (.ref C) (PySem.dunder nm) = some (some (.ref g))) (hsub : PySem.W.subIn X.K (.ref C) (.type "int") = some false) : OpR X (binaryOp op) (rIOwn C sp E) := by
  intro pins s σ H x y v u Q I rx ry h
  obtain ⟨a, dx, fs, i, rfl, rfl, ha, hsp⟩ := h
  obtain ⟨g, hs⟩ := hs
  obtain ⟨f, hf, fn, kp, run⟩ := met_run c hr hk hx
  obtain ⟨ox, od, J, hd⟩ := inst_of I ha
  have r2 : Vals [V.ref a, V.int i] [u, v] := .cons ry (.cons rx .nil)
  cases (show u = Value.ref a from ry)
  obtain ⟨t, et⟩ := (show ∃ t, v = Value.int i t from rx)
  subst et
  have one := PySem.W.ksp_try (M := model X.prog X.w) (A := X.A) (name := dunderR nm) (b := .int i t) I.kIn J hf fn (wpAny_mono (run pins s σ H _ _ Q I r2 hsp) (fun _ _ z => back_of z) fun _ _ z => z)
  obtain ⟨cd, rest, hcd, hmr⟩ := PySem.W.ksp_first sf
  have K1 : X.K.In s.heap := I.kIn
  rcases hi : op.info with ⟨sym, nm'⟩
  rw [hi] at hop
  dsimp only at hop
  subst hop
  have L2 : PySem.W.Looks (model X.prog X.w) s.heap (typeOf (.ref a)) (.ref C) := J.type
  have L4 : PySem.W.Looks (model X.prog X.w) s.heap (fillsNumberSlot (.ref C) nm') true := PySem.W.fills_K K1 hcd hmr hs
  have L5 : PySem.W.Looks (model X.prog X.w) s.heap (isSubtype (.ref C) (.type "int")) false := PySem.W.looks_subIn K1 hsub
  have hne : (Value.type "int" == Value.ref C) = false := Bool.eq_false_iff.mpr fun q => by cases beq_iff_eq.mp q
  have hpy : numberSlotInPython (.type "int") nm' = pure false := rfl
  simp only [binaryOp, hi]
  refine wpAny_holding (wpAny_bind ?_)
  unfold binaryOp1
  refine wpAny_bind (wpAny_typeOf (typeIs_int s i t) (wpAny_bind (L2.here (wpAny_bind (wpAny_of_eq fills ?_)))))
  simp only [hne, Bool.false_eq_true, if_false]
  refine wpAny_bind (L4.here ?_)
  simp only [Bool.and_self, if_true]
  refine wpAny_bind (L5.here ?_)
  simp only [Bool.false_eq_true, if_false, pure_bind, Bool.not_false, Bool.and_self, if_true, hpy]
  refine wpAny_bind (int_declines J hd slot entry (args i t a) ?_)
  dsimp only
  refine wpAny_bind (wpAny_mono one (fun r s' hr' => ?_) fun _ _ e => e)
  obtain ⟨v, rfl, hq⟩ := hr'
  exact wpAny_bind (wpAny_rule (wpAny_pure (wpAny_pure hq)))
/-- abs(x), x an own instance -/
theorem call_absO {X : Cx} {CX : CXT} {k j : Nat} {C : Addr} {sp : Sp} {E : XK} (c : Met CX X.prog X.w X.K X.mg X.base k C "__abs__" sp) (hr : Room j X.A) (hk : k + 1 ≤ j) (hx : Passes CX X E) :
    CallR X (.builtin "abs") (fun xs H Q => ∃ x, xs = [x] ∧ rOwn1 C sp E x H Q) := by
  intro pins s σ H xs us Q I r h
  obtain ⟨x, rfl, a, dx, fs, rfl, ha, hs⟩ := h
  obtain ⟨f, hf, fn, kp, run⟩ := met_runA c (hr.mono hk).in1 (Nat.le_refl _) hx (fun _ _ z => z.in1)
  obtain ⟨ox, od, J, _⟩ := inst_of I ha
  have r0 := r
  obtain ⟨u, rfl, ru⟩ := vals1 r
  cases (show u = Value.ref a from ru)
  have h1 := run pins s σ H _ _ Q I r0 hs
  refine PySem.Calls.call_function_entry PyProof.Rows.kind_abs PyProof.Rows.plain_abs PyProof.Rows.entry_abs (PyProof.Rows.args_abs _) ?_
  unfold Builtin.«abs»
  refine wpAny_bind (m := oneArg "abs" _) (wpAny_pure ?_)
  refine wpAny_bind (m := callSpecial? (.ref a) (Str.ofString "__abs__")) (PySem.W.special_fn I.kIn J hf (beq_iff_eq.mp fn) (wpAny_mono h1 (fun v s' hv => ?_) fun _ _ z => z))
  exact wpAny_pure ⟨_, rfl, hv⟩
theorem UnR.or {X : Cx} {f : Value → Sem Value} {r r' : V → Hp → VK → Prop} (h : UnR X f r) (h' : UnR X f r') : UnR X f (fun x H Q => r x H Q ∨ r' x H Q) := by
  intro pins s σ H x v Q I rx q
  rcases q with q | q
  · exact h pins s σ H x v Q I rx q
  · exact h' pins s σ H x v Q I rx q
theorem CallR.or {X : Cx} {f : Value} {r r' : List V → Hp → VK → Prop} (h : CallR X f r) (h' : CallR X f r') : CallR X f (fun x H Q => r x H Q ∨ r' x H Q) := by
  intro pins s σ H x v Q I rx q
  rcases q with q | q
  · exact h pins s σ H x v Q I rx q
  · exact h' pins s σ H x v Q I rx q
/-! ### the same operators where a try stands around: what is raised is wished for at the slots -/
theorem met_runS {X : Cx} {CX : CXT} {k j : Nat} {C : Addr} {m : Str} {sp : Sp} {E : L2.St → XK} (c : Met CX X.prog X.w X.K X.mg X.base k C m sp) (hr : Room j X.A) (hk : k ≤ j) (hx : ∀ σ, PassesAt CX X σ (E σ)) :
    ∃ f : Addr, PySem.W.findIn X.K (.ref C) m = some (some (.ref f)) ∧ PySem.W.isFn X.K (.ref f) = true ∧ PySem.W.keepIn X.K (.ref f) = true ∧
      ∀ (pins : List (Addr × Obj)) (s : Shared) (σ : L2.St) (H : Hp) (us : List Value) (vs : List V) (Q : VK), Inv X pins σ H s → Vals vs us → sp vs H Q (E σ) → wpAny (model X.prog X.w) X.A (call (.ref f) us) (EP X pins σ Q) X.xe s := by
  obtain ⟨f, fd, ps, hc, hm, F, b⟩ := c.ex
  refine ⟨f, hm.at_, hm.fn, hm.kp, fun pins s σ H us vs Q I r h => ?_⟩
  have hl : us.length = ps.length := by rw [← r.length]; exact F.len _ _ _ _ h
  have hb := b s us I.kIn (by rw [List.append_nil]; exact hl)
  rw [List.append_nil] at hb
  refine wpAny_call (codeAny_mono (F.run X.A X.stack s H ⟨us, []⟩ us vs Q (E σ) (hr.mono hk) I.env0 hb r h) fun r s' hq => ?_)
  match r with
  | .error e => exact hx σ pins H s e s' I hq
  | .ok (.ret u) => exact I.after hq
  | .ok .next => exact False.elim hq
  | .ok .brk => exact False.elim hq
  | .ok .cont => exact False.elim hq
def OpRS (X : Cx) (f : Value → Value → Sem Value) (r : L2.St → R2) : Prop :=
  ∀ (pins : List (Addr × Obj)) (s : Shared) (σ : L2.St) (H : Hp) (x y : V) (v u : Value) (Q : VK), Inv X pins σ H s → RelV x v → RelV y u → r σ x y H Q →
    wpAny (model X.prog X.w) X.A (f v u) (EP X pins σ Q) X.xe s
def tOpS (r : L2.St → R2) (ta tb : TE) : TE := fun σ H Q => ta σ H fun x H1 => tb σ H1 fun y H2 => r σ x y H2 Q
theorem pe_opS {X : Cx} {a b : Expr} {ta tb : TE} {pos : Pos} {op : Operator} {r : L2.St → R2} (ho : OpRS X (binaryOp op) r) (ha : PE X a ta) (hb : PE X b tb) : PE X (.BinOp a op b pos) (tOpS r ta tb) := by
  refine ⟨fun pins s σ H Q I h => ?_⟩
  exact wpAny_BinOp (binT (R := fun x y H2 => r σ x y H2 Q) ha hb I h fun v u s2 x y H2 I2 rx ry q => ho pins s2 σ H2 x y v u Q I2 rx ry q)
theorem OpRS.or {X : Cx} {f : Value → Value → Sem Value} {r r' : L2.St → R2} (h : OpRS X f r) (h' : OpRS X f r') : OpRS X f (fun σ x y H Q => r σ x y H Q ∨ r' σ x y H Q) := by
  intro pins s σ H x y v u Q I rx ry q
  rcases q with q | q
  · exact h pins s σ H x y v u Q I rx ry q
  · exact h' pins s σ H x y v u Q I rx ry q
section
variable {X : Cx} {CX : CXT} {k j : Nat} {C : Addr} {m : Str} {sp : Sp} {E : L2.St → XK}
theorem op_ownS {op : Operator} (c : Met CX X.prog X.w X.K X.mg X.base k C m sp) (hr : Room j X.A) (hk : k ≤ j) (hx : ∀ σ, PassesAt CX X σ (E σ)) (sf : PySem.W.selfFirst X.K C = true) (hm : PySem.dunder op.info.2 = m := by decide +kernel) :
    OpRS X (binaryOp op) (fun σ => rOwn2 C sp (E σ)) := by
  intro pins s σ H x y v u Q I rx ry h
  obtain ⟨a, b, dx, dy, fs, gs, rfl, rfl, ha, hb, hs⟩ := h
  obtain ⟨f, hf, fn, kp, run⟩ := met_runS c hr hk hx
  obtain ⟨mF, F⟩ := I.fr
  obtain ⟨ox, od, J, _⟩ := inst_of I ha
  obtain ⟨oy, oe, J2, _⟩ := inst_of I hb
  have r2 : Vals [V.ref a, V.ref b] [v, u] := .cons rx (.cons ry .nil)
  cases (show v = Value.ref a from rx)
  cases (show u = Value.ref b from ry)
  exact PySem.W.binop_K F I.ok.mod.kin J J2.type sf (by rw [hm]; exact hf) fn (wpAny_mono (run pins s σ H _ _ Q I r2 hs) (fun _ _ z => back_of z) fun _ _ z => z)
theorem op_ownIS {op : Operator} (c : Met CX X.prog X.w X.K X.mg X.base k C m sp) (hr : Room j X.A) (hk : k ≤ j) (hx : ∀ σ, PassesAt CX X σ (E σ)) (sf : PySem.W.selfFirst X.K C = true)
    (hrc : ∃ rc, PySem.W.findIn X.K (.ref C) (dunderR op.info.2) = some rc ∧ (rc = none ∨ ∃ g : Addr, rc = some (.ref g)))
    (h1 : ∃ fo, PySem.W.findIn X.K (.type "int") (PySem.dunder op.info.2) = some fo) (h2 : ∃ ro, PySem.W.findIn X.K (.type "int") (dunderR op.info.2) = some ro) (hsub : PySem.W.subIn X.K (.type "int") (.ref C) = some false)
    (hm : PySem.dunder op.info.2 = m := by decide +kernel) : OpRS X (binaryOp op) (fun σ => rOwnI C sp (E σ)) := by
  intro pins s σ H x y v u Q I rx ry h
  obtain ⟨a, dx, fs, i, rfl, rfl, ha, hs⟩ := h
  obtain ⟨f, hf, fn, kp, run⟩ := met_runS c hr hk hx
  obtain ⟨rc, hrc, hp⟩ := hrc
  obtain ⟨fo, h1⟩ := h1
  obtain ⟨ro, h2⟩ := h2
  obtain ⟨mF, F⟩ := I.fr
  obtain ⟨ox, od, J, _⟩ := inst_of I ha
  have r2 : Vals [V.ref a, V.int i] [v, u] := .cons rx (.cons ry .nil)
  cases (show v = Value.ref a from rx)
  obtain ⟨t, et⟩ := (show ∃ t, u = Value.int i t from ry)
  subst et
  exact PySem.W.ksp_binT (T := "int") F I.ok.mod.kin J rfl sf (by rw [hm]; exact hf) fn hrc hp h1 h2 hsub (wpAny_mono (run pins s σ H _ _ Q I r2 hs) (fun _ _ z => back_of z) fun _ _ z => z)
end
/-- x == y, x < y .., both of one own class that has the method -/
theorem op_cmpO {X : Cx} {CX : CXT} {k j : Nat} {C : Addr} {m : Str} {sp : Sp} {E : XK} {op : CmpOp} (c : Met CX X.prog X.w X.K X.mg X.base k C m sp) (hr : Room j X.A) (hk : k ≤ j) (hx : Passes CX X E)
    (hop : ∀ v u : Value, compareOp op v u = richCompare op v u := by intro _ _; rfl) (hm : (cmpInfo op).2.1 = m := by decide +kernel) : OpR X (compareOp op) (rOwn2 C sp E) := by
  intro pins s σ H x y v u Q I rx ry h
  obtain ⟨a, b, dx, dy, fs, gs, rfl, rfl, ha, hb, hs⟩ := h
  obtain ⟨f, hf, fn, kp, run⟩ := met_run c hr hk hx
  obtain ⟨mF, F⟩ := I.fr
  obtain ⟨ox, od, J, _⟩ := inst_of I ha
  obtain ⟨oy, oe, J2, _⟩ := inst_of I hb
  have r2 : Vals [V.ref a, V.ref b] [v, u] := .cons rx (.cons ry .nil)
  cases (show v = Value.ref a from rx)
  cases (show u = Value.ref b from ry)
  rw [hop]
  have hu : X.A.units < cLine := by have := hr.un; omega
  exact PySem.W.cmp_K hu F I.ok.mod.kin J J2.type (by unfold PySem.W.notFirst; simp) (by rw [hm]; exact hf) fn (wpAny_mono (run pins s σ H _ _ Q I r2 hs) (fun _ _ z => back_of z) fun _ _ z => z)
/-! ### a law's cells and pools: what is promised of them -/
def PoolAt (H : Hp) (p : Addr) : Prop := ∃ x y z : Int, H p = some (.lst [.int x, .int y, .int z])
theorem PoolAt.kp {H H' : Hp} {p q : Addr} (h : PoolAt H p) (k : Kp q H H') (n : p ≠ q) : PoolAt H' p := by
  obtain ⟨x, y, z, e⟩ := h
  exact ⟨x, y, z, k _ _ n e⟩
theorem PoolAt.same {H H' : Hp} {p : Addr} (h : PoolAt H p) (k : Same H H') : PoolAt H' p := by
  obtain ⟨x, y, z, e⟩ := h
  exact ⟨x, y, z, k _ _ e⟩
theorem at0 {α : Type} {a b c : α} : atI [a, b, c] (0 : Int) = some a := rfl
theorem at1 {α : Type} {a b c : α} : atI [a, b, c] (1 : Int) = some b := rfl
theorem at2 {α : Type} {a b c : α} : atI [a, b, c] (2 : Int) = some c := rfl
def sp_Lcell (K : PySem.W.Frag) : Sp := fun vs H Q _ => ∃ (l : Addr) (ns : List Int) (j : Nat), vs = [.ref l, .int (j : Int)] ∧ SqL K H l (ns.map V.int) ∧ ∀ c : Int, 0 ≤ c → Q (.int c) H
def sp_Lpool : Sp := fun vs H Q _ => ∃ c : Int, vs = [.int c] ∧ ∀ (p : Addr) (H' : Hp), H p = none → Same H H' → PoolAt H' p → Q (.ref p) H'
def sp_Ltake : Sp := fun vs H Q _ => ∃ (p : Addr) (many : Int), vs = [.ref p, .int many] ∧ PoolAt H p ∧ 0 < many ∧ many.natAbs < 2 ^ 300 ∧
  ∀ (H' : Hp) (r : Int), Kp p H H' → PoolAt H' p → 0 ≤ r → r < many → Q (.int r) H'
/-! ### told and due are the same data -/
def Pairs (R : V → V → Prop) (xs ys : List V) : Prop := xs.length = ys.length ∧ ∀ (i : Nat) (x y : V), xs[i]? = some x → ys[i]? = some y → R x y
def flatD : V → Bool
  | .non => true
  | .bl _ => true
  | .int _ => true
  | .str _ => true
  | _ => false
def SameV (K : PySem.W.Frag) (H : Hp) : Nat → V → V → Prop
  | 0, x, y => flatD x = true ∧ x = y
  | n + 1, x, y => (flatD x = true ∧ x = y) ∨
      (∃ (a b : Addr) (xs ys : List V), x = .ref a ∧ y = .ref b ∧ SqL K H a xs ∧ SqL K H b ys ∧ xs.length ≤ sizeLine ∧ Pairs (SameV K H n) xs ys) ∨
      (∃ (a b : Addr) (xs ys : List V), x = .ref a ∧ y = .ref b ∧ SqT K H a xs ∧ SqT K H b ys ∧ xs.length ≤ sizeLine ∧ Pairs (SameV K H n) xs ys)
def sp_Lsame (K : PySem.W.Frag) : Nat → Sp
  | 0 => fun _ _ _ _ => False
  | n + 1 => fun vs H Q _ => ∃ x y : V, vs = [x, y] ∧ SameV K H n x y ∧ Q (.bl true) H
theorem SameV.flat {K : PySem.W.Frag} {H : Hp} {n : Nat} {x : V} (h : flatD x = true) : SameV K H n x x := by
  cases n with
  | zero => exact ⟨h, rfl⟩
  | succ n => exact .inl ⟨h, rfl⟩
theorem Pairs.refl {R : V → V → Prop} {xs : List V} (h : ∀ x ∈ xs, R x x) : Pairs R xs xs := ⟨rfl, fun i x y h1 h2 => by
  rw [h1] at h2
  cases h2
  exact h x (List.mem_of_getElem? h1)⟩
theorem tyx_list {K : PySem.W.Frag} {H : Hp} {a : Addr} {xs : List V} (h : SqL K H a xs) : TyX K H (.ref a) (.type "list") := by
  rcases h with (h | ⟨o, h⟩) | ⟨o, its, n, h, c, _⟩
  · exact .base (.lst h)
  · exact .base (.frz h)
  · exact .kList h c
theorem tyx_tup {K : PySem.W.Frag} {H : Hp} {a : Addr} {xs : List V} (h : SqT K H a xs) : TyX K H (.ref a) (.type "tuple") := by
  rcases h with (h | ⟨o, h⟩) | ⟨o, its, n, h, c, _⟩
  · exact .base (.tup h)
  · exact .fTuple h
  · exact .kTuple h c
theorem pool_ne {H : Hp} {p q : Addr} (h : PoolAt H p) (n : H q = none) : q ≠ p := fun w => by
  obtain ⟨x, y, z, e⟩ := h
  rw [w, e] at n
  cases n
theorem none_kp {H H' : Hp} {p t : Addr} (s : Kp p H H') (n : t ≠ p) (e : H' t = none) : H t = none := by
  cases h : H t with
  | none => rfl
  | some o =>
    rw [s _ _ n h] at e
    cases e
theorem none_of {H H' : Hp} {t : Addr} (s : Same H H') (n : H' t = none) : H t = none := by
  cases e : H t with
  | none => rfl
  | some o =>
    rw [s _ _ e] at n
    cases n
theorem same_app {H2 H4 : Hp} {t : Addr} {o : HO} (s : Same H2 H4) (n : H2 t = none) : Same H2 (upd H4 t o) := fun b u e => by
  rw [upd_ne (ne_of_none e n)]
  exact s _ _ e
theorem Kp.of {p : Addr} {H H' : Hp} (s : Same H H') : Kp p H H' := fun b o _ e => s b o e
/-- a place that was free takes what it takes -/
theorem kp_app {p : Addr} {H H4 : Hp} {t : Addr} {o : HO} (s : Kp p H H4) (n : H t = none) : Kp p H (upd H4 t o) := fun b u nb e => by
  rw [upd_ne (ne_of_none e n)]
  exact s _ _ nb e
theorem sqt_pool {K : PySem.W.Frag} {H H' : Hp} {a b : Addr} {xs : List V} (h : SqT K H b xs) (k : Kp a H H') (p : PoolAt H a) : SqT K H' b xs := by
  obtain ⟨x, y, z, e⟩ := p
  rcases h with (h | ⟨o, h⟩) | h
  · exact .inl (.inl (k _ _ (fun w => by rw [w, e] at h; cases h) h))
  · exact .inl (.inr ⟨o, k _ _ (fun w => by rw [w, e] at h; cases h) h⟩)
  · exact .inr h
theorem sqt_lst {K : PySem.W.Frag} {H H' : Hp} {a b : Addr} {xs ys : List V} (h : SqT K H b xs) (k : Kp a H H') (hl : H a = some (.lst ys)) : SqT K H' b xs := by
  rcases h with (h | ⟨o, h⟩) | h
  · exact .inl (.inl (k _ _ (fun w => by rw [w, hl] at h; cases h) h))
  · exact .inl (.inr ⟨o, k _ _ (fun w => by rw [w, hl] at h; cases h) h⟩)
  · exact .inr h
/-! ### lists of values, each one of its own kind -/
inductive Al {α : Type} (R : V → α → Prop) : List V → List α → Prop where
  | nil : Al R [] []
  | cons {x : V} {y : α} {xs : List V} {ys : List α} : R x y → Al R xs ys → Al R (x :: xs) (y :: ys)
section
variable {α : Type} {R R' : V → α → Prop}
theorem Al.len : ∀ {xs : List V} {ys : List α}, Al R xs ys → xs.length = ys.length
  | _, _, .nil => rfl
  | _, _, .cons _ t => congrArg Nat.succ t.len
theorem Al.mono (h : ∀ x y, R x y → R' x y) : ∀ {xs : List V} {ys : List α}, Al R xs ys → Al R' xs ys
  | _, _, .nil => .nil
  | _, _, .cons r t => .cons (h _ _ r) (t.mono h)
theorem Al.app : ∀ {xs xs' : List V} {ys ys' : List α}, Al R xs ys → Al R xs' ys' → Al R (xs ++ xs') (ys ++ ys')
  | _, _, _, _, .nil, u => u
  | _, _, _, _, .cons r t, u => .cons r (t.app u)
theorem Al.take : ∀ {xs : List V} {ys : List α} (n : Nat), Al R xs ys → Al R (xs.take n) (ys.take n)
  | _, _, 0, _ => .nil
  | _, _, _ + 1, .nil => .nil
  | _, _, n + 1, .cons r t => .cons r (t.take n)
theorem Al.drop : ∀ {xs : List V} {ys : List α} (n : Nat), Al R xs ys → Al R (xs.drop n) (ys.drop n)
  | _, _, 0, h => h
  | _, _, _ + 1, .nil => .nil
  | _, _, n + 1, .cons _ t => t.drop n
theorem Al.snoc {xs : List V} {ys : List α} {x : V} {y : α} (h : Al R xs ys) (r : R x y) : Al R (xs ++ [x]) (ys ++ [y]) := h.app (.cons r .nil)
theorem Al.rev : ∀ {xs : List V} {ys : List α}, Al R xs ys → Al R xs.reverse ys.reverse
  | _, _, .nil => .nil
  | _, _, .cons r t => by
    rw [List.reverse_cons, List.reverse_cons]
    exact t.rev.app (.cons r .nil)
theorem Al.at : ∀ {xs : List V} {ys : List α} {i : Nat} {x : V}, Al R xs ys → xs[i]? = some x → ∃ y, ys[i]? = some y ∧ R x y
  | _, _, _, _, .nil, h => by simp at h
  | _, _, 0, _, .cons r _, h => ⟨_, rfl, by simp at h; subst h; exact r⟩
  | _, _, i + 1, _, .cons _ t, h => t.at (i := i) (by simpa using h)
theorem Al.at' {xs : List V} {ys : List α} {i : Nat} {y : α} (h : Al R xs ys) (hy : ys[i]? = some y) : ∃ x, xs[i]? = some x ∧ R x y := by
  have hi : i < xs.length := by rw [h.len]; exact (List.getElem?_eq_some_iff.mp hy).1
  obtain ⟨y', e, r⟩ := h.at (List.getElem?_eq_getElem hi)
  rw [hy] at e
  cases e
  exact ⟨_, List.getElem?_eq_getElem hi, r⟩
end
/-! ### enumerate(tuple) -/
theorem meets_enumerate_newT (l : Addr) (items : Array Value) (n : Nat) (dct : Option Addr) (sl : Array (Option Value)) :
    Meets (Builtin.«enumerate.__new__» ⟨[.type "enumerate", .ref l], []⟩) (fun _ R s => s.heap.get? l = some { cls := .type "tuple", dict := dct, data := .seq items n, slots := sl } ∧
      R (.ok (.ret (.ref (s.heap.push { cls := .type "tuple_iterator", data := .fields #[.ref l, .int 0 0] }).objs.size)))
        { s with heap := (s.heap.push { cls := .type "tuple_iterator", data := .fields #[.ref l, .int 0 0] }).push { cls := .type "enumerate", data := .fields #[.none, .bool false, .ref s.heap.objs.size, rawInt 0, .none, .none] } }) :=
  .of_wp fun prog w A R s h => by
    obtain ⟨hp, g, d, tk, os⟩ := s
    obtain ⟨hl, h⟩ := h
    have hsub := sub_enumerate
    have hL : Heap.IsTuple (Shared.heap ⟨hp, g, d, tk, os⟩) l items := ⟨_, hl, rfl, n, rfl⟩
    wp_walk using AutoSeq1.wpAny_loadPart' hl
    refine wpAny_stack_any fun st => wpAny_pure ?_
    split
    · rename_i c _ _ _ _ _
      cases (c == Value.type "enumerate")
      · wp_walk using AutoSeq1.wpAny_loadPart' hl, wpAny_pyIter_tuple hL
        exact ⟨_, rfl, h⟩
      · wp_walk using AutoSeq1.wpAny_loadPart' hl, wpAny_pyIter_tuple hL
        exact ⟨_, rfl, h⟩
    · wp_walk using AutoSeq1.wpAny_loadPart' hl, wpAny_pyIter_tuple hL
      exact ⟨_, rfl, h⟩
theorem call_enumerate_tuple {prog : Program} {w : World} {A : Around} {E : Value → Shared → Prop} {s : Shared} {l : Addr} {items : Array Value} {Q : Value → Shared → Prop} (hL : s.heap.IsTuple l items)
    (h : ∀ h', IsEnum h' (s.heap.objs.size + 1) s.heap.objs.size 0 .none → h'.IsTupleIter s.heap.objs.size l 0 → (∀ b o, s.heap.get? b = some o → h'.get? b = some o) → Q (.ref (s.heap.objs.size + 1)) { s with heap := h' }) :
    wpAny (model prog w) A (call (.type "enumerate") [.ref l]) Q E s := by
  obtain ⟨⟨c, dct, dt, sl⟩, hl, hc, n, hd⟩ := hL
  replace hc : c = .type "tuple" := hc
  replace hd : dt = .seq items n := hd
  subst hc hd
  refine callType_new F.called_enumerate (by decide) (F.typeCall_enumerate_1 _) (F.newCall_enumerate_1 _) (fun obj => F.args_object_init_2 obj _) F.entry_enumerate_new
    (meets_enumerate_newT l items n dct sl) ⟨hl, ?_⟩
  have hz : (s.heap.push { cls := .type "tuple_iterator", data := .fields #[.ref l, .int 0 0] }).objs.size = s.heap.objs.size + 1 := Heap.size_push ..
  show _ ∧ _
  rw [hz]
  have he : IsEnum ((s.heap.push { cls := .type "tuple_iterator", data := .fields #[.ref l, .int 0 0] }).push
      { cls := .type "enumerate", data := .fields #[.none, .bool false, .ref s.heap.objs.size, rawInt 0, .none, .none] }) (s.heap.objs.size + 1) s.heap.objs.size 0 .none := by
    have z := Heap.get?_push_size (s.heap.push { cls := .type "tuple_iterator", data := .fields #[.ref l, .int 0 0] })
      (o := { cls := .type "enumerate", data := .fields #[.none, .bool false, .ref s.heap.objs.size, rawInt 0, .none, .none] }) rfl
    rw [hz] at z
    exact z
  exact ⟨⟨_, he, rfl⟩, h _ he ⟨_, Heap.get?_push_of_some _ (Heap.get?_push_size _ rfl), rfl, rfl⟩ fun b o x => Heap.get?_push_of_some _ (Heap.get?_push_of_some _ x)⟩
theorem pyNext_enumT_end {prog : Program} {w : World} {A : Around} {E : Value → Shared → Prop} {s : Shared} {e it l : Addr} {i : Nat} {items : Array Value} {old : Value} {Q : Option Value → Shared → Prop} (hh : A.handled = none)
    (he : IsEnum s.heap e it i old) (hit : s.heap.IsTupleIter it l i) (hl : s.heap.IsTuple l items) (hx : items[i]? = none)
    (hQ : ∀ h', Heap.ExtBut it s.heap h' → Q none { s with heap := h' }) : wpAny (model prog w) A (pyNext (.ref e)) Q E s := by
  have hT : s.TypeIs (.ref e) "enumerate" := ⟨_, he, rfl⟩
  unfold pyNext
  refine wpAny_bind (wpAny_attempt (wpAny_callSpecial?_slot (name := Str.ofString "__next__") hT F.slot_enumerate_next
    (wpAny_call_entry F.slot_enumerate_next hT F.entry_enumerate_next ?_ (F.args_enumerate_next_1 _))))
  show wpAny _ _ (field (.ref e) 2 >>= _) _ _ _
  refine wpAny_bind (wpAny_field he rfl (x := .ref it) rfl ?_)
  refine wpAny_bind (wpAny_nextOf_tuple_end (A := A.in1) hh hit hl hx fun h' x he' hx' => ?_)
  obtain ⟨o, ho, hc⟩ := hx'
  refine wpAny_bind (wpAny_isInstance (T := "StopIteration") (b := true) ⟨o, ho, hc⟩ isSubtype_stop ?_)
  exact wpAny_pure (hQ _ he')
/-- the tuple at a, each item in a new pair -/
def Iett (K : PySem.W.Frag) (a : Addr) : It :=
  ⟨fun i H => ∃ (xs : List V) (x : V), SqT K H a xs ∧ xs[i]? = some x, fun i H v H' => ∃ T x, v = .ref T ∧ H T = none ∧ H' = upd H T (.tup [.int (i : Nat), x]) ∧ ∀ xs, SqT K H a xs → xs[i]? = some x, fun i H => ∃ xs : List V, SqT K H a xs ∧ xs.length ≤ i⟩
theorem turn_enumT {P : Program} {w : World} {K : PySem.W.Frag} {elts : List Expr} {kk : Nat} {tpos : Pos} (a e it : Addr) :
    Turn P w K (.Tuple elts kk tpos) (Iett K a) [e, it] e (fun i h => (∃ old, IsEnum h e it ((i : Nat) : Int) old) ∧ h.IsTupleIter it a i ∧ e ≠ it ∧ a ≠ it ∧ a ≠ e) where
  mem := by simp
  obj := fun i h st b hb => by
    obtain ⟨⟨old, he⟩, ⟨o, ho, hc, hd⟩, _⟩ := st
    have e' : b = e ∨ b = it := by simpa using hb
    rcases e' with z | z
    · rw [z]; exact ⟨_, he, fun v q => nomatch q⟩
    · rw [z]; exact ⟨o, ho, fun v q => by rw [hd] at q; cases q⟩
  keep := fun i h h' st k => let ⟨⟨old, he⟩, hi, hne⟩ := st; ⟨⟨old, k e (by simp) _ he⟩, hi.at fun o q => k it (by simp) o q, hne⟩
  item := by
    intro X hP hw hK hc i pins s σ H E I hf st hg
    subst hP hw hK
    obtain ⟨⟨old, he⟩, hit, hne, hae, hea⟩ := st
    obtain ⟨xs, x, hq, hx⟩ := hg
    obtain ⟨its, rv, p, hz⟩ := I.tuple hq
    obtain ⟨u, hu, ru⟩ := rv.get hx
    have p' : s.heap.IsTuple a its.toArray := p
    have hel : e < s.heap.objs.size := Heap.lt_size he
    have hil : it < s.heap.objs.size := by obtain ⟨_, q, _⟩ := hit; exact Heap.lt_size q
    have hii : i < its.toArray.size := by
      have := (List.getElem?_eq_some_iff.mp hu).1
      simpa using this
    have D := Draws.tuple (prog := X.prog) (w := X.w) (A := X.A.in1) (I.ok.hd hc) it a hae its.toArray
    refine PySem.wpAny_pyNext_enum_itemC D he ⟨hit, p'⟩ hii hne (by simp [Ne.symm hea, hne]) fun y h' tk hy ho hst' hT hsz hk => ?_
    have hyu : y = u := by
      have e1 : its.toArray[i]? = some y := hy
      rw [List.getElem?_toArray] at e1
      rw [hu] at e1
      exact (Option.some.inj e1).symm
    subst hyu
    refine ⟨_, rfl, wpAny_letOwnedTupleGo_enum (s := { s with heap := h', toks := tk + 1 }) ho fun h'' he' sb => ?_⟩
    have hT2 : h''.get? s.heap.objs.size = some { cls := .type "tuple", data := .seq #[.int i tk, y] } := (sb.2 _ (Nat.ne_of_gt hel)).trans hT
    have new : ObjOk X.prog X.w (upd H s.heap.objs.size (.tup [.int (i : Nat), x])) h'' s.heap.objs.size (.tup [.int (i : Nat), x]) :=
      ⟨by show 2 ≤ sizeLine; decide, [.int i tk, y], .cons ⟨_, rfl⟩ (.cons ru .nil), ⟨_, hT2, rfl, _, rfl⟩⟩
    have I1 : Inv X pins σ (upd H s.heap.objs.size (.tup [.int (i : Nat), x])) { s with heap := h'', toks := tk + 1 } :=
      I.turnedNew (ch := [e, it]) (fun b ob hb q => (sb.2 b (fun z => hb (by simp [z]))).trans (hk b ob (fun z => hb (by simp [z])) (fun z => hb (by simp [z])) q)) hf (Nat.le_refl _) new
    refine ⟨.ref s.heap.objs.size, _, I1, rfl, ⟨_, x, rfl, I.hok.fresh (Nat.le_refl _), rfl, fun ys hy => by rw [I.tuple_inj hy hq]; exact hx⟩, ⟨⟨y, ?_⟩, hst'.1.at fun o q => (sb.2 it (Ne.symm hne)).trans q, hne, hae, hea⟩, fun b hb => ?_⟩
    · have e1 : ((i + 1 : Nat) : Int) = (i : Int) + 1 := by omega
      rw [e1]; exact he'
    · have hb' : b < s.heap.objs.size := by
        have e' : b = e ∨ b = it := by simpa using hb
        rcases e' with z | z
        · rw [z]; exact hel
        · rw [z]; exact hil
      rw [upd_ne (Nat.ne_of_lt hb')]
      exact (hf b hb).1
  done := by
    intro X hP hw hK hc i pins s σ H E I hf st hg
    subst hP hw hK
    obtain ⟨⟨old, he⟩, hit, hne, hae, hea⟩ := st
    obtain ⟨xs, hq, hx⟩ := hg
    obtain ⟨its, rv, p, hz⟩ := I.tuple hq
    obtain ⟨f0, f1, f2, f3, f4, f5⟩ := hf it (by simp)
    have hl := rv.length
    have p' : s.heap.IsTuple a its.toArray := p
    exact pyNext_enumT_end (I.ok.hd hc) he hit p' (by simp; omega) fun h' eb => ⟨rfl, I.turned (t' := s.toks) (fun b o hb q => eb b o hb q) f0 f1 f3 f4 f5⟩
  self := fun A i s Q E st h => let ⟨⟨_, he⟩, _⟩ := st; wpAny_pyIter_enum he h
/-- what stands at a: a list or a tuple -/
def SqB (K : PySem.W.Frag) (b : Bool) (H : Hp) (a : Addr) (xs : List V) : Prop := if b then SqT K H a xs else SqL K H a xs
def ItB (K : PySem.W.Frag) (b : Bool) (a : Addr) : It := if b then Iett K a else Ite K a
/-- enumerate over a list or a tuple -/
def iEnumS (K : PySem.W.Frag) (ta : TA) : TI := fun σ H R => ta σ H fun vs H1 => ∃ a xs b, vs = [.ref a] ∧ SqB K b H1 a xs ∧ R (ItB K b a) H1
theorem pi_enumS {X : Cx} {e : Expr} {ta : TA} {p pos tpos : Pos} {elts : List Expr} {kk : Nat} (hg : Gl X "enumerate") (hm : X.mg "enumerate" = none) (ha : PA X [e] ta) (hs : starEach [e] X.env = [(false, eval e X.env)] := by rfl) :
    PI X (.Tuple elts kk tpos) (.Call (.Name "enumerate" p) [e] [] pos) (iEnumS X.K ta) := by
  refine ⟨fun pins s σ H R I h => ?_⟩
  refine Call_ (ld_blt I hg hm boot_enumerate (PyProof.Rows.callWith_type1 (thn (ha.run pos pins s σ H _ I h) fun us s1 ⟨vs, H1, I1, r1, q1⟩ => ?_) hs rfl))
  obtain ⟨a, xs, bb, ex, hq, q⟩ := q1
  subst ex
  cases r1 with
  | cons r rr =>
    cases rr
    cases r
    cases bb
    · obtain ⟨its, rv, p', hz⟩ := I1.list hq
      refine call_enumerate_list p'.isList fun h' he hit hsz hk => wpAny_pyIter_enum he ?_
      have I2 : Inv X pins σ H1 { s1 with heap := h' } := I1.kept (t' := s1.toks) hk
      refine ⟨s1.heap.objs.size + 1, [s1.heap.objs.size + 1, s1.heap.objs.size], _, _, H1, rfl, I2, turn_enum a (s1.heap.objs.size + 1) s1.heap.objs.size, ⟨⟨.none, he⟩, hit, Nat.succ_ne_self _⟩, fun b hb => ?_, q⟩
      have e' : b = s1.heap.objs.size + 1 ∨ b = s1.heap.objs.size := by simpa using hb
      have hle : s1.heap.objs.size ≤ b := by
        rcases e' with z | z
        · rw [z]; exact Nat.le_add_right _ _
        · rw [z]; exact Nat.le_refl _
      exact I1.fpOk hle (I1.hok.fresh hle)
    · obtain ⟨its, rv, p', hz⟩ := I1.tuple hq
      have hL : s1.heap.IsTuple a its.toArray := p'
      have hlt : a < s1.heap.objs.size := by obtain ⟨_, q0, _⟩ := hL; exact Heap.lt_size q0
      refine call_enumerate_tuple hL fun h' he hit hk => wpAny_pyIter_enum he ?_
      have I2 : Inv X pins σ H1 { s1 with heap := h' } := I1.kept (t' := s1.toks) hk
      refine ⟨s1.heap.objs.size + 1, [s1.heap.objs.size + 1, s1.heap.objs.size], _, _, H1, rfl, I2, turn_enumT a (s1.heap.objs.size + 1) s1.heap.objs.size, ⟨⟨.none, he⟩, hit, Nat.succ_ne_self _, Nat.ne_of_lt hlt, Nat.ne_of_lt (Nat.lt_succ_of_lt hlt)⟩, fun b hb => ?_, q⟩
      have e' : b = s1.heap.objs.size + 1 ∨ b = s1.heap.objs.size := by simpa using hb
      have hle : s1.heap.objs.size ≤ b := by
        rcases e' with z | z
        · rw [z]; exact Nat.le_add_right _ _
        · rw [z]; exact Nat.le_refl _
      exact I1.fpOk hle (I1.hok.fresh hle)
/-- the turns of enumerate over a list or a tuple: Sq is how the items stand there -/
theorem for_enumI {K : PySem.W.Frag} {I : It} {Sq : Hp → Prop} {xs : List V} {g : TG} {tb : TS} {D : Ends} {σ : L2.St} {H : Hp} (Pv : Nat → L2.St → Hp → Prop) (h0 : Pv 0 σ H) (hl : ∀ i σ H, i ≤ xs.length → Pv i σ H → Sq H)
    (hgo : ∀ H i x, Sq H → xs[i]? = some x → I.go i H) (hy : ∀ H i x H', Sq H → I.yld i H x H' → ∃ T z, x = .ref T ∧ H T = none ∧ H' = upd H T (.tup [.int (i : Nat), z]) ∧ xs[i]? = some z) (hst : ∀ H, Sq H → I.stop xs.length H)
    (hs : ∀ i x σ H T, xs[i]? = some x → Pv i σ H → H T = none → g (.ref T) σ (upd H T (.tup [.int (i : Nat), x])) fun σ2 H2 => tb { D with nx := Pv (i + 1), ct := Pv (i + 1), bk := D.nx } σ2 H2) (hd : ∀ σ H, Pv xs.length σ H → D.nx σ H) :
    ∃ W : Nat → Nat → L2.St → Hp → Prop, (∃ m, W 0 m σ H) ∧ ∀ i m σ H, W i m σ H →
      (I.stop i H ∧ D.nx σ H) ∨ (I.go i H ∧ ∃ N : L2.St → Hp → Prop, (∀ σ' H', N σ' H' → ∃ m', m' < m ∧ W (i + 1) m' σ' H') ∧ ∀ x H', I.yld i H x H' → g x σ H' fun σ2 H2 => tb { D with nx := N, ct := N, bk := D.nx } σ2 H2) := by
  refine ⟨fun i m σ H => m = xs.length - i ∧ i ≤ xs.length ∧ Pv i σ H, ⟨xs.length, by simp, Nat.zero_le _, h0⟩, ?_⟩
  rintro i m σ H ⟨rfl, hi, p⟩
  have q := hl i σ H hi p
  by_cases hlt : i < xs.length
  · refine .inr ⟨hgo H i xs[i] q (by simp [hlt]), Pv (i + 1), fun σ' H' p' => ⟨xs.length - (i + 1), by omega, rfl, hlt, p'⟩, fun x H' y => ?_⟩
    obtain ⟨T, z, e1, e2, e3, e4⟩ := hy _ _ _ _ q y
    subst e1 e3
    exact hs i z σ H T e4 p e2
  · have e : i = xs.length := by omega
    subst e
    exact .inl ⟨hst H q, hd σ H p⟩
theorem for_enumB {K : PySem.W.Frag} {bb : Bool} {a : Addr} {xs : List V} {g : TG} {tb : TS} {D : Ends} {σ : L2.St} {H : Hp} (Pv : Nat → L2.St → Hp → Prop) (h0 : Pv 0 σ H) (hl : ∀ i σ H, i ≤ xs.length → Pv i σ H → SqB K bb H a xs)
    (hs : ∀ i x σ H T, xs[i]? = some x → Pv i σ H → H T = none → g (.ref T) σ (upd H T (.tup [.int (i : Nat), x])) fun σ2 H2 => tb { D with nx := Pv (i + 1), ct := Pv (i + 1), bk := D.nx } σ2 H2) (hd : ∀ σ H, Pv xs.length σ H → D.nx σ H) :
    ∃ W : Nat → Nat → L2.St → Hp → Prop, (∃ m, W 0 m σ H) ∧ ∀ i m σ H, W i m σ H →
      ((ItB K bb a).stop i H ∧ D.nx σ H) ∨ ((ItB K bb a).go i H ∧ ∃ N : L2.St → Hp → Prop, (∀ σ' H', N σ' H' → ∃ m', m' < m ∧ W (i + 1) m' σ' H') ∧ ∀ x H', (ItB K bb a).yld i H x H' → g x σ H' fun σ2 H2 => tb { D with nx := N, ct := N, bk := D.nx } σ2 H2) := by
  refine for_enumI (K := K) (I := ItB K bb a) (Sq := fun H => SqB K bb H a xs) Pv h0 hl ?_ ?_ ?_ hs hd
  · cases bb
    · exact fun H i x q e => ⟨xs, x, q, e⟩
    · exact fun H i x q e => ⟨xs, x, q, e⟩
  · cases bb
    · rintro H i x H' q ⟨T, z, e1, e2, e3, e4⟩
      exact ⟨T, z, e1, e2, e3, e4 xs q⟩
    · rintro H i x H' q ⟨T, z, e1, e2, e3, e4⟩
      exact ⟨T, z, e1, e2, e3, e4 xs q⟩
  · cases bb
    · exact fun H q => ⟨xs, q, Nat.le_refl _⟩
    · exact fun H q => ⟨xs, q, Nat.le_refl _⟩
/-! ### a list or a tuple, walked -/
def ItS (K : PySem.W.Frag) (b : Bool) (a : Addr) : It := if b then Itt K a else Itl K a
def iSeqB (K : PySem.W.Frag) (te : TE) : TI := fun σ H R => te σ H fun x H1 => ∃ a xs b, x = .ref a ∧ SqB K b H1 a xs ∧ R (ItS K b a) H1
theorem pi_seqB {X : Cx} {tg l : Expr} {tl : TE} (hl : PE X l tl) : PI X tg l (iSeqB X.K tl) := by
  refine ⟨fun pins s σ H R I h => ?_⟩
  refine thn (hl.run pins s σ H _ I h) fun v s1 ⟨x, H1, I1, r1, q1⟩ => ?_
  obtain ⟨a, xs, b, e, hq, q⟩ := q1
  subst e
  cases r1
  cases b
  · obtain ⟨its, rv, p, hz⟩ := I1.list hq
    refine wpAny_pyIter_list p.isList ?_
    refine ⟨s1.heap.objs.size, [s1.heap.objs.size], _, _, H1, rfl, I1.kept (t' := s1.toks) fun b o e => Heap.get?_push_of_some _ e, turn_list a _, ⟨_, Heap.get?_push_size _ rfl, rfl, rfl⟩, fun b hb => ?_, q⟩
    have e : b = s1.heap.objs.size := by simpa using hb
    subst e
    exact I1.fpOk (Nat.le_refl _) (I1.hok.fresh (Nat.le_refl _))
  · obtain ⟨its, rv, p, hz⟩ := I1.tuple hq
    refine wpAny_pyIter_tuple (show s1.heap.IsTuple a its.toArray from p) ?_
    refine ⟨s1.heap.objs.size, [s1.heap.objs.size], _, _, H1, rfl, I1.kept (t' := s1.toks) fun b o e => Heap.get?_push_of_some _ e, turn_tuple a _, ⟨_, Heap.get?_push_size _ rfl, rfl, rfl⟩, fun b hb => ?_, q⟩
    have e : b = s1.heap.objs.size := by simpa using hb
    subst e
    exact I1.fpOk (Nat.le_refl _) (I1.hok.fresh (Nat.le_refl _))
theorem pi_seqBK {X : Cx} {K : PySem.W.Frag} {tg l : Expr} {tl : TE} (hK : X.K = K) (hl : PE X l tl) : PI X tg l (iSeqB K tl) := by
  subst hK
  exact pi_seqB hl
theorem lc_seqB {K : PySem.W.Frag} {bb : Bool} {a : Addr} {xs : List V} {g : TG} {tt : TT} {te : TE} {vs : List Nat} {σ : L2.St} {H1 : Hp} {D : Addr} {Qd : Hp → Prop} (Pv : Nat → Hp → Prop) (h0 : Pv 0 (upd H1 D (.lst []))) (hl : ∀ i H, i ≤ xs.length → Pv i H → SqB K bb H a xs)
    (hs : ∀ i x H, xs[i]? = some x → Pv i H → g x (wipe σ vs) H fun σ2 H2 => wipe σ2 vs = wipe σ vs ∧ tt σ2 H2 fun b H3 =>
      if b = true then te σ2 H3 fun y H4 => ∃ acc, H4 D = some (.lst acc) ∧ acc.length < sizeLine ∧ Pv (i + 1) (upd H4 D (.lst (acc ++ [y]))) else Pv (i + 1) H3) (hd : ∀ H, Pv xs.length H → Qd H) :
    ∃ W : Nat → Nat → Hp → Prop, (∃ m, W 0 m (upd H1 D (.lst []))) ∧ ∀ i m H, W i m H →
      ((ItS K bb a).stop i H ∧ Qd H) ∨ ((ItS K bb a).go i H ∧ ∃ Nx : Hp → Prop, (∀ H', Nx H' → ∃ m', m' < m ∧ W (i + 1) m' H') ∧ ∀ x H', (ItS K bb a).yld i H x H' → g x (wipe σ vs) H' fun σ2 H2 => wipe σ2 vs = wipe σ vs ∧ tt σ2 H2 fun b H3 =>
        if b = true then te σ2 H3 fun y H4 => ∃ acc, H4 D = some (.lst acc) ∧ acc.length < sizeLine ∧ Nx (upd H4 D (.lst (acc ++ [y]))) else Nx H3) := by
  cases bb
  · exact lc_list (K := K) (a := a) (xs := xs) Pv h0 hl hs hd
  · exact lc_tup (K := K) (a := a) (xs := xs) Pv h0 hl hs hd
theorem for_seqB {K : PySem.W.Frag} {bb : Bool} {a : Addr} {xs : List V} {g : TG} {tb : TS} {D : Ends} {σ : L2.St} {H : Hp} (Pv : Nat → L2.St → Hp → Prop) (h0 : Pv 0 σ H) (hl : ∀ i σ H, i ≤ xs.length → Pv i σ H → SqB K bb H a xs)
    (hs : ∀ i x σ H, xs[i]? = some x → Pv i σ H → g x σ H fun σ2 H2 => tb { D with nx := Pv (i + 1), ct := Pv (i + 1), bk := D.nx } σ2 H2) (hd : ∀ σ H, Pv xs.length σ H → D.nx σ H) :
    ∃ W : Nat → Nat → L2.St → Hp → Prop, (∃ m, W 0 m σ H) ∧ ∀ i m σ H, W i m σ H →
      ((ItS K bb a).stop i H ∧ D.nx σ H) ∨ ((ItS K bb a).go i H ∧ ∃ N : L2.St → Hp → Prop, (∀ σ' H', N σ' H' → ∃ m', m' < m ∧ W (i + 1) m' σ' H') ∧ ∀ x H', (ItS K bb a).yld i H x H' → g x σ H' fun σ2 H2 => tb { D with nx := N, ct := N, bk := D.nx } σ2 H2) := by
  cases bb
  · exact for_list (K := K) (a := a) (xs := xs) Pv h0 hl hs hd
  · exact for_tup (K := K) (a := a) (xs := xs) Pv h0 hl hs hd
/-! ### cars in lists -/
theorem sqt_same {K : PySem.W.Frag} {H H' : Hp} {a : Addr} {xs : List V} (h : SqT K H a xs) (e : Same H H') : SqT K H' a xs := by
  rcases h with (h | ⟨o, h⟩) | h
  · exact .inl (.inl (e _ _ h))
  · exact .inl (.inr ⟨o, e _ _ h⟩)
  · exact .inr h
theorem tyes {σ : L2.St} {H : Hp} {A B : Hp → Prop} (h : A H) : tYes σ H (fun b H3 => if b = true then A H3 else B H3) := by
  show (if true = true then A H else B H)
  rw [if_pos rfl]
  exact h
abbrev Car := Int × Int × Int × Int
def cr (c : Car) : List V := [.int c.1, .int c.2.1, .int c.2.2.1, .int c.2.2.2]
def CrV (K : PySem.W.Frag) (H : Hp) (x : V) (c : Car) : Prop := ∃ p : Addr, x = .ref p ∧ SqT K H p [.int c.1, .int c.2.1, .int c.2.2.1, .int c.2.2.2]
theorem CrV.same {K : PySem.W.Frag} {H H' : Hp} {x : V} {c : Car} (h : CrV K H x c) (e : Same H H') : CrV K H' x c := by
  obtain ⟨p, ex, hp⟩ := h
  exact ⟨p, ex, sqt_same hp e⟩
theorem CrV.lst {K : PySem.W.Frag} {H H' : Hp} {a : Addr} {x : V} {c : Car} {ys : List V} (h : CrV K H x c) (e : Kp a H H') (hl : H a = some (.lst ys)) : CrV K H' x c := by
  obtain ⟨p, ex, hp⟩ := h
  exact ⟨p, ex, sqt_lst hp e hl⟩
abbrev Cars (K : PySem.W.Frag) (H : Hp) := Al (CrV K H)
theorem carsS {K : PySem.W.Frag} {H H' : Hp} {xs : List V} {cs : List Car} (h : Cars K H xs cs) (e : Same H H') : Cars K H' xs cs := Al.mono (fun _ _ r => r.same e) h
theorem carsL {K : PySem.W.Frag} {H H' : Hp} {a : Addr} {ys : List V} {xs : List V} {cs : List Car} (h : Cars K H xs cs) (e : Kp a H H') (hl : H a = some (.lst ys)) : Cars K H' xs cs := Al.mono (fun _ _ r => r.lst e hl) h
theorem carsP {K : PySem.W.Frag} {H H' : Hp} {a : Addr} {xs : List V} {cs : List Car} (h : Cars K H xs cs) (e : Kp a H H') (p : PoolAt H a) : Cars K H' xs cs := by
  obtain ⟨x, y, z, e'⟩ := p
  exact carsL h e e'
theorem sqb_same {K : PySem.W.Frag} {b : Bool} {H H' : Hp} {a : Addr} {xs : List V} (h : SqB K b H a xs) (e : Same H H') : SqB K b H' a xs := by
  cases b
  · exact Same.seq e h
  · exact sqt_same h e
theorem sqb_or {K : PySem.W.Frag} {b : Bool} {H : Hp} {a : Addr} {xs : List V} (h : SqB K b H a xs) : SqL K H a xs ∨ SqT K H a xs := by
  cases b
  · exact .inl h
  · exact .inr h
theorem take_snoc {α : Type} {l : List α} {i : Nat} {x : α} (h : l[i]? = some x) : l.take i ++ [x] = l.take (i + 1) := by
  rw [List.take_add_one, h]
  rfl
theorem flat_ints (l : List Int) : (l.map V.int).all flatV = true := by
  rw [List.all_map, List.all_eq_true]
  intro j _
  rfl
/-- the same items, each flat -/
theorem same_ints {K : PySem.W.Frag} {H : Hp} {a b : Addr} {l : List Int} {n : Nat} (ha : SqL K H a (l.map V.int)) (hb : SqL K H b (l.map V.int)) (hz : l.length ≤ 100000) : SameV K H (n + 1) (.ref a) (.ref b) :=
  .inr (.inl ⟨a, b, _, _, rfl, rfl, ha, hb, by rw [List.length_map, sizeLine_eq]; omega, Pairs.refl fun x hx => by
    obtain ⟨t, _, e⟩ := List.mem_map.mp hx
    subst e
    exact SameV.flat rfl⟩)
theorem same_intsT {K : PySem.W.Frag} {H : Hp} {a b : Addr} {l : List Int} {n : Nat} (ha : SqT K H a (l.map V.int)) (hb : SqT K H b (l.map V.int)) (hz : l.length ≤ 100000) : SameV K H (n + 1) (.ref a) (.ref b) :=
  .inr (.inr ⟨a, b, _, _, rfl, rfl, ha, hb, by rw [List.length_map, sizeLine_eq]; omega, Pairs.refl fun x hx => by
    obtain ⟨t, _, e⟩ := List.mem_map.mp hx
    subst e
    exact SameV.flat rfl⟩)
theorem car_same {K : PySem.W.Frag} {H : Hp} {x y : V} {c : Car} {n : Nat} (hx : CrV K H x c) (hy : CrV K H y c) : SameV K H (n + 1) x y := by
  obtain ⟨p, rfl, hp⟩ := hx
  obtain ⟨q, rfl, hq⟩ := hy
  exact .inr (.inr ⟨p, q, _, _, rfl, rfl, hp, hq, by rw [sizeLine_eq]; show 4 ≤ 16777216; decide, Pairs.refl fun y hy => by
      simp only [List.mem_cons, List.not_mem_nil, or_false] at hy
      rcases hy with rfl | rfl | rfl | rfl <;> exact SameV.flat rfl⟩)
theorem Al.pairs {α : Type} {R : V → α → Prop} {S : V → V → Prop} (h : ∀ x y c, R x c → R y c → S x y) {xs ys : List V} {cs : List α} (a : Al R xs cs) (b : Al R ys cs) : Pairs S xs ys :=
  ⟨by rw [a.len, b.len], fun i x y hx hy => by
    obtain ⟨c, hc, r⟩ := a.at hx
    obtain ⟨c', hc', r'⟩ := b.at hy
    rw [hc] at hc'
    cases hc'
    exact h _ _ _ r r'⟩
theorem cars_sameL {K : PySem.W.Frag} {H : Hp} {a b : Addr} {xs ys : List V} {cs : List Car} {n : Nat} (ha : SqL K H a xs) (hb : SqL K H b ys) (hx : Cars K H xs cs) (hy : Cars K H ys cs) (hz : cs.length ≤ 100000) : SameV K H (n + 2) (.ref a) (.ref b) :=
  .inr (.inl ⟨a, b, _, _, rfl, rfl, ha, hb, by rw [hx.len, sizeLine_eq]; omega, Al.pairs (R := CrV K H) (S := SameV K H (n + 1)) (fun _ _ _ h1 h2 => car_same h1 h2) hx hy⟩)
theorem cars_sameT {K : PySem.W.Frag} {H : Hp} {a b : Addr} {xs ys : List V} {cs : List Car} {n : Nat} (ha : SqT K H a xs) (hb : SqT K H b ys) (hx : Cars K H xs cs) (hy : Cars K H ys cs) (hz : cs.length ≤ 100000) : SameV K H (n + 2) (.ref a) (.ref b) :=
  .inr (.inr ⟨a, b, _, _, rfl, rfl, ha, hb, by rw [hx.len, sizeLine_eq]; omega, Al.pairs (R := CrV K H) (S := SameV K H (n + 1)) (fun _ _ _ h1 h2 => car_same h1 h2) hx hy⟩)
theorem iteB {b : Bool} {A B : Prop} (hA : b = true → A) (hB : b = false → B) : if b = true then A else B := by
  cases b
  · exact iteF (hB rfl)
  · exact iteT (hA rfl)
theorem iteNe {x y : V} {A B : Prop} (e : x = y) (h : B) : if (!decide (x = y)) = true then A else B := by
  rw [decide_eq_true e]
  exact iteF h
theorem pick4 {a b c d r : Int} (h0 : 0 ≤ r) (h1 : r < 4) : ∃ v : Int, atI [V.int a, V.int b, V.int c, V.int d] r = some (V.int v) ∧ (v = a ∨ v = b ∨ v = c ∨ v = d) := by
  have : r = 0 ∨ r = 1 ∨ r = 2 ∨ r = 3 := by omega
  rcases this with e | e | e | e
  · subst e; exact ⟨a, rfl, .inl rfl⟩
  · subst e; exact ⟨b, rfl, .inr (.inl rfl)⟩
  · subst e; exact ⟨c, rfl, .inr (.inr (.inl rfl))⟩
  · subst e; exact ⟨d, rfl, .inr (.inr (.inr rfl))⟩
theorem getD_at {α : Type} {l : List α} {i : Nat} {c d : α} (h : l[i]? = some c) : l.getD i d = c := by
  rw [List.getD_eq_getElem?_getD, h]
  rfl
theorem seq_ix {i : Int} {n : Nat} (h0 : 0 ≤ i) (h1 : i < (n : Int)) : seqIndex? i n = some i.toNat := by
  unfold seqIndex?
  first
    | (simp only; split <;> first | (split <;> first | rfl | omega) | omega)
    | (have e : ¬ i < 0 := by omega
       simp [e, h1, h0])
theorem cut_drop (xs : List V) (w : Nat) : cutV xs (some (w : Int)) none = xs.drop w := by
  have e0 : HT.sIx xs.length xs.length none = xs.length := rfl
  have e1 : HT.sIx xs.length 0 (some (w : Int)) = min w xs.length := by
    simp only [HT.sIx]
    split <;> omega
  unfold cutV
  rw [e0, e1]
  by_cases h : w ≤ xs.length
  · rw [Nat.min_eq_left h, List.take_of_length_le (by rw [List.length_drop]; omega)]
  · rw [Nat.min_eq_right (by omega), List.drop_length, List.drop_of_length_le (by omega), List.take_nil]
/-! ### a written dict from ints to ints -/
def lkI (l : List (Int × Int)) (k : Int) : Option Int := match l with
  | [] => none
  | p :: r => if p.1 = k then some p.2 else lkI r k
structure KDI (K : PySem.W.Frag) (d : Addr) (f : Int → Option Int) : Prop where
  ex : ∃ (es : Array DictEntry) (n : Nat), K.lookup d = some ⟨.type "dict", none, .dict es n, #[]⟩ ∧ (∀ e ∈ es, ∃ k t, e.key = .int k t ∧ e.hash = hashInt k) ∧
    ∀ k, (f k = none → findBy Value.isInt es k = none) ∧ ∀ v, f k = some v → ∃ t, findBy Value.isInt es k = some (.int v t)
  low : (d == sysModules) = false
def entI (q : (Int × Int) × (Tok × Tok)) : DictEntry := ⟨hashInt q.1.1, .int q.1.1 q.2.1, .int q.1.2 q.2.2⟩
theorem kdi_mk {K : PySem.W.Frag} {d : Addr} {n : Nat} (q : List ((Int × Int) × (Tok × Tok))) (l : K.lookup d = some ⟨.type "dict", none, .dict (q.map entI).toArray n, #[]⟩) (low : (d == sysModules) = false) : KDI K d (lkI (q.map (·.1))) := by
  refine ⟨⟨_, n, l, fun e he => ?_, fun k => ?_⟩, low⟩
  · rw [List.mem_toArray] at he
    obtain ⟨x, _, rfl⟩ := List.mem_map.mp he
    exact ⟨_, _, rfl, rfl⟩
  · unfold findBy
    rw [List.find?_toArray]
    clear l
    induction q with
    | nil => exact ⟨fun _ => rfl, fun v h => by cases h⟩
    | cons x q ih =>
      rw [List.map_cons, List.map_cons, List.find?_cons]
      by_cases h : x.1.1 = k
      · have e : Value.isInt k (entI x).key = true := by
          show Value.isInt k (.int x.1.1 x.2.1) = true
          simp [Value.isInt, h]
        rw [e]
        refine ⟨fun z => ?_, fun v z => ?_⟩
        · unfold lkI at z
          rw [if_pos h] at z
          cases z
        · unfold lkI at z
          rw [if_pos h] at z
          cases z
          exact ⟨_, rfl⟩
      · have e : Value.isInt k (entI x).key = false := by
          show Value.isInt k (.int x.1.1 x.2.1) = false
          simp [Value.isInt, h]
        rw [e]
        have e2 : lkI (x.1 :: q.map (·.1)) k = lkI (q.map (·.1)) k := by
          conv => lhs; unfold lkI
          rw [if_neg h]
        rw [e2]
        exact ih
section
variable {X : Cx} {d : Addr} {f : Int → Option Int}
theorem kdi_map {pins : List (Addr × Obj)} {σ : L2.St} {H : Hp} {s : Shared} (D : KDI X.K d f) (I : Inv X pins σ H s) : ∃ g : Int → Option Value, s.heap.MapOf (intKind X.prog X.w) d g ∧ ∀ k, (f k = none → g k = none) ∧ ∀ v, f k = some v → ∃ t, g k = some (.int v t) := by
  obtain ⟨es, n, l, hk, hf⟩ := D.ex
  refine ⟨fun k => findBy Value.isInt es k, ⟨_, es, n, I.kIn _ _ l, ⟨rfl, rfl, rfl⟩, rfl, fun e he => ?_, fun _ => rfl⟩, hf⟩
  obtain ⟨k, t, e1, e2⟩ := hk e he
  exact ⟨k, by rw [e1]; exact intKind_is X.prog X.w k t, e2⟩
theorem op_notIn_kdi (D : KDI X.K d f) : OpR X (compareOp .NotIn) (fun x y H Q => ∃ k : Int, x = .int k ∧ y = .ref d ∧ Q (.bl (!(f k).isSome)) H) := by
  intro pins s σ H x y v u Q I rx ry h
  obtain ⟨k, rfl, rfl, q⟩ := h
  obtain ⟨t, rfl⟩ := rx
  cases ry
  obtain ⟨g, hm, hg⟩ := kdi_map D I
  refine wpAny_notIn_of (intKind_is X.prog X.w k t) D.low hm ?_
  have e : (g k).isSome = (f k).isSome := by
    cases hf : f k with
    | none =>
      rw [(hg k).1 hf]
      rfl
    | some v =>
      obtain ⟨t, e⟩ := (hg k).2 v hf
      rw [e]
      rfl
  rw [e]
  exact ⟨.bl (!(f k).isSome), H, I.tok _, rfl, q⟩
theorem ix_kdi (D : KDI X.K d f) : IxR X (fun x y H Q => ∃ k v : Int, x = .ref d ∧ y = .int k ∧ f k = some v ∧ Q (.int v) H) := by
  intro value slice pins s σ H x y u v Q I rx ry h hs
  obtain ⟨k, z, rfl, rfl, e, q⟩ := h
  cases rx
  obtain ⟨t, rfl⟩ := ry
  obtain ⟨g, hm, hg⟩ := kdi_map D I
  obtain ⟨t2, e2⟩ := (hg k).2 z e
  exact PyProof.Rows.tail_any hm.typeIs slot_dict_getitem.lookup (wpAny_getItem_of (intKind_is X.prog X.w k t) hm e2 ⟨.int z, H, I.tok _, ⟨_, rfl⟩, q⟩) hs
end
theorem int_at {hs : List Int} {i : Nat} {y : V} (h : (hs.map V.int)[i]? = some y) : ∃ z : Int, hs[i]? = some z ∧ y = .int z := by
  rw [List.getElem?_map] at h
  cases e : hs[i]? with
  | none => rw [e] at h; cases h
  | some z => rw [e] at h; cases h; exact ⟨z, rfl, rfl⟩
/-! ### claims -/
def clf (tp : Addr) : List (Str × V) := putF "table" (.ref tp) []
theorem clf_table (tp : Addr) : (clf tp).lookup ("table" : Str) = some (.ref tp) := by
  unfold clf
  rw [lookup_putF, if_pos rfl]
theorem clf_no (tp : Addr) {m : Str} (h : ¬ m = "table") : (clf tp).lookup m = none := by
  unfold clf
  rw [lookup_putF, if_neg h]
  all_goals rfl
def ClmAt (K : PySem.W.Frag) (C : Addr) (H : Hp) (a : Addr) (ns : List Int) : Prop := ∃ (dx tp : Addr), H a = some (.ins C dx (clf tp)) ∧ H tp = some (.tup (ns.map V.int))
theorem ClmAt.same {K : PySem.W.Frag} {C : Addr} {H H' : Hp} {a : Addr} {ns : List Int} (h : ClmAt K C H a ns) (e : Same H H') : ClmAt K C H' a ns := by
  obtain ⟨dx, tp, h1, h2⟩ := h
  exact ⟨dx, tp, e _ _ h1, e _ _ h2⟩
def LenOk (n : Nat) : Prop := n = 2 ∨ n = 4 ∨ n = 8 ∨ n = 16
def Tab (ns : List Int) : Prop := LenOk ns.length ∧ ∀ n ∈ ns, 0 ≤ n
theorem LenOk.le {n : Nat} (h : LenOk n) : n ≤ 16 := by unfold LenOk at h; omega
def grt (a b : Int) : Int := if a > b then a else b
def shf (ns : List Int) (w : Int) : List Int := (List.range ns.length).map fun m => grt (ns.getD (2 * m % ns.length) 0) (ns.getD (2 * m % ns.length + 1) 0 - w)
theorem shf_len (ns : List Int) (w : Int) : (shf ns w).length = ns.length := by unfold shf; rw [List.length_map, List.length_range]
theorem low_lt {n m : Nat} (h : LenOk n) : 2 * m % n + 1 < n := by
  rcases h with rfl | rfl | rfl | rfl <;> omega
theorem getD_mem {ns : List Int} {i : Nat} (h : i < ns.length) : ns.getD i 0 ∈ ns := by
  rw [List.getD_eq_getElem?_getD, List.getElem?_eq_getElem h]
  exact List.getElem_mem h
theorem shf_tab {ns : List Int} {w : Int} (h : Tab ns) : Tab (shf ns w) := by
  refine ⟨by rw [shf_len]; exact h.1, fun n hn => ?_⟩
  obtain ⟨m, _, rfl⟩ := List.mem_map.mp hn
  have := low_lt (m := m) h.1
  have z := h.2 _ (getD_mem (i := 2 * m % ns.length) (by omega))
  unfold grt
  split <;> omega
theorem int_get {ns : List Int} {i : Nat} (h : i < ns.length) : atI (ns.map V.int) ((i : Nat) : Int) = some (.int (ns.getD i 0)) := by
  refine atI_nat ?_
  rw [List.getElem?_map, List.getD_eq_getElem?_getD, List.getElem?_eq_getElem h]
  rfl
def sp_Claims_init (K : PySem.W.Frag) (C : Addr) : Sp := fun vs H Q _ => ∃ (x dx l : Addr) (ns : List Int), vs = [.ref x, .ref l] ∧ H x = some (.ins C dx []) ∧ SqL K H l (ns.map V.int) ∧ Tab ns ∧
  ∀ H', Kp x H H' → ClmAt K C H' x ns → Q .non H'
def sp_greater : Sp := fun vs H Q _ => ∃ a b : Int, vs = [.int a, .int b] ∧ Q (.int (grt a b)) H
def sp_rshift (K : PySem.W.Frag) (C : Addr) : Sp := fun vs H Q _ => ∃ (a : Addr) (ns : List Int) (w : Int), vs = [.ref a, .int w] ∧ ClmAt K C H a ns ∧ Tab ns ∧
  ∀ (H' : Hp) (b : Addr), Same H H' → H b = none → ClmAt K C H' b (shf ns w) → Q (.ref b) H'
/-- how many of the hours below h are in the mask -/
def hrsN (m h : Nat) : Nat := ((List.range h).map fun k => m / 2 ^ k % 2).sum
theorem hrsN_succ (m h : Nat) : hrsN m (h + 1) = hrsN m h + m / 2 ^ h % 2 := by
  unfold hrsN
  rw [List.range_succ, List.map_append, List.sum_append]
  simp
def spn (n : Nat) : Nat := if n = 2 then 1 else if n = 4 then 2 else if n = 8 then 3 else 4
theorem hrs_span {n m : Nat} (h : LenOk n) (hm : m < n) : hrsN m (spn n) = hrsN m 4 := by
  rcases h with rfl | rfl | rfl | rfl
  · revert m; decide
  · revert m; decide
  · revert m; decide
  · revert m; decide
def ovr (ns : List Int) (w : Int) : Option Nat := (List.range ns.length).find? fun m => decide (ns.getD m 0 > w * (hrsN m 4 : Nat))
def ov2 : Option Nat → V
  | none => .non
  | some m => .int (m : Nat)
theorem ov2_flat (o : Option Nat) : flatD (ov2 o) = true := by cases o <;> rfl
theorem ovr_hit {ns : List Int} {w : Int} {i : Nat} (hi : i < ns.length) (h : ∀ j, j < i → ¬ ns.getD j 0 > w * (hrsN j 4 : Nat)) (hp : ns.getD i 0 > w * (hrsN i 4 : Nat)) : ovr ns w = some i := by
  unfold ovr
  rw [List.find?_range_eq_some]
  refine ⟨decide_eq_true hp, List.mem_range.mpr hi, fun j hj => ?_⟩
  rw [decide_eq_false (h j hj)]
  rfl
theorem ovr_no {ns : List Int} {w : Int} (h : ∀ j, j < ns.length → ¬ ns.getD j 0 > w * (hrsN j 4 : Nat)) : ovr ns w = none := by
  unfold ovr
  rw [List.find?_range_eq_none]
  intro j hj
  rw [decide_eq_false (h j hj)]
  rfl
def sp_hours : Sp := fun vs H Q _ => ∃ m h : Nat, vs = [.int (m : Nat), .int (h : Nat)] ∧ h ≤ 100 ∧ ∀ H', Same H H' → Q (.int (hrsN m h : Nat)) H'
def sp_span (K : PySem.W.Frag) (C : Addr) : Sp := fun vs H Q _ => ∃ (a : Addr) (ns : List Int), vs = [.ref a] ∧ ClmAt K C H a ns ∧ LenOk ns.length ∧ Q (.int (spn ns.length : Nat)) H
def sp_over (K : PySem.W.Frag) (C : Addr) : Sp := fun vs H Q _ => ∃ (a : Addr) (ns : List Int) (w : Int), vs = [.ref a, .int w] ∧ ClmAt K C H a ns ∧ LenOk ns.length ∧ -(2 ^ 60) < w ∧ w < 2 ^ 60 ∧ ∀ H', Same H H' → Q (ov2 (ovr ns w)) H'
def sp_fits (K : PySem.W.Frag) (C : Addr) : Sp := fun vs H Q _ => ∃ (a : Addr) (ns : List Int) (w : Int), vs = [.ref a, .int w] ∧ ClmAt K C H a ns ∧ LenOk ns.length ∧ -(2 ^ 60) < w ∧ w < 2 ^ 60 ∧ ∀ H', Same H H' → Q (.bl (decide (ov2 (ovr ns w) = .non))) H'
/-- the units that an open car must take in the mask's hours -/
def dm (c : Car) (m : Nat) : Int := if c.2.2.2 - (c.2.2.1 - (hrsN m c.2.2.1.toNat : Nat)) > 0 then c.2.2.2 - (c.2.2.1 - (hrsN m c.2.2.1.toNat : Nat)) else 0
def dms (cs : List Car) (m : Nat) : Int := (cs.map fun c => dm c m).sum
def tabN (span : Nat) (cs : List Car) : List Int := (List.range (2 ^ span)).map fun m => dms cs m
theorem dm_nn (c : Car) (m : Nat) : 0 ≤ dm c m := by
  unfold dm
  split <;> omega
theorem dms_snoc (cs : List Car) (c : Car) (m : Nat) : dms (cs ++ [c]) m = dms cs m + dm c m := by
  unfold dms
  rw [List.map_append, List.sum_append, List.map_singleton]
  simp
theorem dms_nn (cs : List Car) (m : Nat) : 0 ≤ dms cs m := by
  induction cs with
  | nil => exact Int.le_refl 0
  | cons c cs ih =>
    have := dm_nn c m
    unfold dms at ih ⊢
    rw [List.map_cons, List.sum_cons]
    omega
theorem dms_rev (cs : List Car) (m : Nat) : dms cs.reverse m = dms cs m := by
  induction cs with
  | nil => rfl
  | cons c cs ih =>
    rw [List.reverse_cons, dms_snoc, ih]
    unfold dms
    rw [List.map_cons, List.sum_cons]
    omega
theorem tabN_rev (span : Nat) (cs : List Car) : tabN span cs.reverse = tabN span cs := by
  unfold tabN
  exact congrArg (fun f => (List.range (2 ^ span)).map f) (funext fun m => dms_rev cs m)
theorem tabN_len (span : Nat) (cs : List Car) : (tabN span cs).length = 2 ^ span := by
  unfold tabN
  rw [List.length_map, List.length_range]
theorem pow_ok {n : Nat} (h0 : 1 ≤ n) (h1 : n ≤ 4) : LenOk (2 ^ n) ∧ 2 ^ n ≤ 16 ∧ 2 ≤ 2 ^ n := by
  have : n = 1 ∨ n = 2 ∨ n = 3 ∨ n = 4 := by omega
  rcases this with rfl | rfl | rfl | rfl <;> exact ⟨by unfold LenOk; decide, by decide, by decide⟩
theorem tabN_tab {span : Nat} {cs : List Car} (h0 : 1 ≤ span) (h1 : span ≤ 4) : Tab (tabN span cs) := by
  refine ⟨by rw [tabN_len]; exact (pow_ok h0 h1).1, fun n hn => ?_⟩
  obtain ⟨m, _, rfl⟩ := List.mem_map.mp hn
  exact dms_nn cs m
theorem tabN_at {span m : Nat} {cs : List Car} (h : m < 2 ^ span) : (tabN span cs)[m]? = some (dms cs m) := by
  unfold tabN
  rw [List.getElem?_map, List.getElem?_range h]
  rfl
theorem spn_pow {n : Nat} (h0 : 1 ≤ n) (h1 : n ≤ 4) : spn (2 ^ n) = n := by
  have : n = 1 ∨ n = 2 ∨ n = 3 ∨ n = 4 := by omega
  rcases this with rfl | rfl | rfl | rfl <;> decide
def zer (span : Nat) : List Int := List.replicate (2 ^ span) 0
theorem zer_tab {span : Nat} (h0 : 1 ≤ span) (h1 : span ≤ 4) : Tab (zer span) := by
  refine ⟨by unfold zer; rw [List.length_replicate]; exact (pow_ok h0 h1).1, fun n hn => ?_⟩
  rw [List.eq_of_mem_replicate hn]
  exact Int.le_refl 0
theorem zer_nil (span : Nat) : tabN span [] = zer span := by
  unfold tabN zer
  rw [show (fun m => dms [] m) = fun _ => (0 : Int) from rfl, List.map_const', List.length_range]
/-- a car that Claims.of takes -/
def CarS (span : Nat) (c : Car) : Prop := 0 ≤ c.2.2.1 ∧ c.2.2.1 ≤ span
def sp_mask : Sp := fun vs H Q _ => ∃ n : Nat, vs = [.int (n : Nat)] ∧ n ≤ 100 ∧ Q (.int ((2 ^ n : Nat) : Int)) H
def sp_dem1 (K : PySem.W.Frag) : Sp := fun vs H Q _ => ∃ (p : Addr) (c : Car) (m : Nat), vs = [.ref p, .int (m : Nat)] ∧ SqT K H p [.int c.1, .int c.2.1, .int c.2.2.1, .int c.2.2.2] ∧ 0 ≤ c.2.2.1 ∧ c.2.2.1 ≤ 100 ∧ ∀ H', Same H H' → Q (.int (dm c m)) H'
def sp_of (K : PySem.W.Frag) (C : Addr) : Sp := fun vs H Q _ => ∃ (cl : Addr) (b : Bool) (span : Nat) (xs : List V) (cs : List Car), vs = [.ref C, .int (span : Nat), .ref cl] ∧ 1 ≤ span ∧ span ≤ 4 ∧ SqB K b H cl xs ∧ Cars K H xs cs ∧ cs.length ≤ 200 ∧ (∀ c ∈ cs, CarS span c) ∧
  ∀ (H' : Hp) (r : Addr), Same H H' → H r = none → ClmAt K C H' r (tabN span cs) → Q (.ref r) H'
def sp_none (K : PySem.W.Frag) (C : Addr) : Sp := fun vs H Q _ => ∃ (span : Nat), vs = [.ref C, .int (span : Nat)] ∧ 1 ≤ span ∧ span ≤ 4 ∧
  ∀ (H' : Hp) (r : Addr), Same H H' → H r = none → ClmAt K C H' r (zer span) → Q (.ref r) H'
theorem mk_same {H J : Hp} {x dx C : Addr} (hx : H x = none) (hdx : H dx = none) (k : Kp x (upd (upd H dx (.own x)) x (.ins C dx [])) J) : Same H J := fun b o e => k b o (ne_of_none e hx) (by
  rw [upd_ne (ne_of_none e hx), upd_ne (ne_of_none e hdx)]
  exact e)
def topS (i : Nat) : Stmt := PySem.Challenge.pw_onecable_k40_claims_of_open_cars.main.body.getD i (.Pass ⟨0, 0, 0, 0⟩)
abbrev s_umask_count : Stmt := topS 6
theorem sc_umask_count : FnScope ["span", "count", "_"] ["span"] (defScope s_umask_count) := ⟨rfl, rfl, rfl, by decide +kernel, rfl, by decide +kernel, by decide +kernel⟩
abbrev s_uhours_in : Stmt := topS 7
theorem sc_uhours_in : FnScope ["mask", "hours", "hour"] ["mask", "hours"] (defScope s_uhours_in) := ⟨rfl, rfl, rfl, by decide +kernel, rfl, by decide +kernel, by decide +kernel⟩
abbrev s_udemand : Stmt := topS 8
theorem sc_udemand : FnScope ["car", "mask", "_", "left", "want"] ["car", "mask"] (defScope s_udemand) := ⟨rfl, rfl, rfl, by decide +kernel, rfl, by decide +kernel, by decide +kernel⟩
abbrev s_Claims_init : Stmt := inClass (topS 10) 0
theorem sc_Claims_init : FnScope ["self", "table", "number"] ["self", "table"] (defScope s_Claims_init) := ⟨rfl, rfl, rfl, by decide +kernel, rfl, by decide +kernel, by decide +kernel⟩
abbrev s_Claims_none : Stmt := inClass (topS 10) 1
theorem sc_Claims_none : FnScope ["cls", "span"] ["cls", "span"] (defScope s_Claims_none) := ⟨rfl, rfl, rfl, by decide +kernel, rfl, by decide +kernel, by decide +kernel⟩
abbrev s_Claims_of : Stmt := inClass (topS 10) 2
theorem sc_Claims_of : FnScope ["cls", "span", "cars", "mask", "car"] ["cls", "span", "cars"] (defScope s_Claims_of) := ⟨rfl, rfl, rfl, by decide +kernel, rfl, by decide +kernel, by decide +kernel⟩
abbrev s_Claims_span : Stmt := inClass (topS 10) 3
theorem sc_Claims_span : FnScope ["self"] ["self"] (defScope s_Claims_span) := ⟨rfl, rfl, rfl, by decide +kernel, rfl, by decide +kernel, by decide +kernel⟩
abbrev s_Lcell : Stmt := topS 12
theorem sc_Lcell : FnScope ["_law_script", "_law_at"] ["_law_script", "_law_at"] (defScope s_Lcell) := ⟨rfl, rfl, rfl, by decide +kernel, rfl, by decide +kernel, by decide +kernel⟩
abbrev s_Lpool : Stmt := topS 13
theorem sc_Lpool : FnScope ["_law_cell_here"] ["_law_cell_here"] (defScope s_Lpool) := ⟨rfl, rfl, rfl, by decide +kernel, rfl, by decide +kernel, by decide +kernel⟩
abbrev s_Ltake : Stmt := topS 14
theorem sc_Ltake : FnScope ["_law_pool_here", "_law_many", "_law_digit", "_law_mixed"] ["_law_pool_here", "_law_many"] (defScope s_Ltake) := ⟨rfl, rfl, rfl, by decide +kernel, rfl, by decide +kernel, by decide +kernel⟩
abbrev s_Lsame : Stmt := topS 15
theorem sc_Lsame : FnScope ["_law_told", "_law_due_here", "_law_k"] ["_law_told", "_law_due_here"] (defScope s_Lsame) := ⟨rfl, rfl, rfl, by decide +kernel, rfl, by decide +kernel, by decide +kernel⟩
abbrev s_Lcar : Stmt := topS 16
theorem sc_Lcar : FnScope ["_law_pool_here", "_law_span", "_law_stay", "_law_need", "_law_left", "_law_least"] ["_law_pool_here", "_law_span"] (defScope s_Lcar) := ⟨rfl, rfl, rfl, by decide +kernel, rfl, by decide +kernel, by decide +kernel⟩
abbrev s_Ldue : Stmt := topS 17
theorem sc_Ldue : FnScope ["_law_cars", "_law_span", "_law_table", "_law_mask", "_law_hours", "_law_total", "_law_car_here", "_law_outside", "_law_hour"] ["_law_cars", "_law_span"] (defScope s_Ldue) := ⟨rfl, rfl, rfl, by decide +kernel, rfl, by decide +kernel, by decide +kernel⟩
abbrev s_Lshows : Stmt := topS 18
theorem sc_Lshows : FnScope ["_law_told", "_law_span", "_law_table"] ["_law_told", "_law_span", "_law_table"] (defScope s_Lshows) := ⟨rfl, rfl, rfl, by decide +kernel, rfl, by decide +kernel, by decide +kernel⟩
abbrev s_law : Stmt := topS 19
theorem sc_law : FnScope ["_law_script", "_law_span", "_law_pool_here", "_law_many", "_law_cars", "_law_due_here", "_law_handed", "_law_told", "_law_turned", "_law_nothing", "_law_k", "_law_number"] ["_law_script"] (defScope s_law) := ⟨rfl, rfl, rfl, by decide +kernel, rfl, by decide +kernel, by decide +kernel⟩
def scb_Claims_of : Scope := match defBody s_Claims_of with
  | [.Return (some (.Call _ [.ListComp _ _ sc _] _ _)) _] => PySem.relabel sc { scope := defScope s_Claims_of, locals := 0, globals := 0, cells := [] }
  | _ => defScope s_Claims_of
def bitS (m h : Nat) : List Nat := (List.range h).filter fun k => decide (m / 2 ^ k % 2 = 1)
def outS (m h : Nat) : List Nat := (List.range h).filter fun k => !decide (m / 2 ^ k % 2 = 1)
theorem bitS_mem {m h k : Nat} : k ∈ bitS m h ↔ k < h ∧ m / 2 ^ k % 2 = 1 := by
  unfold bitS
  rw [List.mem_filter, List.mem_range, decide_eq_true_iff]
theorem filt_snoc (p : Nat → Bool) (i : Nat) : (List.range (i + 1)).filter p = (List.range i).filter p ++ (if p i = true then [i] else []) := by
  rw [List.range_succ, List.filter_append, List.filter_cons]
  rfl
theorem outS_len (m : Nat) : ∀ h, (outS m h).length + hrsN m h = h
  | 0 => rfl
  | h + 1 => by
    have ih := outS_len m h
    unfold outS at ih ⊢
    rw [filt_snoc, List.length_append, hrsN_succ]
    by_cases hb : m / 2 ^ h % 2 = 1
    · rw [decide_eq_true hb]
      show _ + 0 + _ = _
      omega
    · rw [decide_eq_false hb]
      show _ + 1 + _ = _
      omega
def ixs (l : List Nat) : List V := l.map fun i => V.int (i : Nat)
theorem ixs_len (l : List Nat) : (ixs l).length = l.length := List.length_map ..
theorem inV_ix {k : Nat} {l : List Nat} : inV (.int (k : Nat)) (ixs l) = decide (k ∈ l) := by
  unfold inV ixs
  rw [List.any_map, Bool.eq_iff_iff, List.any_eq_true, decide_eq_true_iff]
  constructor
  · rintro ⟨x, hx, e⟩
    have e2 : ((x : Nat) : Int) = ((k : Nat) : Int) := eq_of_beq (show (((x : Nat) : Int) == ((k : Nat) : Int)) = true from e)
    have : x = k := by omega
    rw [← this]
    exact hx
  · intro h
    exact ⟨k, h, by show (((k : Nat) : Int) == ((k : Nat) : Int)) = true; exact beq_self_eq_true _⟩
theorem flat_ixs (l : List Nat) : (ixs l).all flatV = true := by
  unfold ixs
  rw [List.all_map, List.all_eq_true]
  intro j _
  rfl
theorem range_snoc' {α : Type} (f : Nat → α) (i : Nat) : (List.range (i + 1)).map f = (List.range i).map f ++ [f i] := by
  rw [List.range_succ, List.map_append]
  rfl
def CarD (span : Nat) (c : Car) : Prop := 1 ≤ c.2.2.1 ∧ c.2.2.1 ≤ span
def sp_Lcar : Sp := fun vs H Q _ => ∃ (p : Addr) (span : Nat), vs = [.ref p, .int (span : Nat)] ∧ 1 ≤ span ∧ span ≤ 4 ∧ PoolAt H p ∧
  ∀ (H' : Hp) (q : Addr) (c : Car), Kp p H H' → PoolAt H' p → H q = none → H' q = some (.tup [.int c.1, .int c.2.1, .int c.2.2.1, .int c.2.2.2]) → CarD span c → Q (.ref q) H'
def sp_Ldue (K : PySem.W.Frag) : Sp := fun vs H Q _ => ∃ (cl : Addr) (span : Nat) (xs : List V) (cs : List Car), vs = [.ref cl, .int (span : Nat)] ∧ 1 ≤ span ∧ span ≤ 4 ∧ SqL K H cl xs ∧ Cars K H xs cs ∧ cs.length ≤ 200 ∧ (∀ c ∈ cs, CarD span c) ∧
  ∀ (H' : Hp) (p : Addr), Same H H' → H p = none → H' p = some (.tup ((tabN span cs).map V.int)) → Q (.ref p) H'
def sp_Lshows (K : PySem.W.Frag) (C : Addr) : Sp := fun vs H Q _ => ∃ (a t : Addr) (span : Nat) (ns : List Int), vs = [.ref a, .int (span : Nat), .ref t] ∧ ClmAt K C H a ns ∧ LenOk ns.length ∧ spn ns.length = span ∧ SqT K H t (ns.map V.int) ∧ ∀ H', Same H H' → Q (.bl true) H'
def sp_law (K : PySem.W.Frag) : Sp := fun vs H Q _ => ∃ (a : Addr) (ns : List Int), vs = [.ref a] ∧ SqL K H a (ns.map V.int) ∧ ns.length ≤ 63 ∧ ∀ H', Q (.bl true) H'
structure Txt (P : Program) (w : World) (K : PySem.W.Frag) (mg : Str → Option Value) (C_Claims A_SPANS : Addr) : Prop where
  g_Claims : mg "Claims" = some (.ref C_Claims)
  cl_Claims : Cls K C_Claims
  nf_Claims_table : NoAttr K C_Claims "table"
  cr_Claims : ClX.CRead K C_Claims (.type "type")
  i_Claims : C8.InsC K C_Claims
  c_SPANS : mg "SPANS" = some (.ref A_SPANS)
  d_SPANS : KDI K A_SPANS (lkI [(2, 1), (4, 2), (8, 3), (16, 4)])
  n_range : mg "range" = none
  n_sum : mg "sum" = none
  n_max : mg "max" = none
  n_any : mg "any" = none
  n_len : mg "len" = none
  n_tuple : mg "tuple" = none
  n_int : mg "int" = none
  n_abs : mg "abs" = none
  n_isinstance : mg "isinstance" = none
  n_bool : mg "bool" = none
  n_str : mg "str" = none
  n_list : mg "list" = none

section
variable {P : Program} {w : World} {K : PySem.W.Frag} {mg : Str → Option Value} {base : Heap} {C_Claims A_SPANS : Addr}
theorem ok_Lcell {f : Addr} {fd : FuncData} (F : Fun K "_law_cell" "_law_cell" s_Lcell f fd) (T : Txt P w K mg C_Claims A_SPANS)  :
    FnOk P w K mg base CX0 1 f fd ["_law_script", "_law_at"] (sp_Lcell K) := by
  refine F.ok sc_Lcell (fun vs H Q E h => ?_) (fun cdv A outer s H vs Q E hr h => ?_)
  · obtain ⟨l, ns, j, rfl, _⟩ := h
    rfl
  · obtain ⟨l, ns, j, rfl, hs, q⟩ := h
    refine ⟨_, (pss_cons (ps_if (pt_cmpR op_lt (pv 1) (pe_callB call_len_seq (by rfl) T.n_len PySem.boot_len (pa_cons (pv 0) pa_nil)) (nomark _)) (pss_one (ps_ret (pe_callB call_abs (by rfl) T.n_abs (by decide +kernel) (pa_cons (pe_callTy call_int1 (by rfl) T.n_int (by decide +kernel) (pa_cons (pe_ix ix_list (pv 0) (pv 1) (fun _ _ => rfl)) pa_nil)) pa_nil)))) pss_nil)
      (pss_one (ps_ret pe_int))), ?_⟩
    refine ⟨_, rfl, _, rfl, l, _, rfl, .inl hs, _, _, rfl, rfl, _, rfl, ?_⟩
    refine ite2 (fun hlt => ?_) (fun _ => q 0 (by decide))
    have hj : j < ns.length := by
      have z := of_decide_eq_true hlt
      rw [List.length_map] at z
      omega
    have hat : (ns.map V.int)[j]? = some (V.int ns[j]) := by rw [List.getElem?_map, List.getElem?_eq_getElem hj] <;> rfl
    refine ⟨_, rfl, _, rfl, l, _, _, _, rfl, rfl, hs, atI_nat hat, .inl ⟨_, rfl, _, rfl, q _ ?_⟩⟩
    split <;> omega
theorem ok_Lpool {f : Addr} {fd : FuncData} (F : Fun K "_law_pool" "_law_pool" s_Lpool f fd) (T : Txt P w K mg C_Claims A_SPANS)  :
    FnOk P w K mg base CX0 1 f fd ["_law_cell_here"] sp_Lpool := by
  refine F.ok sc_Lpool (fun vs H Q E h => ?_) (fun cdv A outer s H vs Q E hr h => ?_)
  · obtain ⟨c, rfl, _⟩ := h
    rfl
  · obtain ⟨c, rfl, q⟩ := h
    refine ⟨_, (pss_cons (ps_if (pt_cmpR op_ge (pv 0) (pe_op op_pow pe_int pe_int) (nomark _)) (pss_one (ps_ret (pe_lst (pa_cons (pv 0) (pa_cons (pv 0) (pa_cons pe_int pa_nil)))))) pss_nil)
      (pss_one (ps_ret (pe_lst (pa_cons pe_int (pa_cons (pv 0) (pa_cons pe_int pa_nil))))))), ?_⟩
    refine ⟨_, rfl, _, _, rfl, rfl, ⟨by decide, by decide, by decide⟩, _, _, rfl, rfl, _, rfl, ?_⟩
    refine ite2 (fun _ => ?_) (fun _ => ?_)
    · exact ⟨_, rfl, _, rfl, (by show 3 ≤ sizeLine; decide), fun p hp => q p _ hp (same_upd hp) ⟨_, _, _, upd_same⟩⟩
    · exact ⟨_, rfl, (by show 3 ≤ sizeLine; decide), fun p hp => q p _ hp (same_upd hp) ⟨_, _, _, upd_same⟩⟩
theorem ok_Ltake {f : Addr} {fd : FuncData} (F : Fun K "_law_take" "_law_take" s_Ltake f fd) (T : Txt P w K mg C_Claims A_SPANS)  :
    FnOk P w K mg base CX0 1 f fd ["_law_pool_here", "_law_many"] sp_Ltake := by
  refine F.ok sc_Ltake (fun vs H Q E h => ?_) (fun cdv A outer s H vs Q E hr h => ?_)
  · obtain ⟨p, many, rfl, _⟩ := h
    rfl
  · obtain ⟨p, many, rfl, ⟨x, y, z, hp⟩, hm, hb, q⟩ := h
    refine ⟨_, (pss_cons (ps_asg (pe_op op_add (pe_ix ix_list (pv 0) pe_int (fun _ _ => rfl)) pe_int) (pg_sub (pv 0) pe_int set_list))
      (pss_cons (ps_if (pt_cmpR op_gt (pe_ix ix_list (pv 0) pe_int (fun _ _ => rfl)) pe_int (nomark _)) (pss_cons (ps_set (i := 2) sc_Ltake.nd rfl (Or.inl rfl) (pe_op op_mod (pe_callTy call_int1 (by rfl) T.n_int (by decide +kernel) (pa_cons (pe_ix ix_list (pv 0) pe_int (fun _ _ => rfl)) pa_nil)) (pv 1)))
      (pss_cons (ps_asg (pe_op op_fdivW (pe_ix ix_list (pv 0) pe_int (fun _ _ => rfl)) (pv 1)) (pg_sub (pv 0) pe_int set_list))
      (pss_one (ps_ret (pv 2))))) pss_nil)
      (pss_cons (ps_set (i := 3) sc_Ltake.nd rfl (Or.inl rfl) (pe_op op_mod (pe_callTy call_int1 (by rfl) T.n_int (by decide +kernel) (pa_cons (pe_op op_mulA (pe_op op_add (pe_ix ix_list (pv 0) pe_int (fun _ _ => rfl)) (pe_op op_mulA pe_int (pe_ix ix_list (pv 0) pe_int (fun _ _ => rfl)))) pe_int) pa_nil)) pe_int))
      (pss_cons (ps_set (i := 3) sc_Ltake.nd rfl (Or.inl rfl) (pe_op op_mod (pe_callTy call_int1 (by rfl) T.n_int (by decide +kernel) (pa_cons (pe_op op_add (pe_op op_mulA (pv 3) pe_int) (pe_op op_mulA pe_int (pe_ix ix_list (pv 0) pe_int (fun _ _ => rfl)))) pa_nil)) pe_int))
      (pss_one (ps_ret (pe_op op_mod (pe_callTy call_int1 (by rfl) T.n_int (by decide +kernel) (pa_cons (pe_op op_fdivW (pv 3) pe_int) pa_nil)) (pv 1)))))))), ?_⟩
    refine ⟨_, rfl, p, _, _, _, rfl, rfl, SqL.of hp, at2, _, _, rfl, rfl, _, rfl, p, _, _, _, rfl, rfl, hp, rfl, ?_⟩
    refine ⟨_, rfl, p, _, _, _, rfl, rfl, SqL.of upd_same, at0, _, _, rfl, rfl, _, rfl, ?_⟩
    refine ite2 (fun _ => ?_) (fun _ => ?_)
    · refine ⟨_, rfl, p, _, _, _, rfl, rfl, SqL.of upd_same, at0, .inl ⟨_, rfl, _, rfl, _, _, rfl, rfl, hm, ?_⟩⟩
      refine ⟨_, rfl, p, _, _, _, rfl, rfl, SqL.of upd_same, at0, _, rfl, _, _, rfl, rfl, wide_div hm hb (by decide) (by decide), _, rfl, p, _, _, _, rfl, rfl, upd_same, rfl, ?_⟩
      exact ⟨_, rfl, q _ _ (Kp.trans Kp.upd Kp.upd) ⟨_, _, _, upd_same⟩ (Int.emod_nonneg _ (by omega)) (Int.emod_lt_of_pos _ hm)⟩
    · refine ⟨_, rfl, p, _, _, _, rfl, rfl, SqL.of upd_same, at1, _, rfl, p, _, _, _, rfl, rfl, SqL.of upd_same, at2, _, _, rfl, rfl, .inl (.inl ⟨by decide, by decide⟩), _, _, rfl, rfl, _, _, rfl, rfl, .inl (.inr ⟨by decide, by decide⟩), .inl ⟨_, rfl, _, _, rfl, rfl, (by show (0 : Int) < 2147483647; decide), ?_⟩⟩
      refine ⟨_, rfl, _, _, rfl, rfl, .inl (.inr ⟨by decide, by decide⟩), _, rfl, p, _, _, _, rfl, rfl, SqL.of upd_same, at2, _, _, rfl, rfl, .inl (.inl ⟨by decide, by decide⟩), _, _, rfl, rfl, .inl ⟨_, rfl, _, _, rfl, rfl, (by show (0 : Int) < 2147483399; decide), ?_⟩⟩
      refine ⟨_, rfl, _, _, rfl, rfl, wide_div (b := 300) (by decide) (by decide) (by decide) (by decide), .inl ⟨_, rfl, _, rfl, _, _, rfl, rfl, hm, ?_⟩⟩
      exact q _ _ Kp.upd ⟨_, _, _, upd_same⟩ (Int.emod_nonneg _ (by omega)) (Int.emod_lt_of_pos _ hm)
theorem okr_Lsame {f : Addr} {fd : FuncData} {j n : Nat} (F : Fun K "_law_same" "_law_same" s_Lsame f fd) (T : Txt P w K mg C_Claims A_SPANS) (c_Lsame : Cal CX0 P w K mg base j "_law_same" (sp_Lsame K n)) :
    FnOk P w K mg base CX0 (j + 1) f fd ["_law_told", "_law_due_here"] (sp_Lsame K (n + 1)) := by
  refine F.ok sc_Lsame (fun vs H Q E h => ?_) (fun cdv A outer s H vs Q E hr h => ?_)
  · obtain ⟨x, y, rfl, _⟩ := h
    rfl
  · obtain ⟨x, y, rfl, hv, q⟩ := h
    refine ⟨_, (pss_cons (ps_if (pt_cmpR op_isN (pv 1) pe_non (nomark _)) (pss_one (ps_ret (pe_cmpR op_isN (pv 0) pe_non (nomark _)))) pss_nil)
      (pss_cons (ps_if (pt_cmpR op_isB (pv 1) pe_bl (nomark _)) (pss_one (ps_ret (pe_cmpR op_isB (pv 0) pe_bl (nomark _)))) pss_nil)
      (pss_cons (ps_if (pt_cmpR op_isB (pv 1) pe_bl (nomark _)) (pss_one (ps_ret (pe_cmpR op_isB (pv 0) pe_bl (nomark _)))) pss_nil)
      (pss_cons (ps_if (pt_val (pe_callB call_isi (by rfl) T.n_isinstance (by decide +kernel) (pa_cons (pv 1) (pa_cons (pe_bltn (v := .ty "int") (by rfl) T.n_int (by decide +kernel) rfl) pa_nil)))) (pss_one (ps_ret (pe_and (pe_callB call_isi (by rfl) T.n_isinstance (by decide +kernel) (pa_cons (pv 0) (pa_cons (pe_bltn (v := .ty "int") (by rfl) T.n_int (by decide +kernel) rfl) pa_nil))) (pe_and (pe_not (pe_callB call_isi (by rfl) T.n_isinstance (by decide +kernel) (pa_cons (pv 0) (pa_cons (pe_bltn (v := .ty "bool") (by rfl) T.n_bool (by decide +kernel) rfl) pa_nil)))) (pe_one (pe_cmpR op_eq (pv 0) (pv 1) (nomark _))))))) pss_nil)
      (pss_cons (ps_if (pt_val (pe_callB call_isi (by rfl) T.n_isinstance (by decide +kernel) (pa_cons (pv 1) (pa_cons (pe_bltn (v := .ty "str") (by rfl) T.n_str (by decide +kernel) rfl) pa_nil)))) (pss_one (ps_ret (pe_and (pe_callB call_isi (by rfl) T.n_isinstance (by decide +kernel) (pa_cons (pv 0) (pa_cons (pe_bltn (v := .ty "str") (by rfl) T.n_str (by decide +kernel) rfl) pa_nil))) (pe_one (pe_cmpR op_eq (pv 0) (pv 1) (nomark _)))))) pss_nil)
      (pss_cons (ps_if (PW.pt (pw_and (pt_val (pe_callB call_isi (by rfl) T.n_isinstance (by decide +kernel) (pa_cons (pv 1) (pa_cons (pe_bltn (v := .ty "tuple") (by rfl) T.n_tuple (by decide +kernel) rfl) pa_nil)))) (pw_and1 (pt_not (pt_val (pe_callB call_isi (by rfl) T.n_isinstance (by decide +kernel) (pa_cons (pv 0) (pa_cons (pe_bltn (v := .ty "tuple") (by rfl) T.n_tuple (by decide +kernel) rfl) pa_nil)))))))) (pss_one (ps_ret pe_bl)) pss_nil)
      (pss_cons (ps_if (PW.pt (pw_and (pt_val (pe_callB call_isi (by rfl) T.n_isinstance (by decide +kernel) (pa_cons (pv 1) (pa_cons (pe_bltn (v := .ty "list") (by rfl) T.n_list (by decide +kernel) rfl) pa_nil)))) (pw_and1 (pt_not (pt_val (pe_callB call_isi (by rfl) T.n_isinstance (by decide +kernel) (pa_cons (pv 0) (pa_cons (pe_bltn (v := .ty "list") (by rfl) T.n_list (by decide +kernel) rfl) pa_nil)))))))) (pss_one (ps_ret pe_bl)) pss_nil)
      (pss_cons (ps_if (pt_cmpR op_ne (pe_callB call_len_seq (by rfl) T.n_len PySem.boot_len (pa_cons (pv 0) pa_nil)) (pe_callB call_len_seq (by rfl) T.n_len PySem.boot_len (pa_cons (pv 1) pa_nil)) (nomark _)) (pss_one (ps_ret pe_bl)) pss_nil)
      (pss_cons (ps_for PassesOwn.never rfl (pi_range1 (by rfl) T.n_range (pa_cons (pe_callB call_len_seq (by rfl) T.n_len PySem.boot_len (pa_cons (pv 1) pa_nil)) pa_nil)) (pg_name (i := 2) sc_Lsame.nd rfl (Or.inl rfl))
        (pss_one (ps_if (pt_not (pt_val (pc_c c_Lsame hr (Nat.le_refl _) rfl pass0 (pa_cons (pe_ix ix_seq (pv 0) (pv 2) (fun _ _ => rfl)) (pa_cons (pe_ix ix_seq (pv 1) (pv 2) (fun _ _ => rfl)) pa_nil))))) (pss_one (ps_ret pe_bl)) pss_nil)))
      (pss_one (ps_ret pe_bl))))))))))), ?_⟩
    have kL1 : PySem.W.kitOne K (.type "list") (.type "int") = some false := kit_ty (by decide +kernel)
    have kL2 : PySem.W.kitOne K (.type "list") (.type "str") = some false := kit_ty (by decide +kernel)
    have kL3 : PySem.W.kitOne K (.type "list") (.type "tuple") = some false := kit_ty (by decide +kernel)
    have kL4 : PySem.W.kitOne K (.type "list") (.type "list") = some true := kit_ty (by decide +kernel)
    have kT1 : PySem.W.kitOne K (.type "tuple") (.type "int") = some false := kit_ty (by decide +kernel)
    have kT2 : PySem.W.kitOne K (.type "tuple") (.type "str") = some false := kit_ty (by decide +kernel)
    have kT3 : PySem.W.kitOne K (.type "tuple") (.type "tuple") = some true := kit_ty (by decide +kernel)
    have kT4 : PySem.W.kitOne K (.type "tuple") (.type "list") = some false := kit_ty (by decide +kernel)
    have hv' : (flatD x = true ∧ x = y) ∨ (∃ m, n = m + 1 ∧ ∃ (a b : Addr) (xs ys : List V), x = .ref a ∧ y = .ref b ∧ SqL K H a xs ∧ SqL K H b ys ∧ xs.length ≤ sizeLine ∧ Pairs (SameV K H m) xs ys) ∨
        (∃ m, n = m + 1 ∧ ∃ (a b : Addr) (xs ys : List V), x = .ref a ∧ y = .ref b ∧ SqT K H a xs ∧ SqT K H b ys ∧ xs.length ≤ sizeLine ∧ Pairs (SameV K H m) xs ys) := by
      cases n with
      | zero => exact .inl hv
      | succ m =>
        rcases hv with h | h | h
        · exact .inl h
        · exact .inr (.inl ⟨m, rfl, h⟩)
        · exact .inr (.inr ⟨m, rfl, h⟩)
    rcases hv' with ⟨hf, e⟩ | ⟨m, rfl, a, b, xs, ys, rfl, rfl, ha, hb, hl, hp⟩ | ⟨m, rfl, a, b, xs, ys, rfl, rfl, ha, hb, hl, hp⟩
    · subst e
      cases x with
      | non => exact ⟨_, rfl, rfl, _, rfl, iteDT rfl ⟨_, rfl, rfl, q⟩⟩
      | bl b =>
        refine ⟨_, rfl, rfl, _, rfl, iteDF (by intro z; cases z) ?_⟩
        cases b with
        | true => exact ⟨_, rfl, _, rfl, _, rfl, iteDT rfl ⟨_, rfl, _, rfl, q⟩⟩
        | false => exact ⟨_, rfl, _, rfl, _, rfl, iteDF (by intro z; cases z) ⟨_, rfl, _, rfl, _, rfl, iteDT rfl ⟨_, rfl, _, rfl, q⟩⟩⟩
      | int i =>
        refine ⟨_, rfl, rfl, _, rfl, iteDF (by intro z; cases z) ?_⟩
        refine ⟨_, rfl, _, rfl, _, rfl, iteDF (by intro z; cases z) ?_⟩
        refine ⟨_, rfl, _, rfl, _, rfl, iteDF (by intro z; cases z) ?_⟩
        refine ⟨_, rfl, _, _, _, .type "int", true, rfl, .ty "int", .base (.int i), kit_ty (by decide +kernel), true, rfl, iteT ?_⟩
        refine ⟨_, rfl, _, _, _, .type "int", true, rfl, .ty "int", .base (.int i), kit_ty (by decide +kernel), true, rfl, iteT ?_⟩
        refine ⟨_, rfl, _, _, _, .type "bool", false, rfl, .ty "bool", .base (.int i), kit_ty (by decide +kernel), false, rfl, true, rfl, iteT ?_⟩
        refine ⟨_, rfl, _, rfl, rfl, ?_⟩
        rw [decide_eq_true (show V.int i = V.int i from rfl)]
        exact q
      | str i =>
        refine ⟨_, rfl, rfl, _, rfl, iteDF (by intro z; cases z) ?_⟩
        refine ⟨_, rfl, _, rfl, _, rfl, iteDF (by intro z; cases z) ?_⟩
        refine ⟨_, rfl, _, rfl, _, rfl, iteDF (by intro z; cases z) ?_⟩
        refine ⟨_, rfl, _, _, _, .type "int", false, rfl, .ty "int", .base (.str i), kit_ty (by decide +kernel), false, rfl, iteF ?_⟩
        refine ⟨_, rfl, _, _, _, .type "str", true, rfl, .ty "str", .base (.str i), kit_ty (by decide +kernel), true, rfl, iteT ?_⟩
        refine ⟨_, rfl, _, _, _, .type "str", true, rfl, .ty "str", .base (.str i), kit_ty (by decide +kernel), true, rfl, iteT ?_⟩
        refine ⟨_, rfl, _, rfl, rfl, ?_⟩
        rw [decide_eq_true (show V.str i = V.str i from rfl)]
        exact q
      | _ => exact absurd (show false = true from hf) Bool.false_ne_true
    · refine ⟨_, rfl, rfl, _, rfl, iteDF (by intro z; cases z) ?_⟩
      refine ⟨_, rfl, _, rfl, _, rfl, iteDF (by intro z; cases z) ?_⟩
      refine ⟨_, rfl, _, rfl, _, rfl, iteDF (by intro z; cases z) ?_⟩
      refine ⟨_, rfl, _, _, _, .type "int", false, rfl, .ty "int", tyx_list hb, kL1, false, rfl, iteF ?_⟩
      refine ⟨_, rfl, _, _, _, .type "str", false, rfl, .ty "str", tyx_list hb, kL2, false, rfl, iteF ?_⟩
      refine ⟨_, rfl, _, _, _, .type "tuple", false, rfl, .ty "tuple", tyx_list hb, kL3, false, rfl, iteF (iteF ?_)⟩
      refine ⟨_, rfl, _, _, _, .type "list", true, rfl, .ty "list", tyx_list hb, kL4, true, rfl, iteT ?_⟩
      refine ⟨_, rfl, _, _, _, .type "list", true, rfl, .ty "list", tyx_list ha, kL4, true, rfl, iteF ?_⟩
      refine ⟨_, rfl, a, _, rfl, .inl ha, _, rfl, b, _, rfl, .inl hb, rfl, _, rfl, ?_⟩
      rw [decide_eq_true (show V.int (xs.length : Nat) = V.int (ys.length : Nat) by rw [hp.1])]
      refine iteF ?_
      have hy : ys.length ≤ 16777216 := by rw [← hp.1, ← sizeLine_eq]; exact hl
      refine ⟨_, rfl, b, _, rfl, .inl hb, _, rfl, by omega, by omega, for_range (lo := 0) (n := ((ys.length : Nat) : Int).toNat) (fun i σ H' => H' = H ∧ ∃ v : Option V, σ = [some (.ref a), some (.ref b), v]) ⟨rfl, none, rfl⟩ ?_ ?_⟩
      · rintro i σ H' hi ⟨rfl, v, rfl⟩
        have i1 : i < ys.length := by omega
        have i2 : i < xs.length := by rw [hp.1]; exact i1
        have ex : xs[i]? = some xs[i] := List.getElem?_eq_getElem i2
        have ey : ys[i]? = some ys[i] := List.getElem?_eq_getElem i1
        have ex' := atI_nat ex
        have ey' := atI_nat ey
        rw [show ((i : Nat) : Int) = 0 + ((i : Nat) : Int) by omega] at ex' ey'
        refine ⟨_, rfl, _, rfl, .inl ⟨a, _, _, _, rfl, rfl, ha, ex', _, rfl, _, rfl, .inl ⟨b, _, _, _, rfl, rfl, hb, ey', _, _, rfl, hp.2 i _ _ ex ey, true, rfl, iteF ?_⟩⟩⟩
        exact ⟨rfl, _, rfl⟩
      · rintro σ H' ⟨rfl, v, rfl⟩
        exact q
    · refine ⟨_, rfl, rfl, _, rfl, iteDF (by intro z; cases z) ?_⟩
      refine ⟨_, rfl, _, rfl, _, rfl, iteDF (by intro z; cases z) ?_⟩
      refine ⟨_, rfl, _, rfl, _, rfl, iteDF (by intro z; cases z) ?_⟩
      refine ⟨_, rfl, _, _, _, .type "int", false, rfl, .ty "int", tyx_tup hb, kT1, false, rfl, iteF ?_⟩
      refine ⟨_, rfl, _, _, _, .type "str", false, rfl, .ty "str", tyx_tup hb, kT2, false, rfl, iteF ?_⟩
      refine ⟨_, rfl, _, _, _, .type "tuple", true, rfl, .ty "tuple", tyx_tup hb, kT3, true, rfl, iteT ?_⟩
      refine ⟨_, rfl, _, _, _, .type "tuple", true, rfl, .ty "tuple", tyx_tup ha, kT3, true, rfl, iteF ?_⟩
      refine ⟨_, rfl, _, _, _, .type "list", false, rfl, .ty "list", tyx_tup hb, kT4, false, rfl, iteF (iteF ?_)⟩
      refine ⟨_, rfl, a, _, rfl, .inr ha, _, rfl, b, _, rfl, .inr hb, rfl, _, rfl, ?_⟩
      rw [decide_eq_true (show V.int (xs.length : Nat) = V.int (ys.length : Nat) by rw [hp.1])]
      refine iteF ?_
      have hy : ys.length ≤ 16777216 := by rw [← hp.1, ← sizeLine_eq]; exact hl
      refine ⟨_, rfl, b, _, rfl, .inr hb, _, rfl, by omega, by omega, for_range (lo := 0) (n := ((ys.length : Nat) : Int).toNat) (fun i σ H' => H' = H ∧ ∃ v : Option V, σ = [some (.ref a), some (.ref b), v]) ⟨rfl, none, rfl⟩ ?_ ?_⟩
      · rintro i σ H' hi ⟨rfl, v, rfl⟩
        have i1 : i < ys.length := by omega
        have i2 : i < xs.length := by rw [hp.1]; exact i1
        have ex : xs[i]? = some xs[i] := List.getElem?_eq_getElem i2
        have ey : ys[i]? = some ys[i] := List.getElem?_eq_getElem i1
        have ex' := atI_nat ex
        have ey' := atI_nat ey
        rw [show ((i : Nat) : Int) = 0 + ((i : Nat) : Int) by omega] at ex' ey'
        refine ⟨_, rfl, _, rfl, .inr (.inl ⟨a, _, _, _, rfl, rfl, ha, ex', _, rfl, _, rfl, .inr (.inl ⟨b, _, _, _, rfl, rfl, hb, ey', _, _, rfl, hp.2 i _ _ ex ey, true, rfl, iteF ?_⟩)⟩)⟩
        exact ⟨rfl, _, rfl⟩
      · rintro σ H' ⟨rfl, v, rfl⟩
        exact q
theorem ok_Lsame {f : Addr} {fd : FuncData} (F : Fun K "_law_same" "_law_same" s_Lsame f fd) (T : Txt P w K mg C_Claims A_SPANS) (m : mg "_law_same" = some (.ref f)) (kp : PySem.W.keepIn K (.ref f) = true) (b : Binds K fd ["_law_told", "_law_due_here"] []) :
    ∀ n : Nat, FnOk P w K mg base CX0 (n + 1) f fd ["_law_told", "_law_due_here"] (sp_Lsame K n)
  | 0 => F.ok sc_Lsame (fun _ _ _ _ h => False.elim h) (fun _ _ _ _ _ _ _ _ _ h => False.elim h)
  | n + 1 => okr_Lsame F T (cal_mk (ok_Lsame F T m kp b n) m kp b)
theorem spans_is {n : Nat} (h : LenOk n) : (lkI [(2, 1), (4, 2), (8, 3), (16, 4)] ((n : Nat) : Int)).isSome = true := by
  rcases h with rfl | rfl | rfl | rfl <;> decide
theorem any_neg {ns : List Int} (h : ∀ n ∈ ns, 0 ≤ n) : ((ns.map fun n => decide (n < 0)).any id) = false := by
  rw [List.any_map, List.any_eq_false]
  intro n hn
  have := h n hn
  simp
  omega
theorem ok_Claims_init {f : Addr} {fd : FuncData} (F : Fun K "__init__" "Claims.__init__" s_Claims_init f fd) (T : Txt P w K mg C_Claims A_SPANS)  :
    FnOk P w K mg base CX0 1 f fd ["self", "table"] (sp_Claims_init K C_Claims) := by
  refine F.ok sc_Claims_init (fun vs H Q E h => ?_) (fun cdv A outer s H vs Q E hr h => ?_)
  · obtain ⟨x, dx, l, ns, rfl, _⟩ := h
    rfl
  · obtain ⟨x, dx, l, ns, rfl, hx, hl, ⟨hk, hp⟩, q⟩ := h
    refine ⟨_, (pss_cons (ps_if (PW.pt (pw_or (pt_cmpR (op_notIn_kdi T.d_SPANS) (pe_callB call_len_seq (by rfl) T.n_len PySem.boot_len (pa_cons (pv 1) pa_nil)) (pe_glob (v := .ref A_SPANS) rfl T.c_SPANS rfl) (by rfl)) (pw_or1 (pt_val (pe_callB (cr_any rfl) (by rfl) T.n_any (by decide +kernel) (pa_cons (pe_lc (own := [("number", 2)]) (g := (gName 2)) (tt := tYes) rfl sc_Claims_init.nd (pi_list (pv 1)) (blkOk_by (own := [("number", 2)]) (N := ["self", "table", "number"]) (sc := defScope s_Claims_init) (by decide +kernel)) (fun _ _ _ _ _ => (pg_name (i := 2) sc_Claims_init.nd rfl (Or.inl rfl))) (fun _ _ _ _ _ => pts_nil) (fun _ _ _ _ _ => (pe_cmpR op_lt (pv 2) pe_int (nomark _)))) pa_nil)))))) (pss_one ps_never) pss_nil)
      (pss_one (ps_fld (pv 0) (pe_callTy call_tuple_of (by rfl) T.n_tuple (by decide +kernel) (pa_cons (pv 1) pa_nil)) rfl))), ?_⟩
    refine ⟨_, rfl, l, _, rfl, .inl hl, _, rfl, rfl, _, rfl, ?_⟩
    have h16 := hk.le
    rw [show (lkI [(2, 1), (4, 2), (8, 3), (16, 4)] (((ns.map V.int).length : Nat) : Int)).isSome = true by rw [List.length_map]; exact spans_is hk]
    refine iteF ?_
    refine ⟨_, rfl, l, rfl, ⟨_, hl⟩, fun D hD => lc_list (K := K) (a := l) (xs := ns.map V.int) (fun i H' => Same H H' ∧ H' D = some (.lst (((ns.take i).map fun n => decide (n < 0)).map V.bl)))
      ⟨same_upd hD, upd_same⟩ (fun i H' _ ⟨s1, _⟩ => Same.seq s1 hl) ?_ ?_⟩
    · rintro i y H' hy ⟨s1, hD1⟩
      obtain ⟨z, hz, rfl⟩ := int_at hy
      refine ⟨rfl, tyes ?_⟩
      refine ⟨_, rfl, _, _, rfl, rfl, _, hD1, small1000 (by rw [List.length_map, List.length_map, List.length_take]; omega), same_app s1 hD, ?_⟩
      rw [upd_same, ← take_snoc hz, List.map_append, List.map_append]
      rfl
    · rintro H1 ⟨s1, hD1⟩
      rw [List.length_map, List.take_length] at hD1
      refine ⟨D, _, rfl, SqL.of hD1, _, rfl, ?_⟩
      rw [any_neg hp]
      refine iteF ?_
      refine ⟨_, rfl, l, _, rfl, .inl ⟨Same.seq s1 hl, fun z hz => ?_⟩⟩
      have hx2 : (upd H1 z (.tup (ns.map V.int))) x = some (.ins C_Claims dx []) := by rw [upd_ne (ne_of_none (s1 _ _ hx) hz)]; exact s1 _ _ hx
      refine ⟨_, rfl, x, C_Claims, dx, [], rfl, hx2, T.cl_Claims, T.nf_Claims_table, (by show 0 < 1000; decide), ?_⟩
      have kK : Kp x H1 (upd (upd H1 z (.tup (ns.map V.int))) x (.ins C_Claims dx (putF "table" (.ref z) []))) := fun b o nb e => by
        rw [upd_ne nb, upd_ne (ne_of_none e hz)]
        exact e
      refine q _ (fun b o nb e => kK _ _ nb (s1 _ _ e)) ⟨dx, z, upd_same, ?_⟩
      rw [upd_ne (fun w => by rw [w, s1 _ _ hx] at hz; cases hz), upd_same]
theorem ok_uhours_in {f : Addr} {fd : FuncData} (F : Fun K "_hours_in" "_hours_in" s_uhours_in f fd) (T : Txt P w K mg C_Claims A_SPANS)  :
    FnOk P w K mg base CX0 1 f fd ["mask", "hours"] sp_hours := by
  refine F.ok sc_uhours_in (fun vs H Q E h => ?_) (fun cdv A outer s H vs Q E hr h => ?_)
  · obtain ⟨m, h, rfl, _⟩ := h
    rfl
  · obtain ⟨m, hh, rfl, hz, q⟩ := h
    refine ⟨_, (pss_one (ps_ret (pe_callB (cr_sum rfl) (by rfl) T.n_sum (by decide +kernel) (pa_cons (pe_lc (own := [("hour", 2)]) (g := (gName 2)) (tt := tYes) rfl sc_uhours_in.nd (pi_range1 (by rfl) T.n_range (pa_cons (pv 1) pa_nil)) (blkOk_by (own := [("hour", 2)]) (N := ["mask", "hours", "hour"]) (sc := defScope s_uhours_in) (by decide +kernel)) (fun _ _ _ _ _ => (pg_name (i := 2) sc_uhours_in.nd rfl (Or.inl rfl))) (fun _ _ _ _ _ => pts_nil) (fun _ _ _ _ _ => (pe_op op_and (pe_op op_shr (pv 0) (pv 2)) pe_int))) pa_nil)))), ?_⟩
    refine ⟨_, rfl, _, rfl, by omega, by omega, fun D hD => lc_range (lo := 0) (n := ((hh : Nat) : Int).toNat) (fun i H' => Same H H' ∧ H' D = some (.lst (((List.range i).map fun k => ((m / 2 ^ k % 2 : Nat) : Int)).map V.int)))
      ⟨same_upd hD, upd_same⟩ ?_ ?_⟩
    · rintro i H' hi ⟨s1, hD1⟩
      refine ⟨rfl, tyes ?_⟩
      refine ⟨_, rfl, _, rfl, _, _, rfl, rfl, (by show (0 : Int) ≤ 0 + (i : Int); omega), _, _, rfl, rfl, ?_⟩
      refine ⟨_, hD1, small1000 (by rw [List.length_map, List.length_map, List.length_range]; omega), same_app s1 hD, ?_⟩
      have e : Builtin.bitAnd (((m : Nat) : Int) / 2 ^ ((0 : Int) + (i : Int)).toNat) 1 = ((m / 2 ^ i % 2 : Nat) : Int) := by
        have z := Bits.bitAnd_mask (x := ((m : Nat) : Int) / 2 ^ ((0 : Int) + (i : Int)).toNat) 1 (Int.ediv_nonneg (by omega) (Int.le_of_lt (Int.pow_pos (by decide))))
        rw [show (2 : Int) ^ 1 - 1 = 1 from rfl] at z
        rw [z, show ((0 : Int) + (i : Int)).toNat = i by omega]
        rw [Int.natCast_emod, Int.natCast_ediv, Int.natCast_pow]
        rfl
      rw [upd_same, List.range_succ, List.map_append, List.map_append]
      show some (HO.lst (_ ++ [V.int (Builtin.bitAnd (((m : Nat) : Int) / 2 ^ ((0 : Int) + (i : Int)).toNat) 1)])) = _
      rw [e]
      rfl
    · rintro H1 ⟨s1, hD1⟩
      rw [show ((hh : Nat) : Int).toNat = hh by omega] at hD1
      refine ⟨D, _, rfl, SqL.of hD1, ?_⟩
      have e : ((List.range hh).map fun k => ((m / 2 ^ k % 2 : Nat) : Int)).sum = ((hrsN m hh : Nat) : Int) := by
        clear hD1 q hz
        induction hh with
        | zero => rfl
        | succ n ih =>
          rw [List.range_succ, List.map_append, List.sum_append, ih, hrsN_succ]
          simp
      rw [e]
      exact q _ s1
theorem ok_Claims_span {f : Addr} {fd : FuncData} (F : Fun K "span" "Claims.span" s_Claims_span f fd) (T : Txt P w K mg C_Claims A_SPANS)  :
    FnOk P w K mg base CX0 1 f fd ["self"] (sp_span K C_Claims) := by
  refine F.ok sc_Claims_span (fun vs H Q E h => ?_) (fun cdv A outer s H vs Q E hr h => ?_)
  · obtain ⟨a, ns, rfl, _⟩ := h
    rfl
  · obtain ⟨a, ns, rfl, ⟨dx, tp, ha, htp⟩, hk, q⟩ := h
    refine ⟨_, (pss_one (ps_ret (pe_ix (ix_kdi T.d_SPANS) (pe_glob (v := .ref A_SPANS) rfl T.c_SPANS rfl) (pe_callB call_len_seq (by rfl) T.n_len PySem.boot_len (pa_cons (pe_fld (pv 0) rfl) pa_nil)) (fun _ _ => rfl)))), ?_⟩
    refine ⟨_, rfl, a, C_Claims, dx, _, _, rfl, ha, T.cl_Claims, T.nf_Claims_table, clf_table _, tp, _, rfl, .inr (SqT.of htp), _, ((spn ns.length : Nat) : Int), rfl, rfl, ?_, q⟩
    rw [List.length_map]
    rcases hk with h | h | h | h <;> rw [h] <;> decide
theorem range_snoc {α : Type} (f : Nat → α) (i : Nat) : (List.range (i + 1)).map f = (List.range i).map f ++ [f i] := by
  rw [List.range_succ, List.map_append]
  rfl
theorem ok_umask_count {f : Addr} {fd : FuncData} (F : Fun K "_mask_count" "_mask_count" s_umask_count f fd) (T : Txt P w K mg C_Claims A_SPANS)  :
    FnOk P w K mg base CX0 1 f fd ["span"] sp_mask := by
  refine F.ok sc_umask_count (fun vs H Q E h => ?_) (fun cdv A outer s H vs Q E hr h => ?_)
  · obtain ⟨n, rfl, _⟩ := h
    rfl
  · obtain ⟨n, rfl, hn, q⟩ := h
    refine ⟨_, (pss_cons (ps_set (i := 1) sc_umask_count.nd rfl (Or.inl rfl) pe_int)
      (pss_cons (ps_for PassesOwn.never rfl (pi_range1 (by rfl) T.n_range (pa_cons (pv 0) pa_nil)) (pg_name (i := 2) sc_umask_count.nd rfl (Or.inl rfl))
        (pss_one (ps_set (i := 1) sc_umask_count.nd rfl (Or.inl rfl) (pe_op op_mulA pe_int (pv 1)))))
      (pss_one (ps_ret (pv 1))))), ?_⟩
    refine ⟨_, rfl, _, rfl, by omega, by omega, for_range (lo := 0) (n := ((n : Nat) : Int).toNat) (fun i σ H' => H' = H ∧ ∃ v2 : Option V, σ = [some (.int (n : Nat)), some (.int ((2 ^ i : Nat) : Int)), v2]) ⟨rfl, none, rfl⟩ ?_ ?_⟩
    · rintro i σ H' hi ⟨rfl, v2, rfl⟩
      refine ⟨_, rfl, _, _, rfl, rfl, .inl (.inl ⟨by decide, by decide⟩), rfl, some (.int (0 + i)), ?_⟩
      have e : (2 : Int) * ((2 ^ i : Nat) : Int) = ((2 ^ (i + 1) : Nat) : Int) := by
        rw [Nat.pow_succ]
        omega
      show [some (V.int (n : Nat)), some (V.int ((2 : Int) * ((2 ^ i : Nat) : Int))), some (V.int (0 + i))] = _
      rw [e]
    · rintro σ H' ⟨rfl, v2, rfl⟩
      rw [show ((n : Nat) : Int).toNat = n by omega]
      exact ⟨_, rfl, q⟩
theorem ok_udemand {f : Addr} {fd : FuncData} (F : Fun K "_demand" "_demand" s_udemand f fd) (T : Txt P w K mg C_Claims A_SPANS) (c_uhours_in : Cal CX0 P w K mg base 1 "_hours_in" sp_hours) :
    FnOk P w K mg base CX0 2 f fd ["car", "mask"] (sp_dem1 K) := by
  refine F.ok sc_udemand (fun vs H Q E h => ?_) (fun cdv A outer s H vs Q E hr h => ?_)
  · obtain ⟨p, c, m, rfl, _⟩ := h
    rfl
  · obtain ⟨p, c, m, rfl, hp, h0, h1, q⟩ := h
    refine ⟨_, (pss_cons (ps_asg (pv 0) (pg_tup rfl (pgs_cons (pg_name (i := 2) sc_udemand.nd rfl (Or.inl rfl)) (pgs_cons (pg_name (i := 2) sc_udemand.nd rfl (Or.inl rfl)) (pgs_cons (pg_name (i := 3) sc_udemand.nd rfl (Or.inl rfl)) (pgs_cons (pg_name (i := 4) sc_udemand.nd rfl (Or.inl rfl)) pgs_nil))))))
      (pss_one (ps_ret (pe_callB (call_max2 rfl) (by rfl) T.n_max (by decide +kernel) (pa_cons pe_int (pa_cons (pe_op op_sub (pv 4) (pe_op op_sub (pv 3) (pc_c c_uhours_in hr (by decide) rfl pass0 (pa_cons (pv 1) (pa_cons (pv 3) pa_nil))))) pa_nil)))))), ?_⟩
    refine ⟨_, rfl, p, _, rfl, hp, rfl, _, _, rfl, _, _, rfl, _, _, rfl, _, _, rfl, rfl, ?_⟩
    refine ⟨_, rfl, _, rfl, _, rfl, _, rfl, m, c.2.2.1.toNat, (by rw [Int.toNat_of_nonneg h0]; rfl), by omega, fun H' s => ⟨_, _, rfl, rfl, _, _, rfl, rfl, _, _, rfl, ?_⟩⟩
    exact q _ s
theorem ok_Claims_none {f : Addr} {fd : FuncData} (F : Fun K "none" "Claims.none" s_Claims_none f fd) (T : Txt P w K mg C_Claims A_SPANS) (c_Claims : Mak CX0 P w K mg base 1 "Claims" C_Claims (sp_Claims_init K C_Claims)) (c_umask_count : Cal CX0 P w K mg base 1 "_mask_count" sp_mask) :
    FnOk P w K mg base CX0 3 f fd ["cls", "span"] (sp_none K C_Claims) := by
  refine F.ok sc_Claims_none (fun vs H Q E h => ?_) (fun cdv A outer s H vs Q E hr h => ?_)
  · obtain ⟨span, rfl, _⟩ := h
    rfl
  · obtain ⟨span, rfl, h0, h1, q⟩ := h
    refine ⟨_, (pss_one (ps_ret (pc_mkL (i := 0) c_Claims hr (by decide) rfl (Or.inl rfl) pass0 (pa_cons (pe_op op_rep (pe_lst (pa_cons pe_int pa_nil)) (pc_c c_umask_count hr (by decide) rfl pass0 (pa_cons (pv 1) pa_nil))) pa_nil)))), ?_⟩
    obtain ⟨po, p16, p2⟩ := pow_ok h0 h1
    refine ⟨rfl, (by show 1 ≤ sizeLine; decide), fun z hz => ?_⟩
    have s1 := same_upd (o := .lst [.int 0]) hz
    refine ⟨_, rfl, span, rfl, by omega, z, _, _, rfl, rfl, upd_same, by omega, by omega, (by rw [sizeLine_eq]; show 1 * _ ≤ _; omega), fun l hl => ?_⟩
    rw [show (((2 ^ span : Nat) : Int)).toNat = 2 ^ span by omega]
    have ez : (List.replicate (2 ^ span) [V.int 0]).flatten = (zer span).map V.int := by
      unfold zer
      rw [List.map_replicate]
      generalize 2 ^ span = k
      clear hl hz s1 po p16 p2
      induction k with
      | zero => rfl
      | succ k ih =>
        rw [List.replicate_succ, List.replicate_succ, List.flatten_cons, ih]
        rfl
    rw [ez]
    have s2 := s1.trans (same_upd (o := .lst ((zer span).map V.int)) hl)
    intro b db nb ndb neb
    have f0 : Same (upd (upd H z (.lst [.int 0])) l (.lst ((zer span).map V.int))) (upd (upd (upd (upd H z (.lst [.int 0])) l (.lst ((zer span).map V.int))) db (.own b)) b (.ins C_Claims db [])) := mk_same nb ndb (Kp.refl)
    refine ⟨b, db, l, _, rfl, upd_same, SqL.of (f0 _ _ upd_same), zer_tab h0 h1, fun J kJ hJ => ⟨rfl, ?_⟩⟩
    exact q _ b (s2.trans (mk_same nb ndb kJ)) (none_of s2 nb) hJ
theorem ok_Claims_of {f : Addr} {fd : FuncData} (F : Fun K "of" "Claims.of" s_Claims_of f fd) (T : Txt P w K mg C_Claims A_SPANS) (c_Claims : Mak CX0 P w K mg base 1 "Claims" C_Claims (sp_Claims_init K C_Claims)) (c_umask_count : Cal CX0 P w K mg base 1 "_mask_count" sp_mask) (c_udemand : Cal CX0 P w K mg base 2 "_demand" (sp_dem1 K)) :
    FnOk P w K mg base CX0 3 f fd ["cls", "span", "cars"] (sp_of K C_Claims) := by
  refine F.ok sc_Claims_of (fun vs H Q E h => ?_) (fun cdv A outer s H vs Q E hr h => ?_)
  · obtain ⟨cl, b, span, xs, cs, rfl, _⟩ := h
    rfl
  · obtain ⟨cl, bb, span, xs, cs, rfl, h0, h1, hcl, hcs, hcz, hcg, q⟩ := h
    refine ⟨_, (pss_one (ps_ret (pc_mkL (i := 0) c_Claims hr (by decide) rfl (Or.inl rfl) pass0 (pa_cons (pe_lc (own := [("mask", 3)]) (g := (gName 3)) (tt := tYes) rfl sc_Claims_of.nd (pi_range1 (by rfl) T.n_range (pa_cons (pc_c c_umask_count hr (by decide) rfl pass0 (pa_cons (pv 1) pa_nil)) pa_nil)) (blkOk_by (own := [("mask", 3)]) (N := ["cls", "span", "cars", "mask", "car"]) (sc := defScope s_Claims_of) (by decide +kernel)) (fun _ _ _ _ _ => (pg_name (i := 3) sc_Claims_of.nd rfl (Or.inr rfl))) (fun _ _ _ _ _ => pts_nil) (fun _ _ _ _ _ => (pe_callB (cr_sumK (K := K) rfl rfl) (by rfl) T.n_sum (by decide +kernel) (pa_cons (pe_lc (own := [("car", 4)]) (g := (gName 4)) (tt := tYes) rfl sc_Claims_of.nd (pi_seqBK (K := K) rfl (pv 2)) (blkOk_by (own := [("car", 4)]) (N := ["cls", "span", "cars", "mask", "car"]) (sc := scb_Claims_of) (by decide +kernel)) (fun _ _ _ _ _ => (pg_name (i := 4) sc_Claims_of.nd rfl (Or.inl rfl))) (fun _ _ _ _ _ => pts_nil) (fun _ _ _ _ _ => (pc_c c_udemand hr (by decide) rfl pass0 (pa_cons (pv 4) (pa_cons (pv 3) pa_nil))))) pa_nil)))) pa_nil)))), ?_⟩
    obtain ⟨po, p16, p2⟩ := pow_ok h0 h1
    have hlen := hcs.len
    refine ⟨rfl, _, rfl, span, rfl, by omega, _, rfl, by omega, by omega, fun D hD => lc_range (lo := 0) (n := (((2 ^ span : Nat) : Nat) : Int).toNat) (fun i H' => Same H H' ∧ H' D = some (.lst (((List.range i).map fun m => dms cs m).map V.int)))
      ⟨same_upd hD, upd_same⟩ ?_ ?_⟩
    · rintro i H' hi ⟨s1, hD1⟩
      refine ⟨rfl, tyes ?_⟩
      have hcl1 := sqb_same hcl s1
      refine ⟨_, rfl, cl, xs, bb, rfl, hcl1, fun E hE => lc_seqB (K := K) (bb := bb) (a := cl) (xs := xs) (fun k H2 => Same H' H2 ∧ H2 E = some (.lst (((cs.take k).map fun c => dm c i).map V.int)))
        ⟨same_upd hE, upd_same⟩ (fun k H2 _ ⟨s2, _⟩ => sqb_same hcl1 s2) ?_ ?_⟩
      · rintro k y H2 hy ⟨s2, hE1⟩
        obtain ⟨c, hc, pc, rfl, hpc⟩ := hcs.at hy
        have hg := hcg _ (List.mem_of_getElem? hc)
        refine ⟨rfl, tyes ?_⟩
        refine ⟨_, rfl, _, rfl, pc, c, i, (by rw [Int.zero_add]; rfl), sqt_same hpc (s1.trans s2), hg.1, (by have := hg.2; omega), fun H3 s3 => ?_⟩
        refine ⟨_, s3 _ _ hE1, small1000 (by rw [List.length_map, List.length_map, List.length_take]; omega), same_app (s2.trans s3) hE, ?_⟩
        rw [upd_same, ← take_snoc hc, List.map_append, List.map_append]
        rfl
      · rintro H2 ⟨s2, hE1⟩
        rw [hlen, List.take_length] at hE1
        refine ⟨E, _, rfl, SqL.of hE1, ?_⟩
        refine ⟨_, s2 _ _ hD1, small1000 (by rw [List.length_map, List.length_map, List.length_range]; omega), same_app (s1.trans s2) hD, ?_⟩
        rw [upd_same, range_snoc, List.map_append]
        rfl
    · rintro H1 ⟨s1, hD1⟩
      rw [show (((2 ^ span : Nat) : Nat) : Int).toNat = 2 ^ span by omega] at hD1
      intro b db nb ndb neb
      have f0 : Same H1 (upd (upd H1 db (.own b)) b (.ins C_Claims db [])) := mk_same nb ndb (Kp.refl)
      refine ⟨b, db, D, tabN span cs, rfl, upd_same, SqL.of (f0 _ _ hD1), tabN_tab h0 h1, fun J kJ hJ => ⟨rfl, ?_⟩⟩
      exact q _ b (s1.trans (mk_same nb ndb kJ)) (none_of s1 nb) hJ
theorem ok_Lshows {f : Addr} {fd : FuncData} (F : Fun K "_law_shows" "_law_shows" s_Lshows f fd) (T : Txt P w K mg C_Claims A_SPANS) (c_Lsame : Cal CX0 P w K mg base 4 "_law_same" (sp_Lsame K 3)) (c_Claims_span : Prp CX0 P w K mg base 1 C_Claims "span" (sp_span K C_Claims)) :
    FnOk P w K mg base CX0 5 f fd ["_law_told", "_law_span", "_law_table"] (sp_Lshows K C_Claims) := by
  refine F.ok sc_Lshows (fun vs H Q E h => ?_) (fun cdv A outer s H vs Q E hr h => ?_)
  · obtain ⟨a, t, span, ns, rfl, _⟩ := h
    rfl
  · obtain ⟨a, t, span, ns, rfl, hc, hk, rfl, ht, q⟩ := h
    refine ⟨_, (pss_cons (ps_if (pt_not (pt_val (pe_callB (C8.call_isC T.i_Claims) (by rfl) T.n_isinstance (by decide +kernel) (pa_cons (pv 0) (pa_cons (pe_glob (v := .ref C_Claims) rfl T.g_Claims rfl) pa_nil))))) (pss_one (ps_ret pe_bl)) pss_nil)
      (pss_one (ps_ret (pe_and (pc_c c_Lsame hr (by decide) rfl pass0 (pa_cons (pc_prop c_Claims_span hr (by decide) pass0 (pv 0) rfl) (pa_cons (pv 1) pa_nil))) (pe_one (pc_c c_Lsame hr (by decide) rfl pass0 (pa_cons (pe_fld (pv 0) rfl) (pa_cons (pv 2) pa_nil)))))))), ?_⟩
    obtain ⟨dx, tp, ha, htp⟩ := id hc
    have h16 := hk.le
    refine ⟨_, rfl, a, dx, _, rfl, ha, true, rfl, iteF ?_⟩
    refine ⟨_, rfl, a, dx, _, rfl, ha, a, ns, rfl, hc, hk, _, rfl, _, _, rfl, SameV.flat rfl, true, rfl, iteT ?_⟩
    refine ⟨_, rfl, a, C_Claims, dx, _, _, rfl, ha, T.cl_Claims, T.nf_Claims_table, clf_table _, _, rfl, ?_⟩
    exact ⟨_, _, rfl, same_intsT (SqT.of htp) ht (by omega), q _ (Same.of _)⟩
theorem ok_Lcar {f : Addr} {fd : FuncData} (F : Fun K "_law_car" "_law_car" s_Lcar f fd) (T : Txt P w K mg C_Claims A_SPANS) (c_Ltake : Cal CX0 P w K mg base 1 "_law_take" sp_Ltake) :
    FnOk P w K mg base CX0 2 f fd ["_law_pool_here", "_law_span"] sp_Lcar := by
  refine F.ok sc_Lcar (fun vs H Q E h => ?_) (fun cdv A outer s H vs Q E hr h => ?_)
  · obtain ⟨p, span, rfl, _⟩ := h
    rfl
  · obtain ⟨p, span, rfl, s0, s1, hp, q⟩ := h
    refine ⟨_, (pss_cons (ps_set (i := 2) sc_Lcar.nd rfl (Or.inl rfl) (pe_op op_add pe_int (pc_c c_Ltake hr (by decide) rfl pass0 (pa_cons (pv 0) (pa_cons pe_int pa_nil)))))
      (pss_cons (ps_set (i := 3) sc_Lcar.nd rfl (Or.inl rfl) (pe_op op_add pe_int (pc_c c_Ltake hr (by decide) rfl pass0 (pa_cons (pv 0) (pa_cons (pv 2) pa_nil)))))
      (pss_cons (ps_set (i := 4) sc_Lcar.nd rfl (Or.inl rfl) (pv 2))
      (C8.pss_cut (ps_if (pt_cmpR op_gt (pv 4) (pv 1) (nomark _)) (pss_one (ps_set (i := 4) sc_Lcar.nd rfl (Or.inl rfl) (pv 1))) pss_nil)
      (pss_cons (ps_set (i := 4) sc_Lcar.nd rfl (Or.inl rfl) (pe_op op_add pe_int (pc_c c_Ltake hr (by decide) rfl pass0 (pa_cons (pv 0) (pa_cons (pv 4) pa_nil)))))
      (pss_cons (ps_set (i := 5) sc_Lcar.nd rfl (Or.inl rfl) (pe_op op_add (pe_op op_sub (pv 3) (pv 2)) (pv 4)))
      (C8.pss_cut (ps_if (pt_cmpR op_lt (pv 5) pe_int (nomark _)) (pss_one (ps_set (i := 5) sc_Lcar.nd rfl (Or.inl rfl) pe_int)) pss_nil)
      (pss_one (ps_ret (pe_tup (pa_cons (pv 2) (pa_cons (pv 3) (pa_cons (pv 4) (pa_cons (pe_op op_add (pv 5) (pc_c c_Ltake hr (by decide) rfl pass0 (pa_cons (pv 0) (pa_cons (pe_op op_add (pe_op op_sub (pv 3) (pv 5)) pe_int) pa_nil)))) pa_nil)))))))))))))), ?_⟩
    refine ⟨_, rfl, p, 4, rfl, hp, by decide, by decide, fun H1 r1 k1 p1 a0 a1 => ⟨_, _, rfl, rfl, ?_⟩⟩
    refine ⟨_, rfl, _, rfl, p, _, rfl, p1, by omega, by omega, fun H2 r2 k2 p2 b0 b1 => ⟨_, _, rfl, rfl, ?_⟩⟩
    refine ⟨_, rfl, ?_⟩
    refine ⟨fun σ' H' => ∃ l : Int, σ' = [some (.ref p), some (.int (span : Nat)), some (.int (1 + r1)), some (.int (1 + r2)), some (.int l), none] ∧ 1 ≤ l ∧ l ≤ span ∧ l ≤ 1 + r1 ∧ H' = H2, ?_, ?_⟩
    · refine ⟨_, rfl, _, rfl, _, _, rfl, rfl, _, rfl, ite2 (fun h => ?_) (fun h => ?_)⟩
      · simp only [decide_eq_true_eq] at h
        exact ⟨_, rfl, _, rfl, by omega, by omega, by omega, rfl⟩
      · simp only [decide_eq_true_eq] at h
        exact ⟨_, rfl, by omega, by omega, by omega, rfl⟩
    · rintro σ' H2 ⟨l, rfl, l0, l1, l2, rfl⟩
      refine ⟨_, rfl, _, rfl, p, _, rfl, p2, by omega, by omega, fun H3 r3 k3 p3 c0 c1 => ⟨_, _, rfl, rfl, ?_⟩⟩
      refine ⟨_, rfl, _, rfl, _, _, rfl, rfl, _, rfl, _, _, rfl, rfl, ?_⟩
      refine ⟨fun σ' H' => ∃ t : Int, σ' = [some (.ref p), some (.int (span : Nat)), some (.int (1 + r1)), some (.int (1 + r2)), some (.int (1 + r3)), some (.int t)] ∧ 1 ≤ t ∧ t ≤ 1 + r2 ∧ H' = H3, ?_, ?_⟩
      · refine ⟨_, rfl, _, _, rfl, rfl, _, rfl, ite2 (fun h => ?_) (fun h => ?_)⟩
        · exact ⟨_, rfl, by omega, by omega, rfl⟩
        · simp only [decide_eq_true_eq] at h
          exact ⟨_, rfl, by omega, by omega, rfl⟩
      · rintro σ' H3 ⟨t, rfl, t0, t1, rfl⟩
        refine ⟨_, rfl, _, rfl, _, rfl, _, rfl, _, rfl, _, rfl, _, rfl, _, _, rfl, rfl, _, _, rfl, rfl, p, _, rfl, p3, by omega, by omega, fun H4 r4 k4 p4 d0 d1 => ⟨_, _, rfl, rfl, (by show 4 ≤ sizeLine; decide), fun z hz => ?_⟩⟩
        have kk := ((k1.trans k2).trans k3).trans k4
        exact q _ z (1 + r1, 1 + r2, 1 + r3, t + r4) (kk.trans (Kp.of (same_upd hz))) (p4.same (same_upd hz)) (none_kp kk (pool_ne p4 hz) hz) upd_same ⟨by show 1 ≤ 1 + r3; omega, by show 1 + r3 ≤ _; omega⟩
theorem ok_Ldue {f : Addr} {fd : FuncData} (F : Fun K "_law_due" "_law_due" s_Ldue f fd) (T : Txt P w K mg C_Claims A_SPANS)  :
    FnOk P w K mg base CX0 1 f fd ["_law_cars", "_law_span"] (sp_Ldue K) := by
  refine F.ok sc_Ldue (fun vs H Q E h => ?_) (fun cdv A outer s H vs Q E hr h => ?_)
  · obtain ⟨cl, span, xs, cs, rfl, _⟩ := h
    rfl
  · obtain ⟨cl, span, xs, cs, rfl, h0, h1, hcl, hcs, hcz, hcg, q⟩ := h
    refine ⟨_, (pss_cons (ps_set (i := 2) sc_Ldue.nd rfl (Or.inl rfl) (pe_lst pa_nil))
      (pss_cons (ps_for PassesOwn.never rfl (pi_range1 (by rfl) T.n_range (pa_cons (pe_ix ix_list (pe_lst (pa_cons pe_int (pa_cons pe_int (pa_cons pe_int (pa_cons pe_int (pa_cons pe_int pa_nil)))))) (pv 1) (fun _ _ => rfl)) pa_nil)) (pg_name (i := 3) sc_Ldue.nd rfl (Or.inr rfl))
        (pss_cons (ps_set (i := 4) sc_Ldue.nd rfl (Or.inr rfl) (pe_lc (own := [("_law_hour", 8)]) (g := (gName 8)) rfl sc_Ldue.nd (pi_range1 (by rfl) T.n_range (pa_cons pe_int pa_nil)) (blkOk_by (own := [("_law_hour", 8)]) (N := ["_law_cars", "_law_span", "_law_table", "_law_mask", "_law_hours", "_law_total", "_law_car_here", "_law_outside", "_law_hour"]) (sc := defScope s_Ldue) (by decide +kernel)) (fun _ _ _ _ _ => (pg_name (i := 8) sc_Ldue.nd rfl (Or.inl rfl))) (fun _ _ _ _ _ => (pts_one (pt_cmpR op_eq (pe_op op_mod (pe_callTy call_int1 (by rfl) T.n_int (by decide +kernel) (pa_cons (pe_op op_fdivW (pv 3) (pe_ix (show IxR _ (rIxL K) from ix_list) (pe_lst (pa_cons pe_int (pa_cons pe_int (pa_cons pe_int (pa_cons pe_int pa_nil))))) (pv 8) (fun _ _ => rfl))) pa_nil)) pe_int) pe_int (nomark _)))) (fun _ _ _ _ _ => (pv 8))))
      (pss_cons (ps_set (i := 5) sc_Ldue.nd rfl (Or.inl rfl) pe_int)
      (pss_cons (ps_for PassesOwn.never rfl (pi_list (pv 0)) (pg_name (i := 6) sc_Ldue.nd rfl (Or.inl rfl))
        (pss_cons (ps_set (i := 7) sc_Ldue.nd rfl (Or.inl rfl) (pe_callB call_len_seq (by rfl) T.n_len PySem.boot_len (pa_cons (pe_lc (own := [("_law_hour", 8)]) (g := (gName 8)) rfl sc_Ldue.nd (pi_range1 (by rfl) T.n_range (pa_cons (pe_ix ix_tup (pv 6) pe_int (fun _ _ => rfl)) pa_nil)) (blkOk_by (own := [("_law_hour", 8)]) (N := ["_law_cars", "_law_span", "_law_table", "_law_mask", "_law_hours", "_law_total", "_law_car_here", "_law_outside", "_law_hour"]) (sc := defScope s_Ldue) (by decide +kernel)) (fun _ _ _ _ _ => (pg_name (i := 8) sc_Ldue.nd rfl (Or.inl rfl))) (fun _ _ _ _ _ => (pts_one (pt_cmpR (show OpR _ (compareOp .NotIn) (rIn K true) from op_notIn_seq) (pv 8) (pv 4) (by rfl)))) (fun _ _ _ _ _ => (pv 8))) pa_nil)))
      (pss_one (ps_if (pt_cmpR op_gt (pe_ix ix_tup (pv 6) pe_int (fun _ _ => rfl)) (pv 7) (nomark _)) (pss_one (ps_set (i := 5) sc_Ldue.nd rfl (Or.inl rfl) (pe_op op_sub (pe_op op_add (pv 5) (pe_ix ix_tup (pv 6) pe_int (fun _ _ => rfl))) (pv 7)))) pss_nil))))
      (pss_one (ps_expr (pe_bm PySem.F.plainAttrs_list PySem.F.slot_list_append PySem.F.type_list_append mt_append (pv 2) (pa_cons (pv 5) pa_nil))))))))
      (pss_one (ps_ret (pe_callTy call_tuple_of (by rfl) T.n_tuple (by decide +kernel) (pa_cons (pv 2) pa_nil)))))), ?_⟩
    obtain ⟨po, p16, p2⟩ := pow_ok h0 h1
    have hlen := hcs.len
    refine ⟨Nat.zero_le _, fun D hD => ?_⟩
    have s0 : Same H (upd H D (.lst [])) := same_upd hD
    refine ⟨(by show 5 ≤ sizeLine; decide), fun z hz => ?_⟩
    have s1 := s0.trans (same_upd (o := .lst [.int 1, .int 2, .int 4, .int 8, .int 16]) hz)
    have hat : atI [V.int 1, V.int 2, V.int 4, V.int 8, V.int 16] ((span : Nat) : Int) = some (.int ((2 ^ span : Nat) : Int)) := by
      have : span = 1 ∨ span = 2 ∨ span = 3 ∨ span = 4 := by omega
      rcases this with rfl | rfl | rfl | rfl <;> rfl
    have hD1 : (upd (upd H D (.lst [])) z (.lst [.int 1, .int 2, .int 4, .int 8, .int 16])) D = some (.lst []) := same_upd hz _ _ upd_same
    refine ⟨_, rfl, z, _, _, _, rfl, rfl, SqL.of upd_same, hat, _, rfl, by omega, by omega, for_range (lo := 0) (n := ((2 ^ span : Nat) : Int).toNat) (fun i σ H' => ∃ (v3 v4 v5 v6 v7 v8 : Option V), σ = [some (.ref cl), some (.int (span : Nat)), some (.ref D), v3, v4, v5, v6, v7, v8] ∧ Same H H' ∧ H' D = some (.lst (((List.range i).map fun m => dms cs m).map V.int)))
      ⟨none, none, none, none, none, none, rfl, s1, hD1⟩ ?_ ?_⟩
    · clear s1 hD1 hz z s0
      rintro m σ H' hm ⟨v3, v4, v5, v6, v7, v8, rfl, s1, hD1⟩
      refine ⟨4, rfl, by decide, by decide, fun E hE => lc_range (lo := 0) (n := 4) (fun i H2 => Same H' H2 ∧ H2 E = some (.lst (ixs (bitS m i))))
        ⟨same_upd hE, upd_same⟩ ?_ ?_⟩
      · rintro k H2 hk ⟨s2, hE1⟩
        have e := filt_snoc (fun k => decide (m / 2 ^ k % 2 = 1)) k
        have e' : bitS m (k + 1) = bitS m k ++ (if decide (m / 2 ^ k % 2 = 1) = true then [k] else []) := e
        have hbl : (bitS m k).length ≤ k := Nat.le_trans (List.length_filter_le ..) (by rw [List.length_range]; exact Nat.le_refl _)
        have hk0 : k = 0 ∨ k = 1 ∨ k = 2 ∨ k = 3 := by omega
        rcases hk0 with rfl | rfl | rfl | rfl
        all_goals
          refine ⟨rfl, _, rfl, (by show 4 ≤ sizeLine; decide), fun z1 hz1 => ?_⟩
          have s3 := s2.trans (same_upd (o := .lst [.int 1, .int 2, .int 4, .int 8]) hz1)
          have hE2 := same_upd (o := .lst [.int 1, .int 2, .int 4, .int 8]) hz1 _ _ hE1
          refine ⟨_, rfl, z1, _, _, _, rfl, rfl, SqL.of upd_same, rfl, _, _, rfl, rfl, wide_div (b := 300) (by decide) (by decide) (by decide) (by decide), .inl ⟨_, rfl, _, _, rfl, rfl, (by show (0 : Int) < 2; decide), rfl, _, rfl, ite2 (fun hc => ?_) (fun hc => ?_)⟩⟩
          · have hc' := V.int.inj (of_decide_eq_true hc)
            refine ⟨_, rfl, _, hE2, small1000 (by rw [ixs_len]; omega), same_app s3 hE, ?_⟩
            rw [upd_same, e', if_pos (decide_eq_true (by omega))]
            unfold ixs
            rw [List.map_append]
            rfl
          · have hc' : ¬ _ = _ := fun z => hc (decide_eq_true (congrArg V.int z))
            refine ⟨s3, ?_⟩
            rw [e', if_neg (fun z => by have := of_decide_eq_true z; omega), List.append_nil]
            exact hE2
      · rintro H2 ⟨s2, hE1⟩
        have s12 := s1.trans s2
        have hD2 := s2 _ _ hD1
        have hcl2 := Same.seq s12 hcl
        refine ⟨_, rfl, cl, rfl, ⟨_, hcl2⟩, for_list (K := K) (a := cl) (xs := xs) (fun k σ H3 => ∃ (v6 v7 v8 : Option V) (t : Int), σ = [some (.ref cl), some (.int (span : Nat)), some (.ref D), some (.int (0 + (m : Nat))), some (.ref E), some (.int t), v6, v7, v8] ∧ t = dms (cs.take k) m ∧ Same H2 H3)
          ⟨_, _, _, 0, rfl, rfl, Same.of _⟩ (fun k σ H3 _ ⟨_, _, _, _, _, _, s⟩ => Same.seq s hcl2) ?_ ?_⟩
        · rintro k y σ H3 hy ⟨v6, v7, v8, t, rfl, ht, s3⟩
          obtain ⟨c, hc, pc, rfl, hpc⟩ := hcs.at hy
          have hg := hcg _ (List.mem_of_getElem? hc)
          have hg1 := hg.1
          have hg2 := hg.2
          have hpc3 := sqt_same hpc (s12.trans s3)
          have e2 := dms_snoc (cs.take k) c m
          rw [take_snoc hc] at e2
          have hl0 : 0 ≤ c.2.2.1 := by omega
          refine ⟨_, rfl, pc, _, _, _, rfl, rfl, hpc3, rfl, _, rfl, by omega, by omega, fun B hB => lc_range (lo := 0) (n := c.2.2.1.toNat) (fun i H4 => Same H3 H4 ∧ H4 B = some (.lst (ixs (outS m i))))
            ⟨same_upd hB, upd_same⟩ ?_ ?_⟩
          · rintro i H4 hi ⟨s4, hB1⟩
            have e' : outS m (i + 1) = outS m i ++ (if (!decide (m / 2 ^ i % 2 = 1)) = true then [i] else []) := filt_snoc (fun k => !decide (m / 2 ^ k % 2 = 1)) i
            have hbl : (outS m i).length ≤ i := Nat.le_trans (List.length_filter_le ..) (by rw [List.length_range]; exact Nat.le_refl _)
            have hE4 := s4 _ _ (s3 _ _ hE1)
            refine ⟨rfl, _, rfl, _, rfl, E, _, rfl, .inl (SqL.of hE4), rfl, flat_ixs _, _, rfl, ?_⟩
            change (if (!inV (.int (0 + (i : Nat))) (ixs (bitS m 4))) = true then _ else _)
            rw [Int.zero_add, inV_ix]
            by_cases hb : m / 2 ^ i % 2 = 1
            · rw [decide_eq_true (bitS_mem.mpr ⟨by omega, hb⟩)]
              refine iteF ⟨s4, ?_⟩
              rw [e', decide_eq_true hb]
              show _ = some (HO.lst (ixs (_ ++ [])))
              rw [List.append_nil]
              exact hB1
            · rw [decide_eq_false (fun z => hb (bitS_mem.mp z).2)]
              refine iteT ⟨_, rfl, _, hB1, small1000 (by rw [ixs_len]; omega), same_app s4 hB, ?_⟩
              rw [upd_same, e', decide_eq_false hb]
              unfold ixs
              rw [List.map_append]
              rfl
          · rintro H4 ⟨s4, hB1⟩
            have hol := outS_len m c.2.2.1.toNat
            refine ⟨B, _, rfl, .inl (SqL.of hB1), ?_⟩
            have hpc4 := sqt_same hpc3 s4
            rw [ixs_len]
            refine ⟨_, rfl, pc, _, _, _, rfl, rfl, hpc4, rfl, _, rfl, _, _, rfl, rfl, _, rfl, ite2 (fun hq => ?_) (fun hq => ?_)⟩
            · simp only [decide_eq_true_eq] at hq
              refine ⟨_, rfl, _, rfl, pc, _, _, _, rfl, rfl, hpc4, rfl, _, _, rfl, rfl, _, rfl, _, _, rfl, rfl, ?_⟩
              refine ⟨_, _, _, _, rfl, ?_, s3.trans s4⟩
              rw [e2, ht]
              unfold dm
              rw [if_pos (by omega)]
              omega
            · simp only [decide_eq_true_eq] at hq
              refine ⟨_, _, _, _, rfl, ?_, s3.trans s4⟩
              rw [e2, ht]
              unfold dm
              rw [if_neg (by omega)]
              omega
        · rintro σ H3 ⟨v6, v7, v8, t, rfl, ht, s3⟩
          rw [hlen, List.take_length] at ht
          have hD3 := s3 _ _ hD2
          refine ⟨_, rfl, .inl ⟨rfl, _, SqL.of hD3⟩, _, rfl, D, _, _, rfl, rfl, hD3, small1000 (by rw [List.length_map, List.length_map, List.length_range]; omega), ?_⟩
          refine ⟨_, _, _, _, _, _, rfl, same_app (s12.trans s3) hD, ?_⟩
          rw [upd_same, range_snoc', List.map_append, ht]
          rfl
    · rintro σ H' ⟨v3, v4, v5, v6, v7, v8, rfl, s1, hD1⟩
      rw [show ((2 ^ span : Nat) : Int).toNat = 2 ^ span by omega] at hD1
      refine ⟨_, rfl, D, _, rfl, .inl ⟨SqL.of hD1, fun u hu => ?_⟩⟩
      exact q _ u (s1.trans (same_upd hu)) (none_of s1 hu) upd_same
theorem ok_law {f : Addr} {fd : FuncData} (F : Fun K "law" "law" s_law f fd) (T : Txt P w K mg C_Claims A_SPANS) (c_Lcell : Cal CX0 P w K mg base 1 "_law_cell" (sp_Lcell K)) (c_Lpool : Cal CX0 P w K mg base 1 "_law_pool" sp_Lpool) (c_Ltake : Cal CX0 P w K mg base 1 "_law_take" sp_Ltake) (c_Lcar : Cal CX0 P w K mg base 2 "_law_car" sp_Lcar) (c_Ldue : Cal CX0 P w K mg base 1 "_law_due" (sp_Ldue K)) (c_Claims_of : ClM CX0 P w K mg base 3 C_Claims "of" (sp_of K C_Claims)) (c_Lshows : Cal CX0 P w K mg base 5 "_law_shows" (sp_Lshows K C_Claims)) (c_Lsame : Cal CX0 P w K mg base 4 "_law_same" (sp_Lsame K 3)) (c_Claims_none : ClM CX0 P w K mg base 3 C_Claims "none" (sp_none K C_Claims)) :
    FnOk P w K mg base CX0 6 f fd ["_law_script"] (sp_law K) := by
  refine F.ok sc_law (fun vs H Q E h => ?_) (fun cdv A outer s H vs Q E hr h => ?_)
  · obtain ⟨a, ns, rfl, _⟩ := h
    rfl
  · obtain ⟨a, ns, rfl, hS, hlen, q⟩ := h
    refine ⟨_, (pss_cons (ps_set (i := 1) sc_law.nd rfl (Or.inr rfl) (pe_op op_add pe_int (pe_op op_mod (pe_callTy call_int1 (by rfl) T.n_int (by decide +kernel) (pa_cons (pc_c c_Lcell hr (by decide) rfl pass0 (pa_cons (pv 0) (pa_cons pe_int pa_nil))) pa_nil)) pe_int)))
      (pss_cons (ps_set (i := 2) sc_law.nd rfl (Or.inr rfl) (pc_c c_Lpool hr (by decide) rfl pass0 (pa_cons (pc_c c_Lcell hr (by decide) rfl pass0 (pa_cons (pv 0) (pa_cons pe_int pa_nil))) pa_nil)))
      (pss_cons (ps_set (i := 3) sc_law.nd rfl (Or.inl rfl) (pc_c c_Ltake hr (by decide) rfl pass0 (pa_cons (pv 2) (pa_cons pe_int pa_nil))))
      (C8.pss_cut (ps_if (pt_cmpR op_eq (pc_c c_Ltake hr (by decide) rfl pass0 (pa_cons (pv 2) (pa_cons pe_int pa_nil))) pe_int (nomark _)) (pss_one (ps_set (i := 3) sc_law.nd rfl (Or.inl rfl) (pe_op op_add (pv 3) pe_int))) pss_nil)
      (pss_cons (ps_setLc (i := 4) (own := [("_law_k", 10)]) (g := (gName 10)) (tt := tYes) rfl sc_law.nd rfl rfl (sw_true rfl rfl rfl (by decide +kernel)) (pi_range1 (by rfl) T.n_range (pa_cons (pv 3) pa_nil)) (blkOk_by (own := [("_law_k", 10)]) (N := ["_law_script", "_law_span", "_law_pool_here", "_law_many", "_law_cars", "_law_due_here", "_law_handed", "_law_told", "_law_turned", "_law_nothing", "_law_k", "_law_number"]) (sc := defScope s_law) (by decide +kernel)) (fun _ _ _ _ _ => (pg_name (i := 10) sc_law.nd rfl (Or.inl rfl))) (fun _ _ _ _ _ => pts_nil) (fun _ _ _ _ _ => (pc_c c_Lcar hr (by decide) rfl pass0 (pa_cons (pv 2) (pa_cons (pv 1) pa_nil)))))
      (pss_cons (ps_set (i := 5) sc_law.nd rfl (Or.inl rfl) (pc_c c_Ldue hr (by decide) rfl pass0 (pa_cons (pv 4) (pa_cons (pv 1) pa_nil))))
      (pss_cons (ps_set (i := 6) sc_law.nd rfl (Or.inl rfl) (pe_callTy call_list_of (by rfl) T.n_list (by decide +kernel) (pa_cons (pv 4) pa_nil)))
      (pss_cons (ps_set (i := 7) sc_law.nd rfl (Or.inl rfl) (pc_cm c_Claims_of hr (by decide) pass0 (pe_glob (v := .ref C_Claims) rfl T.g_Claims rfl) (pa_cons (pv 1) (pa_cons (pv 6) pa_nil))))
      (pss_cons (ps_if (PW.pt (pw_or (pt_not (pt_val (pc_c c_Lshows hr (by decide) rfl pass0 (pa_cons (pv 7) (pa_cons (pv 1) (pa_cons (pv 5) pa_nil)))))) (pw_or1 (pt_not (pt_val (pc_c c_Lsame hr (by decide) rfl pass0 (pa_cons (pv 6) (pa_cons (pv 4) pa_nil)))))))) (pss_one (ps_ret pe_bl)) pss_nil)
      (pss_cons (ps_expr (pe_bm PySem.F.plainAttrs_list PySem.F.slot_list_append PySem.F.type_list_append mt_append (pv 6) (pa_cons (pe_tup (pa_cons pe_int (pa_cons pe_int (pa_cons pe_int (pa_cons pe_int pa_nil))))) pa_nil)))
      (pss_cons (ps_set (i := 8) sc_law.nd rfl (Or.inl rfl) (pc_cm c_Claims_of hr (by decide) pass0 (pe_glob (v := .ref C_Claims) rfl T.g_Claims rfl) (pa_cons (pv 1) (pa_cons (pe_callTy call_tuple_of (by rfl) T.n_tuple (by decide +kernel) (pa_cons (pe_revL (pv 4)) pa_nil)) pa_nil))))
      (pss_cons (ps_if (PW.pt (pw_or (pt_not (pt_val (pc_c c_Lshows hr (by decide) rfl pass0 (pa_cons (pv 7) (pa_cons (pv 1) (pa_cons (pv 5) pa_nil)))))) (pw_or1 (pt_not (pt_val (pc_c c_Lshows hr (by decide) rfl pass0 (pa_cons (pv 8) (pa_cons (pv 1) (pa_cons (pv 5) pa_nil))))))))) (pss_one (ps_ret pe_bl)) pss_nil)
      (pss_cons (ps_set (i := 9) sc_law.nd rfl (Or.inl rfl) (pe_callTy call_tuple_of (by rfl) T.n_tuple (by decide +kernel) (pa_cons (pe_lc (own := [("_law_number", 11)]) (g := (gName 11)) (tt := tYes) rfl sc_law.nd (pi_tup (pv 5)) (blkOk_by (own := [("_law_number", 11)]) (N := ["_law_script", "_law_span", "_law_pool_here", "_law_many", "_law_cars", "_law_due_here", "_law_handed", "_law_told", "_law_turned", "_law_nothing", "_law_k", "_law_number"]) (sc := defScope s_law) (by decide +kernel)) (fun _ _ _ _ _ => (pg_name (i := 11) sc_law.nd rfl (Or.inl rfl))) (fun _ _ _ _ _ => pts_nil) (fun _ _ _ _ _ => pe_int)) pa_nil)))
      (pss_one (ps_ret (pe_and (pc_c c_Lshows hr (by decide) rfl pass0 (pa_cons (pc_cm c_Claims_none hr (by decide) pass0 (pe_glob (v := .ref C_Claims) rfl T.g_Claims rfl) (pa_cons (pv 1) pa_nil)) (pa_cons (pv 1) (pa_cons (pv 9) pa_nil)))) (pe_one (pc_c c_Lshows hr (by decide) rfl pass0 (pa_cons (pc_cm c_Claims_of hr (by decide) pass0 (pe_glob (v := .ref C_Claims) rfl T.g_Claims rfl) (pa_cons (pv 1) (pa_cons (pe_lst pa_nil) pa_nil))) (pa_cons (pv 1) (pa_cons (pv 9) pa_nil))))))))))))))))))))), ?_⟩
    refine ⟨_, rfl, a, ns, 0, rfl, hS, fun c0 hc0 => .inl ⟨c0, rfl, _, _, rfl, rfl, (by show (0 : Int) < 4; decide), _, _, rfl, rfl, ?_⟩⟩
    obtain ⟨span, hspan⟩ : ∃ n : Nat, 1 + c0 % 4 = (n : Int) := ⟨(1 + c0 % 4).toNat, (Int.toNat_of_nonneg (by omega)).symm⟩
    have h0 : 1 ≤ span := by omega
    have h1 : span ≤ 4 := by omega
    show tSeq _ _ _ ([some (.ref a), some (.int (1 + c0 % 4)), none, none, none, none, none, none, none, none, none, none]) _
    rw [hspan]
    refine ⟨_, rfl, a, ns, 1, rfl, hS, fun c1 _ => ⟨c1, rfl, fun z0 Ha m0 u0 P0 => ?_⟩⟩
    refine ⟨_, rfl, z0, 8, rfl, P0, by decide, by decide, fun H1 r1 k1 p1 a0 a1 => ?_⟩
    refine ⟨fun σ' H' => ∃ n : Nat, σ' = [some (.ref a), some (.int (span : Nat)), some (.ref z0), some (.int (n : Nat)), none, none, none, none, none, none, none, none] ∧ n ≤ 100 ∧ PoolAt H' z0, ?_, ?_⟩
    · refine ⟨_, rfl, z0, 8, rfl, p1, by decide, by decide, fun H2 r2 k2 p2 _ _ => ⟨rfl, _, rfl, ite2 (fun _ => ?_) (fun _ => ?_)⟩⟩
      · refine ⟨_, rfl, _, _, rfl, rfl, (r1 + 24).toNat, ?_, by omega, p2⟩
        rw [Int.toNat_of_nonneg (by omega)]
        rfl
      · refine ⟨r1.toNat, ?_, by omega, p2⟩
        rw [Int.toNat_of_nonneg a0]
        rfl
    · rintro σ' J0 ⟨n, rfl, hn, pp⟩
      refine ⟨_, rfl, _, rfl, by omega, by omega, fun D hD => lc_range (lo := 0) (n := ((n : Nat) : Int).toNat) (fun i H' => Kp z0 J0 H' ∧ PoolAt H' z0 ∧ ∃ (xs : List V) (cs : List Car), H' D = some (.lst xs) ∧ Cars K H' xs cs ∧ cs.length = i ∧ ∀ c ∈ cs, CarD span c)
        ⟨Kp.of (same_upd hD), pp.same (same_upd hD), [], [], upd_same, .nil, rfl, by intro t ht; cases ht⟩ ?_ ?_⟩
      · rintro i H' hi ⟨k3, p4, xs, cs, hD1, hcs, hl1, hg⟩
        have nD := pool_ne pp hD
        refine ⟨rfl, tyes ?_⟩
        refine ⟨_, rfl, _, rfl, z0, span, rfl, h0, h1, p4, fun H5 u c k5 p5 hu0 hu hcd => ?_⟩
        have hD5 := k5 _ _ nD hD1
        have nuD : u ≠ D := fun w => by rw [w, hD1] at hu0; cases hu0
        refine ⟨_, hD5, small1000 (by rw [hcs.len]; omega), kp_app (k3.trans k5) hD, p5.kp Kp.upd nD.symm, _, cs ++ [c], upd_same, (carsL (carsP hcs k5 p4) Kp.upd hD5).snoc ⟨u, rfl, SqT.of (by rw [upd_ne nuD]; exact hu)⟩, by rw [List.length_append, hl1] <;> rfl, fun t ht => ?_⟩
        rcases List.mem_append.mp ht with h | h
        · exact hg t h
        · rw [List.mem_singleton.mp h]
          exact hcd
      · rintro H4 ⟨k4, p4, xs, cs, hD1, hcs, hl1, hg⟩
        have hlx := hcs.len
        have hcz : cs.length ≤ 100 := by omega
        refine ⟨_, rfl, _, rfl, D, span, xs, cs, rfl, h0, h1, SqL.of hD1, hcs, by omega, hg, fun G0 du s1 hdu0 hdu => ?_⟩
        refine ⟨_, rfl, D, _, rfl, .inl (SqL.of (s1 _ _ hD1)), fun hl hhl => ?_⟩
        have s2 := s1.trans (same_upd (o := .lst xs) hhl)
        have hdu2 := same_upd (o := .lst xs) hhl _ _ hdu
        have hD2 := s2 _ _ hD1
        have hcs2 := carsS hcs s2
        have hhl2 := upd_same (H := G0) (a := hl) (o := .lst xs)
        have nDh : D ≠ hl := ne_of_none (s1 _ _ hD1) hhl
        have nuh : du ≠ hl := ne_of_none hdu hhl
        generalize upd G0 hl (.lst xs) = G at *
        have hgS : ∀ c ∈ cs, CarS span c := fun c hc => ⟨by have := (hg c hc).1; omega, (hg c hc).2⟩
        have tab := tabN_tab (cs := cs) h0 h1
        have tl := tabN_len span cs
        have sp1 : spn (tabN span cs).length = span := by rw [tl]; exact spn_pow h0 h1
        refine ⟨rfl, _, rfl, _, rfl, hl, false, span, xs, cs, rfl, h0, h1, SqL.of hhl2, hcs2, by omega, hgS, fun G1 r s3 hr0 hr => ?_⟩
        refine ⟨_, rfl, _, rfl, _, rfl, r, du, span, _, rfl, hr, tab.1, sp1, SqT.of (s3 _ _ hdu2), fun G2 s4 => ⟨true, rfl, iteF ?_⟩⟩
        have s34 := s3.trans s4
        refine ⟨_, rfl, _, rfl, _, _, rfl, cars_sameL (SqL.of (s34 _ _ hhl2)) (SqL.of (s34 _ _ hD2)) (carsS hcs2 s34) (carsS hcs2 s34) (by omega), true, rfl, iteF ?_⟩
        -- handed.append((4, 4, 1, 4))
        have hhl3 := s34 _ _ hhl2
        refine ⟨_, rfl, .inl ⟨rfl, _, SqL.of hhl3⟩, (by show 4 ≤ sizeLine; decide), fun t ht => ?_⟩
        have st := same_upd (o := .tup [.int 4, .int 4, .int 1, .int 4]) ht
        refine ⟨hl, _, _, rfl, rfl, st _ _ hhl3, small1000 (by omega), ?_⟩
        have kk : Kp hl (upd G2 t (.tup [.int 4, .int 4, .int 1, .int 4])) (upd (upd G2 t (.tup [.int 4, .int 4, .int 1, .int 4])) hl (.lst (xs ++ [.ref t]))) := Kp.upd
        have s35 := s34.trans st
        have hr3 : ClmAt K C_Claims (upd (upd G2 t (.tup [.int 4, .int 4, .int 1, .int 4])) hl (.lst (xs ++ [.ref t]))) r (tabN span cs) := by
          obtain ⟨dx, tp, e1, e2⟩ := (hr.same s4).same st
          exact ⟨dx, tp, kk _ _ (fun w => by rw [w, st _ _ hhl3] at e1; cases e1) e1, kk _ _ (fun w => by rw [w, st _ _ hhl3] at e2; cases e2) e2⟩
        have hD3 := kk _ _ nDh (s35 _ _ hD2)
        have hdu3 := kk _ _ nuh (s35 _ _ hdu2)
        have hcs3 := carsL (carsS hcs2 s35) kk (st _ _ hhl3)
        generalize upd (upd G2 t (.tup [.int 4, .int 4, .int 1, .int 4])) hl (.lst (xs ++ [.ref t])) = G3 at *
        refine ⟨rfl, _, rfl, _, rfl, D, xs, rfl, SqL.of hD3, fun y hy => ?_⟩
        have s6 := same_upd (o := .lst xs.reverse) hy
        refine ⟨y, _, rfl, .inl ⟨SqL.of upd_same, fun x hx => ?_⟩⟩
        have s7 := s6.trans (same_upd (o := .tup xs.reverse) hx)
        refine ⟨x, true, span, _, cs.reverse, rfl, h0, h1, SqT.of upd_same, (carsS hcs3 s7).rev, by rw [List.length_reverse]; omega, fun c hc => hgS c (List.mem_reverse.mp hc), fun G4 r2 s8 hr20 hr2 => ?_⟩
        rw [tabN_rev] at hr2
        have s78 := s7.trans s8
        refine ⟨_, rfl, _, rfl, _, rfl, r, du, span, _, rfl, hr3.same s78, tab.1, sp1, SqT.of (s78 _ _ hdu3), fun G5 s9 => ⟨true, rfl, iteF ?_⟩⟩
        refine ⟨_, rfl, _, rfl, _, rfl, r2, du, span, _, rfl, hr2.same s9, tab.1, sp1, SqT.of (s9 _ _ (s78 _ _ hdu3)), fun G6 s10 => ⟨true, rfl, iteF ?_⟩⟩
        have hdu6 := s10 _ _ (s9 _ _ (s78 _ _ hdu3))
        obtain ⟨po, p16, p2⟩ := pow_ok h0 h1
        have hdl : ((tabN span cs).map V.int).length = 2 ^ span := by rw [List.length_map, tl]
        refine ⟨_, rfl, du, rfl, ⟨_, SqT.of hdu6⟩, fun B hB => lc_tup (K := K) (a := du) (xs := (tabN span cs).map V.int) (fun i H' => Same G6 H' ∧ H' B = some (.lst ((List.replicate i (0 : Int)).map V.int)))
          ⟨same_upd hB, upd_same⟩ (fun i H' _ ⟨s, _⟩ => SqT.of (s _ _ hdu6)) ?_ ?_⟩
        · rintro i w H' hw ⟨s, hB1⟩
          have hi : i < 2 ^ span := by rw [← hdl]; exact (List.getElem?_eq_some_iff.mp hw).1
          refine ⟨rfl, tyes ?_⟩
          refine ⟨_, hB1, small1000 (by rw [List.length_map, List.length_replicate]; omega), same_app s hB, ?_⟩
          rw [upd_same, List.replicate_succ', List.map_append]
          rfl
        · rintro G7 ⟨s11, hB1⟩
          rw [hdl] at hB1
          replace hB1 : G7 B = some (.lst ((zer span).map V.int)) := hB1
          refine ⟨B, _, rfl, .inl ⟨SqL.of hB1, fun v hv => ?_⟩⟩
          have hv1 := upd_same (H := G7) (a := v) (o := .tup ((zer span).map V.int))
          generalize upd G7 v (.tup ((zer span).map V.int)) = G8 at *
          have zt := zer_tab h0 h1
          have zl : (zer span).length = 2 ^ span := by unfold zer; rw [List.length_replicate]
          have sp2 : spn (zer span).length = span := by rw [zl]; exact spn_pow h0 h1
          refine ⟨rfl, _, rfl, span, rfl, h0, h1, fun G9 b1 s12 hb10 hb1 => ?_⟩
          refine ⟨_, rfl, _, rfl, b1, v, span, _, rfl, hb1, zt.1, sp2, SqT.of (s12 _ _ hv1), fun G10 s13 => ⟨true, rfl, iteT ?_⟩⟩
          refine ⟨rfl, _, rfl, Nat.zero_le _, fun e he => ?_⟩
          have s14 := same_upd (o := .lst []) he
          refine ⟨e, false, span, [], [], rfl, h0, h1, SqL.of upd_same, .nil, by decide, (by intro c hc; cases hc), fun G11 b2 s15 hb20 hb2 => ?_⟩
          rw [zer_nil] at hb2
          exact ⟨_, rfl, _, rfl, b2, v, span, _, rfl, hb2, zt.1, sp2, SqT.of (s15 _ _ (s14 _ _ (s13 _ _ (s12 _ _ hv1)))), fun G12 _ => q _⟩
end
theorem all_mk {l : PySem.W.OpenLaw} {w : World} {K : PySem.W.Frag} {h : Heap} {mg : Str → Option Value} {fa C_Claims A_SPANS : Addr} {ukSPANS0 uvSPANS0 ukSPANS1 uvSPANS1 ukSPANS2 uvSPANS2 ukSPANS3 uvSPANS3 : Tok} {nSPANS : Nat} {f_umask_count : Addr} {od_umask_count an_umask_count : Option Addr} {sl_umask_count : Array (Option Value)} {oc_umask_count kV_umask_count dc_umask_count pm_umask_count cd_umask_count ct_umask_count : Value} {f_uhours_in : Addr} {od_uhours_in an_uhours_in : Option Addr} {sl_uhours_in : Array (Option Value)} {oc_uhours_in kV_uhours_in dc_uhours_in pm_uhours_in cd_uhours_in ct_uhours_in : Value} {f_udemand : Addr} {od_udemand an_udemand : Option Addr} {sl_udemand : Array (Option Value)} {oc_udemand kV_udemand dc_udemand pm_udemand cd_udemand ct_udemand : Value} {f_Claims_init : Addr} {od_Claims_init an_Claims_init : Option Addr} {sl_Claims_init : Array (Option Value)} {oc_Claims_init kV_Claims_init dc_Claims_init pm_Claims_init cd_Claims_init ct_Claims_init : Value} {f_Claims_none : Addr} {od_Claims_none an_Claims_none : Option Addr} {sl_Claims_none : Array (Option Value)} {oc_Claims_none kV_Claims_none dc_Claims_none pm_Claims_none cd_Claims_none ct_Claims_none : Value} {p_Claims_none : Addr} {rp_Claims_none : List Value} {f_Claims_of : Addr} {od_Claims_of an_Claims_of : Option Addr} {sl_Claims_of : Array (Option Value)} {oc_Claims_of kV_Claims_of dc_Claims_of pm_Claims_of cd_Claims_of ct_Claims_of : Value} {p_Claims_of : Addr} {rp_Claims_of : List Value} {f_Claims_span : Addr} {od_Claims_span an_Claims_span : Option Addr} {sl_Claims_span : Array (Option Value)} {oc_Claims_span kV_Claims_span dc_Claims_span pm_Claims_span cd_Claims_span ct_Claims_span : Value} {p_Claims_span : Addr} {rp_Claims_span : List Value} {f_Lcell : Addr} {od_Lcell an_Lcell : Option Addr} {sl_Lcell : Array (Option Value)} {oc_Lcell kV_Lcell dc_Lcell pm_Lcell cd_Lcell ct_Lcell : Value} {f_Lpool : Addr} {od_Lpool an_Lpool : Option Addr} {sl_Lpool : Array (Option Value)} {oc_Lpool kV_Lpool dc_Lpool pm_Lpool cd_Lpool ct_Lpool : Value} {f_Ltake : Addr} {od_Ltake an_Ltake : Option Addr} {sl_Ltake : Array (Option Value)} {oc_Ltake kV_Ltake dc_Ltake pm_Ltake cd_Ltake ct_Ltake : Value} {f_Lsame : Addr} {od_Lsame an_Lsame : Option Addr} {sl_Lsame : Array (Option Value)} {oc_Lsame kV_Lsame dc_Lsame pm_Lsame cd_Lsame ct_Lsame : Value} {f_Lcar : Addr} {od_Lcar an_Lcar : Option Addr} {sl_Lcar : Array (Option Value)} {oc_Lcar kV_Lcar dc_Lcar pm_Lcar cd_Lcar ct_Lcar : Value} {f_Ldue : Addr} {od_Ldue an_Ldue : Option Addr} {sl_Ldue : Array (Option Value)} {oc_Ldue kV_Ldue dc_Ldue pm_Ldue cd_Ldue ct_Ldue : Value} {f_Lshows : Addr} {od_Lshows an_Lshows : Option Addr} {sl_Lshows : Array (Option Value)} {oc_Lshows kV_Lshows dc_Lshows pm_Lshows cd_Lshows ct_Lshows : Value} {f_law : Addr} {od_law an_law : Option Addr} {sl_law : Array (Option Value)} {oc_law kV_law dc_law pm_law cd_law ct_law : Value}
    (X : K.In h) (G : h.Ns mainGlobals mg) (hfa : mg "law" = some (.ref fa))
    (g_Claims : PySem.W.nsIn K mainGlobals "Claims" = some (some (.ref C_Claims)))
    (pg_Claims : PySem.W.plainGet K C_Claims Str.empty = true)
    (hd_Claims : PySem.W.hasDictIn K C_Claims = true)
    (po_Claims : PySem.W.plainOver K C_Claims = true)
    (sa_Claims : PySem.W.findIn K (.ref C_Claims) "__setattr__" = some (some (.builtin "object.__setattr__")))
    (nf_Claims_table : PySem.W.findIn K (.ref C_Claims) "table" = some none)
    (racr_Claims : PySem.W.nsIn K PySem.cStatics "thirdparty.any" = some none)
    (rbcr_Claims : PySem.W.typeIn K (.ref C_Claims) = some (.type "type"))
    (rccr_Claims : PySem.W.findIn K (.type "type") "__getattribute__" = some (some (.builtin "type.__getattribute__")))
    (rdcr_Claims : PySem.W.subIn K (.type "type") (.type "type") = some true)
    (recr_Claims : PySem.W.specialIn K (.ref C_Claims) "__getattribute__" = some (some (.builtin "type.__getattribute__")))
    (ha_Claims : PySem.W.findIn K (.ref C_Claims) "__class__" = some (some (.builtin "object.__class__")))
    (hn_Claims : PySem.W.specialIn K (.builtin "object.__class__") "__get__" = some (some (.builtin "getset_descriptor.__get__")))
    (ht_Claims : PySem.W.takesIn K (.builtin "object.__class__") = some true)
    (hm_Claims : PySem.W.mroIn K C_Claims (.type "object") = some true)
    (me_Claims : PySem.W.kitOne K (.ref C_Claims) (.ref C_Claims) = some true)
    (c_SPANS : PySem.W.nsIn K mainGlobals "SPANS" = some (some (.ref A_SPANS)))
    (l_SPANS : K.lookup A_SPANS = some ⟨.type "dict", none, .dict #[⟨2, .int 2 ukSPANS0, .int 1 uvSPANS0⟩, ⟨4, .int 4 ukSPANS1, .int 2 uvSPANS1⟩, ⟨8, .int 8 ukSPANS2, .int 3 uvSPANS2⟩, ⟨16, .int 16 ukSPANS3, .int 4 uvSPANS3⟩] nSPANS, #[]⟩)
    (low_SPANS : (A_SPANS == sysModules) = false)
    (n_range : PySem.W.nsIn K mainGlobals "range" = some none)
    (n_sum : PySem.W.nsIn K mainGlobals "sum" = some none)
    (n_max : PySem.W.nsIn K mainGlobals "max" = some none)
    (n_any : PySem.W.nsIn K mainGlobals "any" = some none)
    (n_len : PySem.W.nsIn K mainGlobals "len" = some none)
    (n_tuple : PySem.W.nsIn K mainGlobals "tuple" = some none)
    (n_int : PySem.W.nsIn K mainGlobals "int" = some none)
    (n_abs : PySem.W.nsIn K mainGlobals "abs" = some none)
    (n_isinstance : PySem.W.nsIn K mainGlobals "isinstance" = some none)
    (n_bool : PySem.W.nsIn K mainGlobals "bool" = some none)
    (n_str : PySem.W.nsIn K mainGlobals "str" = some none)
    (n_list : PySem.W.nsIn K mainGlobals "list" = some none)
    (mk_Claims : PySem.W.makesIn K C_Claims = true)
    (mkk_Claims : PySem.W.keepIn K (.ref C_Claims) = true)
    (a_umask_count : PySem.W.nsIn K mainGlobals "_mask_count" = some (some (.ref f_umask_count)))
    (l_umask_count : K.lookup f_umask_count = some ⟨oc_umask_count, od_umask_count, .func (PySem.W.fnOf "_mask_count" "_mask_count" (defArgs s_umask_count) (defBody s_umask_count) (defScope s_umask_count) .none kV_umask_count dc_umask_count pm_umask_count an_umask_count cd_umask_count ct_umask_count), sl_umask_count⟩)
    (q_umask_count : PySem.W.codeIn K cd_umask_count "_mask_count" = true)
    (k_umask_count : PySem.W.keepIn K (.ref f_umask_count) = true)
    (a_uhours_in : PySem.W.nsIn K mainGlobals "_hours_in" = some (some (.ref f_uhours_in)))
    (l_uhours_in : K.lookup f_uhours_in = some ⟨oc_uhours_in, od_uhours_in, .func (PySem.W.fnOf "_hours_in" "_hours_in" (defArgs s_uhours_in) (defBody s_uhours_in) (defScope s_uhours_in) .none kV_uhours_in dc_uhours_in pm_uhours_in an_uhours_in cd_uhours_in ct_uhours_in), sl_uhours_in⟩)
    (q_uhours_in : PySem.W.codeIn K cd_uhours_in "_hours_in" = true)
    (k_uhours_in : PySem.W.keepIn K (.ref f_uhours_in) = true)
    (a_udemand : PySem.W.nsIn K mainGlobals "_demand" = some (some (.ref f_udemand)))
    (l_udemand : K.lookup f_udemand = some ⟨oc_udemand, od_udemand, .func (PySem.W.fnOf "_demand" "_demand" (defArgs s_udemand) (defBody s_udemand) (defScope s_udemand) .none kV_udemand dc_udemand pm_udemand an_udemand cd_udemand ct_udemand), sl_udemand⟩)
    (q_udemand : PySem.W.codeIn K cd_udemand "_demand" = true)
    (k_udemand : PySem.W.keepIn K (.ref f_udemand) = true)
    (a_Claims_init : PySem.W.findIn K (.ref C_Claims) "__init__" = some (some (.ref f_Claims_init)))
    (j_Claims_init : PySem.W.isFn K (.ref f_Claims_init) = true)
    (l_Claims_init : K.lookup f_Claims_init = some ⟨oc_Claims_init, od_Claims_init, .func (PySem.W.fnOf "__init__" "Claims.__init__" (defArgs s_Claims_init) (defBody s_Claims_init) (defScope s_Claims_init) .none kV_Claims_init dc_Claims_init pm_Claims_init an_Claims_init cd_Claims_init ct_Claims_init), sl_Claims_init⟩)
    (q_Claims_init : PySem.W.codeIn K cd_Claims_init "Claims.__init__" = true)
    (k_Claims_init : PySem.W.keepIn K (.ref f_Claims_init) = true)
    (pt_Claims_none : PySem.W.findIn K (.type "type") "none" = some none)
    (pa_Claims_none : PySem.W.findIn K (.ref C_Claims) "none" = some (some (.ref p_Claims_none)))
    (pty_Claims_none : PySem.W.typeIn K (.ref p_Claims_none) = some (.type "classmethod"))
    (pgt_Claims_none : PySem.W.specialIn K (.ref p_Claims_none) "__get__" = some (some (.builtin "classmethod.__get__")))
    (prc_Claims_none : PySem.W.recIn K p_Claims_none "classmethod" = some (.ref f_Claims_none :: rp_Claims_none))
    (l_Claims_none : K.lookup f_Claims_none = some ⟨oc_Claims_none, od_Claims_none, .func (PySem.W.fnOf "none" "Claims.none" (defArgs s_Claims_none) (defBody s_Claims_none) (defScope s_Claims_none) .none kV_Claims_none dc_Claims_none pm_Claims_none an_Claims_none cd_Claims_none ct_Claims_none), sl_Claims_none⟩)
    (q_Claims_none : PySem.W.codeIn K cd_Claims_none "Claims.none" = true)
    (k_Claims_none : PySem.W.keepIn K (.ref f_Claims_none) = true)
    (pt_Claims_of : PySem.W.findIn K (.type "type") "of" = some none)
    (pa_Claims_of : PySem.W.findIn K (.ref C_Claims) "of" = some (some (.ref p_Claims_of)))
    (pty_Claims_of : PySem.W.typeIn K (.ref p_Claims_of) = some (.type "classmethod"))
    (pgt_Claims_of : PySem.W.specialIn K (.ref p_Claims_of) "__get__" = some (some (.builtin "classmethod.__get__")))
    (prc_Claims_of : PySem.W.recIn K p_Claims_of "classmethod" = some (.ref f_Claims_of :: rp_Claims_of))
    (l_Claims_of : K.lookup f_Claims_of = some ⟨oc_Claims_of, od_Claims_of, .func (PySem.W.fnOf "of" "Claims.of" (defArgs s_Claims_of) (defBody s_Claims_of) (defScope s_Claims_of) .none kV_Claims_of dc_Claims_of pm_Claims_of an_Claims_of cd_Claims_of ct_Claims_of), sl_Claims_of⟩)
    (q_Claims_of : PySem.W.codeIn K cd_Claims_of "Claims.of" = true)
    (k_Claims_of : PySem.W.keepIn K (.ref f_Claims_of) = true)
    (pa_Claims_span : PySem.W.findIn K (.ref C_Claims) "span" = some (some (.ref p_Claims_span)))
    (pgt_Claims_span : PySem.W.specialIn K (.ref p_Claims_span) "__get__" = some (some (.builtin "property.__get__")))
    (ptk_Claims_span : PySem.W.takesIn K (.ref p_Claims_span) = some true)
    (prc_Claims_span : PySem.W.recIn K p_Claims_span "property" = some (.ref f_Claims_span :: rp_Claims_span))
    (l_Claims_span : K.lookup f_Claims_span = some ⟨oc_Claims_span, od_Claims_span, .func (PySem.W.fnOf "span" "Claims.span" (defArgs s_Claims_span) (defBody s_Claims_span) (defScope s_Claims_span) .none kV_Claims_span dc_Claims_span pm_Claims_span an_Claims_span cd_Claims_span ct_Claims_span), sl_Claims_span⟩)
    (q_Claims_span : PySem.W.codeIn K cd_Claims_span "Claims.span" = true)
    (k_Claims_span : PySem.W.keepIn K (.ref f_Claims_span) = true)
    (a_Lcell : PySem.W.nsIn K mainGlobals "_law_cell" = some (some (.ref f_Lcell)))
    (l_Lcell : K.lookup f_Lcell = some ⟨oc_Lcell, od_Lcell, .func (PySem.W.fnOf "_law_cell" "_law_cell" (defArgs s_Lcell) (defBody s_Lcell) (defScope s_Lcell) .none kV_Lcell dc_Lcell pm_Lcell an_Lcell cd_Lcell ct_Lcell), sl_Lcell⟩)
    (q_Lcell : PySem.W.codeIn K cd_Lcell "_law_cell" = true)
    (k_Lcell : PySem.W.keepIn K (.ref f_Lcell) = true)
    (a_Lpool : PySem.W.nsIn K mainGlobals "_law_pool" = some (some (.ref f_Lpool)))
    (l_Lpool : K.lookup f_Lpool = some ⟨oc_Lpool, od_Lpool, .func (PySem.W.fnOf "_law_pool" "_law_pool" (defArgs s_Lpool) (defBody s_Lpool) (defScope s_Lpool) .none kV_Lpool dc_Lpool pm_Lpool an_Lpool cd_Lpool ct_Lpool), sl_Lpool⟩)
    (q_Lpool : PySem.W.codeIn K cd_Lpool "_law_pool" = true)
    (k_Lpool : PySem.W.keepIn K (.ref f_Lpool) = true)
    (a_Ltake : PySem.W.nsIn K mainGlobals "_law_take" = some (some (.ref f_Ltake)))
    (l_Ltake : K.lookup f_Ltake = some ⟨oc_Ltake, od_Ltake, .func (PySem.W.fnOf "_law_take" "_law_take" (defArgs s_Ltake) (defBody s_Ltake) (defScope s_Ltake) .none kV_Ltake dc_Ltake pm_Ltake an_Ltake cd_Ltake ct_Ltake), sl_Ltake⟩)
    (q_Ltake : PySem.W.codeIn K cd_Ltake "_law_take" = true)
    (k_Ltake : PySem.W.keepIn K (.ref f_Ltake) = true)
    (a_Lsame : PySem.W.nsIn K mainGlobals "_law_same" = some (some (.ref f_Lsame)))
    (l_Lsame : K.lookup f_Lsame = some ⟨oc_Lsame, od_Lsame, .func (PySem.W.fnOf "_law_same" "_law_same" (defArgs s_Lsame) (defBody s_Lsame) (defScope s_Lsame) .none kV_Lsame dc_Lsame pm_Lsame an_Lsame cd_Lsame ct_Lsame), sl_Lsame⟩)
    (q_Lsame : PySem.W.codeIn K cd_Lsame "_law_same" = true)
    (k_Lsame : PySem.W.keepIn K (.ref f_Lsame) = true)
    (a_Lcar : PySem.W.nsIn K mainGlobals "_law_car" = some (some (.ref f_Lcar)))
    (l_Lcar : K.lookup f_Lcar = some ⟨oc_Lcar, od_Lcar, .func (PySem.W.fnOf "_law_car" "_law_car" (defArgs s_Lcar) (defBody s_Lcar) (defScope s_Lcar) .none kV_Lcar dc_Lcar pm_Lcar an_Lcar cd_Lcar ct_Lcar), sl_Lcar⟩)
    (q_Lcar : PySem.W.codeIn K cd_Lcar "_law_car" = true)
    (k_Lcar : PySem.W.keepIn K (.ref f_Lcar) = true)
    (a_Ldue : PySem.W.nsIn K mainGlobals "_law_due" = some (some (.ref f_Ldue)))
    (l_Ldue : K.lookup f_Ldue = some ⟨oc_Ldue, od_Ldue, .func (PySem.W.fnOf "_law_due" "_law_due" (defArgs s_Ldue) (defBody s_Ldue) (defScope s_Ldue) .none kV_Ldue dc_Ldue pm_Ldue an_Ldue cd_Ldue ct_Ldue), sl_Ldue⟩)
    (q_Ldue : PySem.W.codeIn K cd_Ldue "_law_due" = true)
    (k_Ldue : PySem.W.keepIn K (.ref f_Ldue) = true)
    (a_Lshows : PySem.W.nsIn K mainGlobals "_law_shows" = some (some (.ref f_Lshows)))
    (l_Lshows : K.lookup f_Lshows = some ⟨oc_Lshows, od_Lshows, .func (PySem.W.fnOf "_law_shows" "_law_shows" (defArgs s_Lshows) (defBody s_Lshows) (defScope s_Lshows) .none kV_Lshows dc_Lshows pm_Lshows an_Lshows cd_Lshows ct_Lshows), sl_Lshows⟩)
    (q_Lshows : PySem.W.codeIn K cd_Lshows "_law_shows" = true)
    (k_Lshows : PySem.W.keepIn K (.ref f_Lshows) = true)
    (a_law : PySem.W.nsIn K mainGlobals "law" = some (some (.ref f_law)))
    (l_law : K.lookup f_law = some ⟨oc_law, od_law, .func (PySem.W.fnOf "law" "law" (defArgs s_law) (defBody s_law) (defScope s_law) .none kV_law dc_law pm_law an_law cd_law ct_law), sl_law⟩)
    (q_law : PySem.W.codeIn K cd_law "law" = true)
    (k_law : PySem.W.keepIn K (.ref f_law) = true) :
    ∃ fd : FuncData, (∀ (s : Shared) (v : Value), BindsTo s fd ⟨[v], []⟩ [("_law_script", v)]) ∧ ∀ base : Heap, K.In base → base.Ns mainGlobals mg → FnOk l.prog w K mg base CX0 6 fa fd ["_law_script"] (sp_law K) := by
  have e := hfa.symm.trans (PySem.W.mg_of X G a_law)
  cases e
  have T : Txt l.prog w K mg C_Claims A_SPANS := ⟨PySem.W.mg_of X G g_Claims, ⟨pg_Claims, hd_Claims, po_Claims, sa_Claims⟩, nf_Claims_table, clm_rd racr_Claims rbcr_Claims rccr_Claims rdcr_Claims recr_Claims, ⟨⟨pg_Claims, hd_Claims, po_Claims, sa_Claims⟩, ha_Claims, hn_Claims, ht_Claims, hm_Claims, me_Claims⟩, PySem.W.mg_of X G c_SPANS, kdi_mk [((2, 1), (ukSPANS0, uvSPANS0)), ((4, 2), (ukSPANS1, uvSPANS1)), ((8, 3), (ukSPANS2, uvSPANS2)), ((16, 4), (ukSPANS3, uvSPANS3))] l_SPANS low_SPANS, PySem.W.mg_none_of X G n_range, PySem.W.mg_none_of X G n_sum, PySem.W.mg_none_of X G n_max, PySem.W.mg_none_of X G n_any, PySem.W.mg_none_of X G n_len, PySem.W.mg_none_of X G n_tuple, PySem.W.mg_none_of X G n_int, PySem.W.mg_none_of X G n_abs, PySem.W.mg_none_of X G n_isinstance, PySem.W.mg_none_of X G n_bool, PySem.W.mg_none_of X G n_str, PySem.W.mg_none_of X G n_list⟩
  have F_umask_count := fun_mk (st := s_umask_count) l_umask_count q_umask_count k_umask_count
  have b_umask_count := F_umask_count.binds (ps := ["span"]) fun _ _ _ _ _ _ us hl => match us, hl with | [_], _ => rfl
  have F_uhours_in := fun_mk (st := s_uhours_in) l_uhours_in q_uhours_in k_uhours_in
  have b_uhours_in := F_uhours_in.binds (ps := ["mask", "hours"]) fun _ _ _ _ _ _ us hl => match us, hl with | [_, _], _ => rfl
  have F_udemand := fun_mk (st := s_udemand) l_udemand q_udemand k_udemand
  have b_udemand := F_udemand.binds (ps := ["car", "mask"]) fun _ _ _ _ _ _ us hl => match us, hl with | [_, _], _ => rfl
  have F_Claims_init := fun_mk (st := s_Claims_init) l_Claims_init q_Claims_init k_Claims_init
  have b_Claims_init := F_Claims_init.binds (ps := ["self", "table"]) fun _ _ _ _ _ _ us hl => match us, hl with | [_, _], _ => rfl
  have F_Claims_none := fun_mk (st := s_Claims_none) l_Claims_none q_Claims_none k_Claims_none
  have b_Claims_none := F_Claims_none.binds (ps := ["cls", "span"]) fun _ _ _ _ _ _ us hl => match us, hl with | [_, _], _ => rfl
  have F_Claims_of := fun_mk (st := s_Claims_of) l_Claims_of q_Claims_of k_Claims_of
  have b_Claims_of := F_Claims_of.binds (ps := ["cls", "span", "cars"]) fun _ _ _ _ _ _ us hl => match us, hl with | [_, _, _], _ => rfl
  have F_Claims_span := fun_mk (st := s_Claims_span) l_Claims_span q_Claims_span k_Claims_span
  have b_Claims_span := F_Claims_span.binds (ps := ["self"]) fun _ _ _ _ _ _ us hl => match us, hl with | [_], _ => rfl
  have F_Lcell := fun_mk (st := s_Lcell) l_Lcell q_Lcell k_Lcell
  have b_Lcell := F_Lcell.binds (ps := ["_law_script", "_law_at"]) fun _ _ _ _ _ _ us hl => match us, hl with | [_, _], _ => rfl
  have F_Lpool := fun_mk (st := s_Lpool) l_Lpool q_Lpool k_Lpool
  have b_Lpool := F_Lpool.binds (ps := ["_law_cell_here"]) fun _ _ _ _ _ _ us hl => match us, hl with | [_], _ => rfl
  have F_Ltake := fun_mk (st := s_Ltake) l_Ltake q_Ltake k_Ltake
  have b_Ltake := F_Ltake.binds (ps := ["_law_pool_here", "_law_many"]) fun _ _ _ _ _ _ us hl => match us, hl with | [_, _], _ => rfl
  have F_Lsame := fun_mk (st := s_Lsame) l_Lsame q_Lsame k_Lsame
  have b_Lsame := F_Lsame.binds (ps := ["_law_told", "_law_due_here"]) fun _ _ _ _ _ _ us hl => match us, hl with | [_, _], _ => rfl
  have F_Lcar := fun_mk (st := s_Lcar) l_Lcar q_Lcar k_Lcar
  have b_Lcar := F_Lcar.binds (ps := ["_law_pool_here", "_law_span"]) fun _ _ _ _ _ _ us hl => match us, hl with | [_, _], _ => rfl
  have F_Ldue := fun_mk (st := s_Ldue) l_Ldue q_Ldue k_Ldue
  have b_Ldue := F_Ldue.binds (ps := ["_law_cars", "_law_span"]) fun _ _ _ _ _ _ us hl => match us, hl with | [_, _], _ => rfl
  have F_Lshows := fun_mk (st := s_Lshows) l_Lshows q_Lshows k_Lshows
  have b_Lshows := F_Lshows.binds (ps := ["_law_told", "_law_span", "_law_table"]) fun _ _ _ _ _ _ us hl => match us, hl with | [_, _, _], _ => rfl
  refine ⟨PySem.W.fnOf "law" "law" (defArgs s_law) (defBody s_law) (defScope s_law) .none kV_law dc_law pm_law an_law cd_law ct_law, fun s v => .of_eq rfl, fun base _ _ => ?_⟩
  have c_umask_count := cal_mk (ok_umask_count (P := l.prog) (w := w) (base := base) F_umask_count T ) (PySem.W.mg_of X G a_umask_count) k_umask_count b_umask_count
  have c_uhours_in := cal_mk (ok_uhours_in (P := l.prog) (w := w) (base := base) F_uhours_in T ) (PySem.W.mg_of X G a_uhours_in) k_uhours_in b_uhours_in
  have c_udemand := cal_mk (ok_udemand (P := l.prog) (w := w) (base := base) F_udemand T c_uhours_in) (PySem.W.mg_of X G a_udemand) k_udemand b_udemand
  have c_Claims := mak_mk (ok_Claims_init (P := l.prog) (w := w) (base := base) F_Claims_init T ) (T.g_Claims) ⟨mk_Claims, a_Claims_init, j_Claims_init, mkk_Claims⟩ b_Claims_init
  have c_Claims_none := clm_mk (ok_Claims_none (P := l.prog) (w := w) (base := base) F_Claims_none T c_Claims c_umask_count) T.cr_Claims (clm_at pt_Claims_none pa_Claims_none pty_Claims_none pgt_Claims_none prc_Claims_none (fn_in l_Claims_none)) b_Claims_none
  have c_Claims_of := clm_mk (ok_Claims_of (P := l.prog) (w := w) (base := base) F_Claims_of T c_Claims c_umask_count c_udemand) T.cr_Claims (clm_at pt_Claims_of pa_Claims_of pty_Claims_of pgt_Claims_of prc_Claims_of (fn_in l_Claims_of)) b_Claims_of
  have c_Claims_span := prp_mk (ok_Claims_span (P := l.prog) (w := w) (base := base) F_Claims_span T ) T.cl_Claims ⟨pa_Claims_span, pgt_Claims_span, ptk_Claims_span, ⟨_, prc_Claims_span⟩⟩ b_Claims_span
  have c_Lcell := cal_mk (ok_Lcell (P := l.prog) (w := w) (base := base) F_Lcell T ) (PySem.W.mg_of X G a_Lcell) k_Lcell b_Lcell
  have c_Lpool := cal_mk (ok_Lpool (P := l.prog) (w := w) (base := base) F_Lpool T ) (PySem.W.mg_of X G a_Lpool) k_Lpool b_Lpool
  have c_Ltake := cal_mk (ok_Ltake (P := l.prog) (w := w) (base := base) F_Ltake T ) (PySem.W.mg_of X G a_Ltake) k_Ltake b_Ltake
  have c_Lsame := cal_mk (ok_Lsame (P := l.prog) (w := w) (base := base) F_Lsame T (PySem.W.mg_of X G a_Lsame) k_Lsame b_Lsame 3) (PySem.W.mg_of X G a_Lsame) k_Lsame b_Lsame
  have c_Lcar := cal_mk (ok_Lcar (P := l.prog) (w := w) (base := base) F_Lcar T c_Ltake) (PySem.W.mg_of X G a_Lcar) k_Lcar b_Lcar
  have c_Ldue := cal_mk (ok_Ldue (P := l.prog) (w := w) (base := base) F_Ldue T ) (PySem.W.mg_of X G a_Ldue) k_Ldue b_Ldue
  have c_Lshows := cal_mk (ok_Lshows (P := l.prog) (w := w) (base := base) F_Lshows T c_Lsame c_Claims_span) (PySem.W.mg_of X G a_Lshows) k_Lshows b_Lshows
  exact ok_law (fun_mk (st := s_law) l_law q_law k_law) T c_Lcell c_Lpool c_Ltake c_Lcar c_Ldue c_Claims_of c_Lshows c_Lsame c_Claims_none

theorem walk {l : PySem.W.OpenLaw} {q : Program} {loose : List Str} {XP : (Str → Option Value) → Heap → Prop} {YP : World → Heap → Prop} {d : DefRec} {K : Params → PySem.W.Frag} (hn : l.most = some 63) (hdf : d.params.defaults = [])
    (hY : ∀ (w : World) (h : Heap), YP w h → (K w.params).In h)
    (F : ∀ (w : World) (mg : Str → Option Value) (fa : Addr) (h : Heap), (K w.params).In h → h.Ns mainGlobals mg → mg d.name = some (.ref fa) →
      ∃ fd : FuncData, (∀ (s : Shared) (u : Value), BindsTo s fd ⟨[u], []⟩ [("_law_script", u)]) ∧ ∀ base : Heap, (K w.params).In base → base.Ns mainGlobals mg → FnOk l.prog w (K w.params) mg base CX0 6 fa fd ["_law_script"] (sp_law (K w.params))) :
    PySem.W.WalkO q loose XP YP l.row.toRowW d [] (fun f vs => PySem.call f vs) :=
  L2.walk_of (n := 63) (k := 6) (x := "_law_script") (CX := fun _ => CX0) (sp := fun w => sp_law (K w.params)) hn (by decide) hdf ⟨rfl, by decide, by decide⟩ hY F (fun _ _ a ns hl _ hS => ⟨a, ns, rfl, hS, hl, fun _ => rfl⟩) fun _ _ _ _ _ z => z
end My

open PySem PySem.W PyProof.Rows in
set_option maxRecDepth 100000 in
set_option maxHeartbeats 0 in
theorem PySem.Challenge.cw_onecable_k40_claims_of_open_cars_holds : PySem.Challenge.rw_onecable_k40_claims_of_open_cars.Holds := by
  w_on; o_law; k_head; (case hw => w_witness2)
  k_fill
  refine My.walk (l := PySem.Challenge.rw_onecable_k40_claims_of_open_cars) rfl rfl (fun w h Y => PySem.W.kIn_of Y) ?F
  case F =>
    intro w mg fa h KX G hmg
    refine' My.all_mk KX G hmg ?g_Claims ?pg_Claims ?hd_Claims ?po_Claims ?sa_Claims ?nf_Claims_table ?racr_Claims ?rbcr_Claims ?rccr_Claims ?rdcr_Claims ?recr_Claims ?ha_Claims ?hn_Claims ?ht_Claims ?hm_Claims ?me_Claims ?c_SPANS ?l_SPANS ?low_SPANS ?n_range ?n_sum ?n_max ?n_any ?n_len ?n_tuple ?n_int ?n_abs ?n_isinstance ?n_bool ?n_str ?n_list ?mk_Claims ?mkk_Claims ?a_umask_count ?l_umask_count ?q_umask_count ?k_umask_count ?a_uhours_in ?l_uhours_in ?q_uhours_in ?k_uhours_in ?a_udemand ?l_udemand ?q_udemand ?k_udemand ?a_Claims_init ?j_Claims_init ?l_Claims_init ?q_Claims_init ?k_Claims_init ?pt_Claims_none ?pa_Claims_none ?pty_Claims_none ?pgt_Claims_none ?prc_Claims_none ?l_Claims_none ?q_Claims_none ?k_Claims_none ?pt_Claims_of ?pa_Claims_of ?pty_Claims_of ?pgt_Claims_of ?prc_Claims_of ?l_Claims_of ?q_Claims_of ?k_Claims_of ?pa_Claims_span ?pgt_Claims_span ?ptk_Claims_span ?prc_Claims_span ?l_Claims_span ?q_Claims_span ?k_Claims_span ?a_Lcell ?l_Lcell ?q_Lcell ?k_Lcell ?a_Lpool ?l_Lpool ?q_Lpool ?k_Lpool ?a_Ltake ?l_Ltake ?q_Ltake ?k_Ltake ?a_Lsame ?l_Lsame ?q_Lsame ?k_Lsame ?a_Lcar ?l_Lcar ?q_Lcar ?k_Lcar ?a_Ldue ?l_Ldue ?q_Ldue ?k_Ldue ?a_Lshows ?l_Lshows ?q_Lshows ?k_Lshows ?a_law ?l_law ?q_law ?k_law
    (case g_Claims => k_is)
    (case pg_Claims => k_is)
    (case hd_Claims => k_is)
    (case po_Claims => k_is)
    (case sa_Claims => k_is)
    (case nf_Claims_table => k_is)
    (case racr_Claims => k_is)
    (case rbcr_Claims => k_is)
    (case rccr_Claims => k_is)
    (case rdcr_Claims => k_is)
    (case recr_Claims => k_is)
    (case ha_Claims => k_is)
    (case hn_Claims => k_is)
    (case ht_Claims => k_is)
    (case hm_Claims => k_is)
    (case me_Claims => kit_is)
    (case c_SPANS => k_is)
    (case l_SPANS => k_is)
    (case low_SPANS => first | rfl | decide | k_is)
    (case n_range => k_is)
    (case n_sum => k_is)
    (case n_max => k_is)
    (case n_any => k_is)
    (case n_len => k_is)
    (case n_tuple => k_is)
    (case n_int => k_is)
    (case n_abs => k_is)
    (case n_isinstance => k_is)
    (case n_bool => k_is)
    (case n_str => k_is)
    (case n_list => k_is)
    (case mk_Claims => k_is)
    (case mkk_Claims => k_is)
    (case a_umask_count => k_is)
    (case l_umask_count => k_is)
    (case q_umask_count => k_is)
    (case k_umask_count => k_is)
    (case a_uhours_in => k_is)
    (case l_uhours_in => k_is)
    (case q_uhours_in => k_is)
    (case k_uhours_in => k_is)
    (case a_udemand => k_is)
    (case l_udemand => k_is)
    (case q_udemand => k_is)
    (case k_udemand => k_is)
    (case a_Claims_init => k_is)
    (case j_Claims_init => k_is)
    (case l_Claims_init => k_is)
    (case q_Claims_init => k_is)
    (case k_Claims_init => k_is)
    (case pt_Claims_none => k_is)
    (case pa_Claims_none => k_is)
    (case pty_Claims_none => k_is)
    (case pgt_Claims_none => k_is)
    (case prc_Claims_none => k_is)
    (case l_Claims_none => k_is)
    (case q_Claims_none => k_is)
    (case k_Claims_none => k_is)
    (case pt_Claims_of => k_is)
    (case pa_Claims_of => k_is)
    (case pty_Claims_of => k_is)
    (case pgt_Claims_of => k_is)
    (case prc_Claims_of => k_is)
    (case l_Claims_of => k_is)
    (case q_Claims_of => k_is)
    (case k_Claims_of => k_is)
    (case pa_Claims_span => k_is)
    (case pgt_Claims_span => k_is)
    (case ptk_Claims_span => k_is)
    (case prc_Claims_span => k_is)
    (case l_Claims_span => k_is)
    (case q_Claims_span => k_is)
    (case k_Claims_span => k_is)
    (case a_Lcell => k_is)
    (case l_Lcell => k_is)
    (case q_Lcell => k_is)
    (case k_Lcell => k_is)
    (case a_Lpool => k_is)
    (case l_Lpool => k_is)
    (case q_Lpool => k_is)
    (case k_Lpool => k_is)
    (case a_Ltake => k_is)
    (case l_Ltake => k_is)
    (case q_Ltake => k_is)
    (case k_Ltake => k_is)
    (case a_Lsame => k_is)
    (case l_Lsame => k_is)
    (case q_Lsame => k_is)
    (case k_Lsame => k_is)
    (case a_Lcar => k_is)
    (case l_Lcar => k_is)
    (case q_Lcar => k_is)
    (case k_Lcar => k_is)
    (case a_Ldue => k_is)
    (case l_Ldue => k_is)
    (case q_Ldue => k_is)
    (case k_Ldue => k_is)
    (case a_Lshows => k_is)
    (case l_Lshows => k_is)
    (case q_Lshows => k_is)
    (case k_Lshows => k_is)
    (case a_law => k_is)
    (case l_law => k_is)
    (case q_law => k_is)
    (case k_law => k_is)

