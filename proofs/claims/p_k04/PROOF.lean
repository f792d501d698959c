import PyProof.Rows.All
import Wide.All
import OpenK.AllK
import Wide.FinOn
import HandS.ForExc
import HandS.ForMost
import HandS.Exc
import HandS.TryOnly
import HandS.ExcOwn
import HandS.WordsExc
import HandS.Wide
import HandS.Gcd
import HandS.Codes
import HandS.IsInst
import HandS.ExcIs
import HandS.More
import HandS.Star
import KE.RegKIsAll
import HandS.OwnEq
import HandS.FStr
import KE.KCallOwn
import HandS.Text
import HandS.StrMore
import KE.IntTextLaws
import HandS.OwnIter
import HandS.ClsMeth
import PySem.Challenge.RW_onecable_k04_ratio_text_there_and_back
set_option Elab.async false
set_option maxRecDepth 100000
set_option maxHeartbeats 4000000
set_option linter.all false
namespace My
open PySem PySem.Spec PyProof.Rows L2
/-! ### callables of the text: a def by its name, a method, a class -/
structure Cal (CX : CXT) (P : Program) (w : World) (K : PySem.W.Frag) (mg : Str → Option Value) (base : Heap) (k : Nat) (x : Str) (sp : Sp) : Prop where
  ex : ∃ (f : Addr) (fd : FuncData) (ps : List Str), FnOk P w K mg base CX k f fd ps sp ∧ mg x = some (.ref f) ∧ PySem.W.keepIn K (.ref f) = true ∧ Binds K fd ps []
structure Met (CX : CXT) (P : Program) (w : World) (K : PySem.W.Frag) (mg : Str → Option Value) (base : Heap) (k : Nat) (C : Addr) (m : Str) (sp : Sp) : Prop where
  ex : ∃ (f : Addr) (fd : FuncData) (ps : List Str), Cls K C ∧ Meth K C m f ∧ FnOk P w K mg base CX k f fd ps sp ∧ Binds K fd ps []
  fi : ∀ f, PySem.W.findIn K (.ref C) m = some (some (.ref f)) → PySem.W.fnIn K f = true
structure Mak (CX : CXT) (P : Program) (w : World) (K : PySem.W.Frag) (mg : Str → Option Value) (base : Heap) (k : Nat) (x : Str) (C : Addr) (sp : Sp) : Prop where
  ex : ∃ (f : Addr) (fd : FuncData) (ps : List Str), Mk K C f ∧ FnOk P w K mg base CX k f fd ps sp ∧ mg x = some (.ref C) ∧ Binds K fd ps []
section
variable {CX : CXT} {P : Program} {w : World} {K : PySem.W.Frag} {mg : Str → Option Value} {base : Heap} {k : Nat} {x m : Str} {f C : Addr} {fd : FuncData} {ps : List Str} {sp : Sp}
theorem cal_mk (F : FnOk P w K mg base CX k f fd ps sp) (m : mg x = some (.ref f)) (kp : PySem.W.keepIn K (.ref f) = true) (b : Binds K fd ps []) : Cal CX P w K mg base k x sp := ⟨f, fd, ps, F, m, kp, b⟩
theorem met_mk (F : FnOk P w K mg base CX k f fd ps sp) (c : Cls K C) (me : Meth K C m f) (b : Binds K fd ps []) (fi : PySem.W.fnIn K f = true) : Met CX P w K mg base k C m sp := ⟨⟨f, fd, ps, c, me, F, b⟩, fun g h => by
  have z := me.at_.symm.trans h
  cases z
  exact fi⟩
theorem fn_in {oc : Value} {od : Option Addr} {fdx : FuncData} {sl : Array (Option Value)} (l : K.lookup f = some ⟨oc, od, .func fdx, sl⟩) : PySem.W.fnIn K f = true := by
  unfold PySem.W.fnIn
  rw [l]
theorem mak_mk (F : FnOk P w K mg base CX k f fd ps sp) (m : mg x = some (.ref C)) (M : Mk K C f) (b : Binds K fd ps []) : Mak CX P w K mg base k x C sp := ⟨f, fd, ps, M, F, m, b⟩
end
section
variable {X : Cx} {CX : CXT} {k j : Nat} {C : Addr} {x m : Str} {sp : Sp} {E : XK} {p pos apos : Pos} {e o : Expr} {es : List Expr} {ta : TE} {t : TA}
theorem pc_c (c : Cal CX X.prog X.w X.K X.mg X.base k x sp) (hr : Room j X.A) (hk : k ≤ j) (hg : Gl X x) (hx : Passes CX X E) (ha : PA X (e :: es) t)
    (hdb : (x == ("__debug__" : Str)) = false := by decide) (he : starEach (e :: es) X.env = (false, eval e X.env) :: starEach es X.env := by rfl) (hpl : (backTo pos (starEach es X.env)).any (·.1) = false := by rfl) :
    PE X (.Call (.Name x p) (e :: es) [] pos) (tCall sp [] E t) := by
  obtain ⟨f, fd, ps, F, hm, kp, b⟩ := c.ex
  exact pe_call F (hr.mono hk) hg hm kp b .nil hx ha hdb he hpl
theorem pc_cS {E : L2.St → XK} (c : Cal CX X.prog X.w X.K X.mg X.base k x sp) (hr : Room j X.A) (hk : k ≤ j) (hg : Gl X x) (hx : ∀ σ, PassesAt CX X σ (E σ)) (ha : PA X (e :: es) t)
    (hdb : (x == ("__debug__" : Str)) = false := by decide) (he : starEach (e :: es) X.env = (false, eval e X.env) :: starEach es X.env := by rfl) (hpl : (backTo pos (starEach es X.env)).any (·.1) = false := by rfl) :
    PE X (.Call (.Name x p) (e :: es) [] pos) (tCallS sp E t) := by
  obtain ⟨f, fd, ps, F, hm, kp, b⟩ := c.ex
  exact pe_callS F (hr.mono hk) hg hm kp b hx ha hdb he hpl
theorem pc_mk (c : Mak CX X.prog X.w X.K X.mg X.base k x C sp) (hr : Room j X.A) (hk : k + 1 ≤ j) (hg : Gl X x) (hx : Passes CX X E) (ha : PA X (e :: es) t)
    (hdb : (x == ("__debug__" : Str)) = false := by decide) (he : starEach (e :: es) X.env = (false, eval e X.env) :: starEach es X.env := by rfl) (hpl : (backTo pos (starEach es X.env)).any (·.1) = false := by rfl) :
    PE X (.Call (.Name x p) (e :: es) [] pos) (tMake C sp [] E t) := by
  obtain ⟨f, fd, ps, M, F, hm, b⟩ := c.ex
  exact pe_make M F (hr.mono hk) hg hm b .nil hx ha hdb he hpl
/-- a class made where a try stands around: what is raised is wished for at the slots -/
def tMakeS (C : Addr) (sp : Sp) (E : L2.St → XK) (t : TA) : TE := fun σ H Q => t σ H fun vs H1 => ∀ x dx, H1 x = none → H1 dx = none → dx ≠ x →
  sp (.ref x :: (vs ++ [])) (upd (upd H1 dx (.own x)) x (.ins C dx [])) (fun v H2 => v = .non ∧ Q (.ref x) H2) (E σ)
theorem run_mkS {f : Addr} {fd : FuncData} {ps : List Str} {ds : List Value} {dvs : List V} {pins : List (Addr × Obj)} {σ : L2.St} {H : Hp} {s : Shared} {Q : VK} {us : List Value} {vs : List V} (M : Mk X.K C f) (F : FnOk X.prog X.w X.K X.mg X.base CX k f fd ps sp) (hr : Room (k + 1) X.A) (hb : Binds X.K fd ps ds) (hd : Vals dvs ds)
    (hx : PassesAt CX X σ E) (I : Inv X pins σ H s) (r : Vals vs us)
    (h : ∀ x dx, H x = none → H dx = none → dx ≠ x → sp (.ref x :: (vs ++ dvs)) (upd (upd H dx (.own x)) x (.ins C dx [])) (fun v H2 => v = .non ∧ Q (.ref x) H2) E) :
    wpAny (model X.prog X.w) X.A (call (.ref C) us) (EP X pins σ Q) X.xe s := by
  have hq := h (s.heap.objs.size + 1) s.heap.objs.size (I.hok.fresh (Nat.le_succ _)) (I.hok.fresh (Nat.le_refl _)) (Nat.ne_of_lt (Nat.lt_succ_self _))
  have I2 := Inv.made (C := C) I
  have r2 : Vals (V.ref (s.heap.objs.size + 1) :: (vs ++ dvs)) (Value.ref (s.heap.objs.size + 1) :: (us ++ ds)) := .cons rfl (r.append hd)
  have hl : (Value.ref (s.heap.objs.size + 1) :: us ++ ds).length = ps.length := by
    have e := r2.length
    rw [F.len _ _ _ _ hq] at e
    exact e.symm
  refine wpAny_call (make_map (f := f) I.kIn M.makes M.init (beq_iff_eq.mp M.fn) (codeAny_mono (F.run _ X.stack _ _ ⟨Value.ref (s.heap.objs.size + 1) :: us, []⟩ (Value.ref (s.heap.objs.size + 1) :: (us ++ ds)) _ _ E (hr.make C us [])
    (I2.env0.make C us []) (hb _ (Value.ref (s.heap.objs.size + 1) :: us) I2.kIn hl) r2 hq) fun r s' hq' => ?_))
  cases r with
  | error e => exact hx pins _ _ e s' I2 hq'
  | ok fl =>
    cases fl with
    | ret u =>
      obtain ⟨v, H', I3, rv, ev, q3⟩ := I2.after hq'
      subst ev
      exact ⟨rv, ⟨V.ref (s.heap.objs.size + 1), H', I3, rfl, q3⟩⟩
    | next => exact False.elim hq'
    | brk => exact False.elim hq'
    | cont => exact False.elim hq'
theorem pc_mkS {E : L2.St → XK} (c : Mak CX X.prog X.w X.K X.mg X.base k x C sp) (hr : Room j X.A) (hk : k + 1 ≤ j) (hg : Gl X x) (hx : ∀ σ, PassesAt CX X σ (E σ)) (ha : PA X (e :: es) t)
    (hdb : (x == ("__debug__" : Str)) = false := by decide) (he : starEach (e :: es) X.env = (false, eval e X.env) :: starEach es X.env := by rfl) (hpl : (backTo pos (starEach es X.env)).any (·.1) = false := by rfl) :
    PE X (.Call (.Name x p) (e :: es) [] pos) (tMakeS C sp E t) := by
  obtain ⟨f, fd, ps, M, F, hm, b⟩ := c.ex
  refine ⟨fun pins s σ H Q I h => ?_⟩
  refine wpAny_Call_Name_kw (ld_glob I hg hm ?_ hdb)
  refine PySem.W.callWith_K (h₀ := X.base) I.ok.mod.kin M.kp (thn (ha.run pos pins s σ H _ I h) fun us s1 ⟨vs, H1, I1, r, q⟩ => ⟨I1.kIn, ?_⟩) he hpl
  exact run_mkS M F (hr.mono hk) b .nil (hx σ) I1 r q
theorem pc_mt {pl : Sem Bool} (c : Met CX X.prog X.w X.K X.mg X.base k C m sp) (hr : Room j X.A) (hk : k ≤ j) (hx : Passes CX X E) (he : PE X o ta) (ha : PA X (e :: es) t)
    (hst : starEach (e :: es) X.env = (false, eval e X.env) :: starEach es X.env := by rfl) (hpl : (backTo pos (starEach es X.env)).any (·.1) = false := by rfl)
    (ht : eval (.Call (.Attribute o m apos) (e :: es) [] pos) X.env = (do
      let ov ← eval o X.env
      standAt apos.atName
      let (f, first) ← holding [ov] (getMethod ov m pl)
      callWith pos f first (backTo pos (starEach (e :: es) X.env)) (backToKw pos (keywordEach [] X.env))) := by rfl) :
    PE X (.Call (.Attribute o m apos) (e :: es) [] pos) (tMeth C m sp [] E ta t) := by
  obtain ⟨f, fd, ps, hc, hm, F, b⟩ := c.ex
  exact pe_meth (pl := pl) he hc hm F (hr.mono hk) b .nil hx ha hst hpl ht
theorem pc_mt0 {pl : Sem Bool} (c : Met CX X.prog X.w X.K X.mg X.base k C m sp) (hr : Room j X.A) (hk : k ≤ j) (hx : Passes CX X E) (he : PE X o ta)
    (ht : eval (.Call (.Attribute o m apos) [] [] pos) X.env = (do
      let ov ← eval o X.env
      standAt apos.atName
      let (f, first) ← holding [ov] (getMethod ov m pl)
      callWith pos f first (backTo pos (starEach [] X.env)) (backToKw pos (keywordEach [] X.env))) := by rfl) :
    PE X (.Call (.Attribute o m apos) [] [] pos) (tMeth C m sp [] E ta tNil) := by
  obtain ⟨f, fd, ps, hc, hm, F, b⟩ := c.ex
  exact pe_meth0 (pl := pl) he hc hm F (hr.mono hk) b .nil hx ht
/-! ### further operators -/
/-- * : one factor small, or both below a million bits together -/
def CMulA (i j : Int) : Prop := CMul i j ∨ CMulW i j
theorem op_mulA : OpR X (binaryOp .Mult) (rI CMulA fun i j => .int (i * j)) := opI fun _ _ _ _ _ _ _ hc q => mul_int q (hc.elim CMul.ok CMulW.ok)
/-- // by any divisor but 0 that is no giant -/
def CDivA (_ j : Int) : Prop := j ≠ 0 ∧ j.natAbs.log2 < 9000
theorem op_fdivA : OpR X (binaryOp .FloorDiv) (rI CDivA fun i j => .int (i.fdiv j)) := opI fun _ _ _ _ _ _ _ hc q => floordiv_int hc.1 q (.inl (PyProof.noPylong_of_log2 hc.2))
theorem divA {i j : Int} {b : Nat} (h : j ≠ 0) (hb : j.natAbs < 2 ^ b) (h0 : 0 < b) (h9 : b ≤ 9000) : CDivA i j := ⟨h, Nat.lt_of_lt_of_le (PySem.Flt.log2_lt_of h0 hb) h9⟩
end
/-! ### heaps: all but what stands at p is kept -/
def Kp (p : Addr) (H H' : Hp) : Prop := ∀ b o, b ≠ p → H b = some o → H' b = some o
theorem Kp.refl {p : Addr} {H : Hp} : Kp p H H := fun _ _ _ h => h
theorem Kp.trans {p : Addr} {H H1 H2 : Hp} (a : Kp p H H1) (b : Kp p H1 H2) : Kp p H H2 := fun c o n h => b c o n (a c o n h)
theorem Kp.upd {p : Addr} {H : Hp} {o : HO} : Kp p H (upd H p o) := fun _ _ n h => by rw [upd_ne n]; exact h
theorem Kp.same {p : Addr} {H0 H H' : Hp} (s : Same H0 H) (k : Kp p H H') (n : H0 p = none) : Same H0 H' := fun b o h => k b o (fun e => by rw [e, n] at h; cases h) (s b o h)
theorem same_upd {H : Hp} {p : Addr} {o : HO} (n : H p = none) : Same H (upd H p o) := fun b u h => by rw [upd_ne (ne_of_none h n)]; exact h
theorem Same.of (H : Hp) : Same H H := fun _ _ h => h
/-- isinstance(e, c), e the exception that the suite holds; its class and its dict are told in the reading -/
theorem call_isE2 {X : Cx} {a D : Addr} {oe : Obj} {cls : Value} {d : Option Addr} {pn : List (Addr × Obj)} (C : ExcC X.K D) (hz : Zc cls d oe) (hf : ∃ vs, oe.data = .fields vs) :
    CallR (X.suite a ((a, oe) :: pn)) (.builtin "isinstance") (fun xs H Q => cls = .ref D ∧ d = none ∧ rIsE X.K D a xs H Q) := by
  intro pins s σ H xs us Q I r h
  obtain ⟨rfl, rfl, h⟩ := h
  exact call_isE C hz hf pins s σ H xs us Q I r h
/-- an error of the class at S is what «except S» names -/
theorem exm_self {K : PySem.W.Frag} {S : Addr} (h1 : PySem.W.subIn K (.ref S) (.type "BaseException") = some true) (h2 : PySem.W.isClsIn K S = true) (h3 : PySem.W.typeIn K (.ref S) = some (.type "type")) (h4 : PySem.W.subIn K (.ref S) (.ref S) = some true) :
    PySem.W.exmOne K (.ref S) (.ref S) = some true := by
  have e1 : (PySem.W.subIn K (.ref S) (.type "BaseException") == some true) = true := by rw [h1] <;> rfl
  have e2 : ((PySem.W.clsIn K S).isSome && PySem.W.typeIn K (.ref S) == some (.type "type")) = true := by
    have h2' : (PySem.W.clsIn K S).isSome = true := h2
    rw [h2', h3] <;> rfl
  show (if (PySem.W.subIn K (.ref S) (.type "BaseException") == some true) = true then (if ((PySem.W.clsIn K S).isSome && PySem.W.typeIn K (.ref S) == some (.type "type")) = true then PySem.W.subIn K (.ref S) (.ref S) else none) else none) = some true
  rw [if_pos e1, if_pos e2]
  exact h4
/-- x is True, x is False: whatever x is -/
theorem op_isB {X : Cx} : OpR X (compareOp .Is) (fun x y H Q => ∃ b, y = .bl b ∧ Q (.bl (decide (x = .bl b))) H) := by
  intro pins s σ H x y v u Q I rx ry h
  obtain ⟨b, rfl, q⟩ := h
  cases (show u = Value.bool b from ry)
  have fin : ∀ k : Bool, decide (x = .bl b) = k → EP X pins σ Q (.bool k) s := fun k e => ⟨.bl k, H, I, rfl, by rw [← e]; exact q⟩
  cases x with
  | non => cases (show v = Value.none from rx); exact wpAny_pure (fin _ (by simp))
  | bl c =>
    cases (show v = Value.bool c from rx)
    refine wpAny_pure (fin _ ?_)
    by_cases e : c = b
    · subst e; simp
    · simp [e]
  | int i => obtain ⟨t, e⟩ := (show ∃ t, v = Value.int i t from rx); subst e; exact wpAny_pure (fin _ (by simp))
  | str i => obtain ⟨t, e⟩ := (show ∃ t, v = Value.str i t from rx); subst e; exact wpAny_pure (fin _ (by simp))
  | byt i => obtain ⟨t, e⟩ := (show ∃ t, v = Value.bytes i t from rx); subst e; exact wpAny_pure (fin _ (by simp))
  | flt i => obtain ⟨t, e⟩ := (show ∃ t, v = Value.float i t from rx); subst e; exact wpAny_pure (fin _ (by simp))
  | ref a => cases (show v = Value.ref a from rx); exact wpAny_pure (fin _ (by simp))
  | ty n => cases (show v = Value.type n from rx); exact wpAny_pure (fin _ (by simp))
theorem iteDT {p A B : Prop} [Decidable p] (hp : p) (h : A) : if decide p = true then A else B := by
  rw [decide_eq_true hp]
  exact iteT h
theorem iteDF {p A B : Prop} [Decidable p] (hp : ¬ p) (h : B) : if decide p = true then A else B := by
  rw [decide_eq_false hp]
  exact iteF h
/-! ### the fraction: lowest terms -/
/-- the common divisor with the sign of the denominator -/
def cmn (n d : Int) : Int := if d < 0 then -((Nat.gcd n.natAbs d.natAbs : Nat) : Int) else ((Nat.gcd n.natAbs d.natAbs : Nat) : Int)
def rN (n d : Int) : Int := n.fdiv (cmn n d)
def rD (n d : Int) : Int := d.fdiv (cmn n d)
theorem gcd_pos {n d : Int} (h : d ≠ 0) : 0 < Nat.gcd n.natAbs d.natAbs := Nat.gcd_pos_of_pos_right _ (by omega)
theorem cmn_ne {n d : Int} (h : d ≠ 0) : cmn n d ≠ 0 := by
  have g := gcd_pos (n := n) h
  unfold cmn
  split <;> omega
theorem cmn_natAbs (n d : Int) : (cmn n d).natAbs = Nat.gcd n.natAbs d.natAbs := by
  unfold cmn
  split <;> omega
theorem cmn_dvd_n (n d : Int) : cmn n d ∣ n := Int.natAbs_dvd_natAbs.mp (by rw [cmn_natAbs]; exact Nat.gcd_dvd_left _ _)
theorem cmn_dvd_d (n d : Int) : cmn n d ∣ d := Int.natAbs_dvd_natAbs.mp (by rw [cmn_natAbs]; exact Nat.gcd_dvd_right _ _)
theorem rN_mul (n d : Int) : cmn n d * rN n d = n := Int.mul_fdiv_cancel' (cmn_dvd_n n d)
theorem rD_mul (n d : Int) : cmn n d * rD n d = d := Int.mul_fdiv_cancel' (cmn_dvd_d n d)
theorem rD_pos {n d : Int} (h : d ≠ 0) : 1 ≤ rD n d := by
  have e := rD_mul n d
  have g := gcd_pos (n := n) h
  by_cases hd : d < 0
  · have c : cmn n d < 0 := by unfold cmn; rw [if_pos hd]; omega
    have : ¬ rD n d ≤ 0 := fun z => by
      have := Int.mul_nonneg_of_nonpos_of_nonpos (Int.le_of_lt c) z
      omega
    omega
  · have c : 0 < cmn n d := by unfold cmn; rw [if_neg hd]; omega
    have : ¬ rD n d ≤ 0 := fun z => by
      have := Int.mul_nonpos_of_nonneg_of_nonpos (Int.le_of_lt c) z
      omega
    omega
theorem r_cross (n d : Int) : rN n d * d = n * rD n d := by
  have e1 := rN_mul n d
  have e2 := rD_mul n d
  calc rN n d * d = rN n d * (cmn n d * rD n d) := by rw [e2]
    _ = (cmn n d * rN n d) * rD n d := by rw [← Int.mul_assoc, Int.mul_comm (rN n d)]
    _ = n * rD n d := by rw [e1]
theorem r_cop {n d : Int} (h : d ≠ 0) : Nat.gcd (rN n d).natAbs (rD n d).natAbs = 1 := by
  have g := gcd_pos (n := n) h
  have e1 : (Nat.gcd n.natAbs d.natAbs) * (rN n d).natAbs = n.natAbs := by rw [← cmn_natAbs, ← Int.natAbs_mul, rN_mul]
  have e2 : (Nat.gcd n.natAbs d.natAbs) * (rD n d).natAbs = d.natAbs := by rw [← cmn_natAbs, ← Int.natAbs_mul, rD_mul]
  have e3 : Nat.gcd n.natAbs d.natAbs * Nat.gcd (rN n d).natAbs (rD n d).natAbs = Nat.gcd n.natAbs d.natAbs := by
    rw [← Nat.gcd_mul_left, e1, e2]
  exact Nat.eq_of_mul_eq_mul_left g (by rw [e3, Nat.mul_one])
theorem rN_le {n d : Int} (h : d ≠ 0) : (rN n d).natAbs ≤ n.natAbs := by
  have g := gcd_pos (n := n) h
  have e1 : (Nat.gcd n.natAbs d.natAbs) * (rN n d).natAbs = n.natAbs := by rw [← cmn_natAbs, ← Int.natAbs_mul, rN_mul]
  calc (rN n d).natAbs ≤ Nat.gcd n.natAbs d.natAbs * (rN n d).natAbs := Nat.le_mul_of_pos_left _ g
    _ = n.natAbs := e1
theorem rD_le {n d : Int} (h : d ≠ 0) : (rD n d).natAbs ≤ d.natAbs := by
  have g := gcd_pos (n := n) h
  have e1 : (Nat.gcd n.natAbs d.natAbs) * (rD n d).natAbs = d.natAbs := by rw [← cmn_natAbs, ← Int.natAbs_mul, rD_mul]
  calc (rD n d).natAbs ≤ Nat.gcd n.natAbs d.natAbs * (rD n d).natAbs := Nat.le_mul_of_pos_left _ g
    _ = d.natAbs := e1
theorem cmn_lt {n d : Int} {k : Nat} (h : d ≠ 0) (hd : d.natAbs < 2 ^ k) : (cmn n d).natAbs < 2 ^ k := by
  rw [cmn_natAbs]
  exact Nat.lt_of_le_of_lt (Nat.gcd_le_right _ (by omega)) hd
/-! ### its object -/
theorem nd_ : ¬ (("num" : Str) = "den") := by decide +kernel
theorem dn_ : ¬ (("den" : Str) = "num") := by decide +kernel
def rfs (n d : Int) : List (Str × V) := putF "den" (.int d) (putF "num" (.int n) [])
theorem rfs_num (n d : Int) : (rfs n d).lookup ("num" : Str) = some (.int n) := by
  unfold rfs
  rw [lookup_putF, if_neg nd_, lookup_putF, if_pos rfl]
theorem rfs_den (n d : Int) : (rfs n d).lookup ("den" : Str) = some (.int d) := by
  unfold rfs
  rw [lookup_putF, if_pos rfl]
theorem rfs_no (n d : Int) {m : Str} (h1 : ¬ m = "den") (h2 : ¬ m = "num") : (rfs n d).lookup m = none := by
  unfold rfs
  rw [lookup_putF, if_neg h1, lookup_putF, if_neg h2]
  all_goals rfl
def sp_Ratio_init (C CB : Addr) : Sp := fun vs H Q E => ∃ (x dx : Addr) (n d : Int), vs = [.ref x, .int n, .int d] ∧ H x = some (.ins C dx []) ∧ d.natAbs < 2 ^ 8000 ∧
  (d = 0 → E (.ref CB) none H) ∧ (d ≠ 0 → ∀ H', H' x = some (.ins C dx (rfs (rN n d) (rD n d))) → Kp x H H' → Q .non H')
/-! ### rules for a comprehension's block: the written part by its own name -/
section
variable {X : Cx} {K : PySem.W.Frag}
theorem pe_fldK {e : Expr} {f : Str} {pos : Pos} {ta : TE} (hK : X.K = K) (he : PE X e ta) (hb : attributeBase e f X.env (eval e X.env) = eval e X.env) : PE X (.Attribute e f pos) (tFld K ta f) := by
  subst hK
  exact pe_fld he hb
theorem pe_conK {e : Expr} {f : Str} {pos : Pos} {ta : TE} (hK : X.K = K) (he : PE X e ta) (hb : attributeBase e f X.env (eval e X.env) = eval e X.env) : PE X (.Attribute e f pos) (tCon K ta f) := by
  subst hK
  exact pe_con he hb
theorem call_len_seqK (hK : X.K = K) : CallR X (.builtin "len") (fun xs H Q => ∃ p ys, xs = [.ref p] ∧ (SqL K H p ys ∨ SqT K H p ys) ∧ Q (.int ys.length) H) := by
  subst hK
  exact call_len_seq
theorem call_list_ofK (hK : X.K = K) : CallR X (.type "list") (fun xs H Q => ∃ p ys, xs = [.ref p] ∧ (SqL K H p ys ∨ SqT K H p ys) ∧ ∀ l, H l = none → Q (.ref l) (upd H l (.lst ys))) := by
  subst hK
  exact call_list_of
theorem call_tuple_ofK (hK : X.K = K) : CallR X (.type "tuple") (fun xs H Q => ∃ p ys, xs = [.ref p] ∧ ((SqL K H p ys ∧ ∀ l, H l = none → Q (.ref l) (upd H l (.tup ys))) ∨ (SqT K H p ys ∧ Q (.ref p) H))) := by
  subst hK
  exact call_tuple_of
theorem call_isiK (hK : X.K = K) : CallR X (.builtin "isinstance") (rIsi K) := by
  subst hK
  exact call_isi
theorem cr_sumK (hK : X.K = K) (hc : X.calm = true) : CallR X (.builtin "sum") (rSum K) := by
  subst hK
  exact cr_sum hc
end
/-! ### classmethods, and a class made through a local name -/
theorem clm_rd {K : PySem.W.Frag} {C : Addr} (h1 : PySem.W.nsIn K PySem.cStatics "thirdparty.any" = some none) (h2 : PySem.W.typeIn K (.ref C) = some (.type "type")) (h3 : PySem.W.findIn K (.type "type") "__getattribute__" = some (some (.builtin "type.__getattribute__")))
    (h4 : PySem.W.subIn K (.type "type") (.type "type") = some true) (h5 : PySem.W.specialIn K (.ref C) "__getattribute__" = some (some (.builtin "type.__getattribute__"))) : ClX.CRead K C (.type "type") := by
  refine ⟨?_, h5⟩
  unfold PySem.W.readsIn
  rw [h1, h2, h3, h4]
  rfl
theorem clm_at {K : PySem.W.Frag} {C p g : Addr} {m : Str} {rest : List Value} (h1 : PySem.W.findIn K (.type "type") m = some none) (h2 : PySem.W.findIn K (.ref C) m = some (some (.ref p))) (h3 : PySem.W.typeIn K (.ref p) = some (.type "classmethod"))
    (h4 : PySem.W.specialIn K (.ref p) "__get__" = some (some (.builtin "classmethod.__get__"))) (h5 : PySem.W.recIn K p "classmethod" = some (.ref g :: rest)) (h7 : PySem.W.fnIn K g = true) : ClX.CMet K C (.type "type") m p g := by
  refine ⟨?_, ⟨rest, h5⟩, h7⟩
  unfold PySem.W.findCls
  rw [h1, h2]
  simp only [Option.bind_some]
  refine (if_neg (fun z => Bool.noConfusion z)).trans ?_
  rw [h3]
  simp only [Option.bind_some]
  rw [h4]
  rfl
theorem clv_at {K : PySem.W.Frag} {C : Addr} {m : Str} {n : Int} {t : Tok} (h1 : PySem.W.findIn K (.type "type") m = some none) (h2 : PySem.W.findIn K (.ref C) m = some (some (.int n t))) (h3 : PySem.W.specialIn K (.int n t) "__get__" = some none) : ClX.CVal K C (.type "type") m (.int n) (.int n t) := by
  refine ⟨?_, ⟨t, rfl⟩⟩
  unfold PySem.W.findCls
  rw [h1, h2]
  simp only [Option.bind_some]
  refine (if_neg (fun z => Bool.noConfusion z)).trans ?_
  have ht : PySem.W.typeIn K (.int n t) = some (.type "int") := rfl
  rw [ht]
  simp only [Option.bind_some]
  rw [h3]
  rfl
structure ClM (CX : CXT) (P : Program) (w : World) (K : PySem.W.Frag) (mg : Str → Option Value) (base : Heap) (k : Nat) (C : Addr) (m : Str) (sp : Sp) : Prop where
  ex : ∃ (p g : Addr) (fd : FuncData) (ps : List Str), ClX.CRead K C (.type "type") ∧ ClX.CMet K C (.type "type") m p g ∧ FnOk P w K mg base CX k g fd ps sp ∧ Binds K fd ps []
theorem clm_mk {CX : CXT} {P : Program} {w : World} {K : PySem.W.Frag} {mg : Str → Option Value} {base : Heap} {k : Nat} {m : Str} {f p C : Addr} {fd : FuncData} {ps : List Str} {sp : Sp} (F : FnOk P w K mg base CX k f fd ps sp) (c : ClX.CRead K C (.type "type")) (h : ClX.CMet K C (.type "type") m p f) (b : Binds K fd ps []) : ClM CX P w K mg base k C m sp := ⟨p, f, fd, ps, c, h, F, b⟩
section
variable {X : Cx} {CX : CXT} {k j i : Nat} {C : Addr} {x y m : Str} {sp : Sp} {E : XK} {p pos apos : Pos} {e o : Expr} {es : List Expr} {to : TE} {t : TA}
theorem pc_mkL (c : Mak CX X.prog X.w X.K X.mg X.base k y C sp) (hr : Room j X.A) (hk : k + 1 ≤ j) (hN : X.N[i]? = some x) (hv : Vis X.env.scope x) (hx : Passes CX X E) (ha : PA X (e :: es) t)
    (hdb : (x == ("__debug__" : Str)) = false := by decide) (hcd : (x == ("__classdict__" : Str)) = false := by decide) (he : starEach (e :: es) X.env = (false, eval e X.env) :: starEach es X.env := by rfl) (hpl : (backTo pos (starEach es X.env)).any (·.1) = false := by rfl) :
    PE X (.Call (.Name x p) (e :: es) [] pos) (fun σ H Q => σ[i]? = some (some (.ref C)) ∧ tMake C sp [] E t σ H Q) := by
  obtain ⟨f, fd, ps, M, F, hm, b⟩ := c.ex
  refine ⟨fun pins s σ H Q I h => ?_⟩
  obtain ⟨hs, ht⟩ := h
  refine wpAny_Call_Name_kw (thn ((pe_var (pos := p) hN hv hdb hcd).run pins s σ H (fun v H1 => v = .ref C ∧ H1 = H) I ⟨.ref C, hs, rfl, rfl⟩) fun u s1 ⟨v, H1, I1, r1, q1⟩ => ?_)
  obtain ⟨rfl, rfl⟩ := q1
  cases r1
  refine PySem.W.callWith_K (h₀ := X.base) I.ok.mod.kin M.kp (thn (ha.run pos pins s1 σ _ _ I1 ht) fun us s2 ⟨vs, H2, I2, r, q⟩ => ⟨I2.kIn, ?_⟩) he hpl
  exact run_make M F (hr.mono hk) b .nil hx I2 r q
theorem pc_cm {pl : Sem Bool} (c : ClM CX X.prog X.w X.K X.mg X.base k C m sp) (hr : Room j X.A) (hk : k ≤ j) (hx : Passes CX X E) (he : PE X o to) (ha : PA X (e :: es) t)
    (hst : starEach (e :: es) X.env = (false, eval e X.env) :: starEach es X.env := by rfl) (hpl : (backTo pos (starEach es X.env)).any (·.1) = false := by rfl)
    (ht : eval (.Call (.Attribute o m apos) (e :: es) [] pos) X.env = (do
      let ov ← eval o X.env
      standAt apos.atName
      let (f, first) ← holding [ov] (getMethod ov m pl)
      callWith pos f first (backTo pos (starEach (e :: es) X.env)) (backToKw pos (keywordEach [] X.env))) := by rfl) :
    PE X (.Call (.Attribute o m apos) (e :: es) [] pos) (ClX.tCMeth C (fun vs H Q E => sp (vs ++ []) H Q E) E to t) := by
  obtain ⟨p, g, fd, ps, hc, hm, F, b⟩ := c.ex
  exact ClX.pe_cmeth (pl := pl) he hc hm (F.raw b .nil) (hr.mono hk) hx ha hst hpl ht
end
/-- the same where a try stands around -/
theorem run_cmS {X : Cx} {CX : CXT} {k : Nat} {C p q : Addr} {sp : Sp} {E : XK} {Q : VK} {pins : List (Addr × Obj)} {σ : L2.St} {H : Hp} {s : Shared} {us : List Value} {vs : List V} {g : Addr} (F : FnR X.prog X.w X.K X.mg X.base CX k g sp) (hr : Room k X.A) (hx : PassesAt CX X σ E) (I : Inv X ((q, PySem.W.methodObj (.ref g) (.ref C)) :: pins) σ H s)
    (r : Vals vs us) (h : sp (.ref C :: vs) H Q E) : wpAny (model X.prog X.w) X.A (call (.ref q) us) (EP X pins σ Q) X.xe s := by
  have z : wpAny (model X.prog X.w) X.A (call (.ref q) us) (EP X ((q, PySem.W.methodObj (.ref g) (.ref C)) :: pins) σ Q) X.xe s := by
    refine wpAny_call (PySem.W.method_call (ClX.pin_at I) ?_)
    refine codeAny_mono (F X.A X.stack s H (.ref C :: us) (.ref C :: vs) Q E hr I.env0 (.cons rfl r) h) fun r s' hq => ?_
    cases r with
    | error e => exact hx _ H s e s' I hq
    | ok fl =>
      cases fl with
      | ret u => exact I.after hq
      | next => exact False.elim hq
      | brk => exact False.elim hq
      | cont => exact False.elim hq
  exact thn z fun _ _ y => ClX.unpinE y
def tCMethS (C : Addr) (sp : Sp) (E : L2.St → XK) (ta : TE) (t : TA) : TE := fun σ H Q => ta σ H fun x H1 => x = .ref C ∧ t σ H1 fun vs H2 => sp (.ref C :: vs) H2 Q (E σ)
section
variable {X : Cx} {CX : CXT} {k j i : Nat} {C : Addr} {m : Str} {sp : Sp} {p pos apos : Pos} {e o : Expr} {es : List Expr} {to : TE} {t : TA}
theorem pc_cmS {E : L2.St → XK} {pl : Sem Bool} (c : ClM CX X.prog X.w X.K X.mg X.base k C m sp) (hr : Room j X.A) (hk : k ≤ j) (hx : ∀ σ, PassesAt CX X σ (E σ)) (he : PE X o to) (ha : PA X (e :: es) t)
    (hst : starEach (e :: es) X.env = (false, eval e X.env) :: starEach es X.env := by rfl) (hpl : (backTo pos (starEach es X.env)).any (·.1) = false := by rfl)
    (ht : eval (.Call (.Attribute o m apos) (e :: es) [] pos) X.env = (do
      let ov ← eval o X.env
      standAt apos.atName
      let (f, first) ← holding [ov] (getMethod ov m pl)
      callWith pos f first (backTo pos (starEach (e :: es) X.env)) (backToKw pos (keywordEach [] X.env))) := by rfl) :
    PE X (.Call (.Attribute o m apos) (e :: es) [] pos) (tCMethS C (fun vs H Q E => sp (vs ++ []) H Q E) E to t) := by
  obtain ⟨p, g, fd, ps, r, cm, F0, b⟩ := c.ex
  have F := F0.raw b .nil
  refine ⟨fun pins s σ H Q I h => ?_⟩
  refine PySem.W.methodCall_KW (pl := pl) (thn (he.run pins s σ H _ I h) fun u s1 ⟨x, H1, I1, rx, ex, q⟩ => ?_) ht
  subst ex
  obtain rfl : u = Value.ref C := rx
  refine ClX.getmethcm_ok I1 r cm fun s2 I2 => ?_
  refine ClX.callwith_cm I2 (ClX.base_none I1 (Nat.le_refl _)) cm.fi (thn (ha.run pos _ s2 σ H1 _ I2 q) fun us s3 ⟨vs, H2, I3, rv, q2⟩ => ⟨⟨ClX.pin_at I3, I3.kIn⟩, ?_⟩) hst hpl
  exact run_cmS (p := p) F (hr.mono hk) (hx σ) I3 rv q2
end
/-! ### operators of an own class, called by their signs -/
theorem inst_of {X : Cx} {pins : List (Addr × Obj)} {σ : L2.St} {H : Hp} {s : Shared} {a C dx : Addr} {fs : List (Str × V)} (I : Inv X pins σ H s) (h : H a = some (.ins C dx fs)) :
    ∃ (ox : Obj) (od : Option Obj), PySem.W.InstAt s.heap a ox C od ∧ ox.data = .plain := by
  obtain ⟨mA, O, _⟩ := ins_get I.hok h
  obtain ⟨od, J, _⟩ := O.look
  exact ⟨_, _, J, rfl⟩
theorem back_of {X : Cx} {pins : List (Addr × Obj)} {σ : L2.St} {Q : VK} {u : Value} {s : Shared} (h : EP X pins σ Q u s) : PySem.W.CmpBack (EP X pins σ Q) u s := by
  obtain ⟨v, H', I, r, q⟩ := id h
  cases u with
  | notImplemented =>
    cases v <;> first
      | exact (nomatch (show Value.notImplemented = _ from r))
      | (obtain ⟨t, e⟩ := (show ∃ t, Value.notImplemented = _ from r); cases e)
  | _ => exact h
/-- what the text has of an operator's method: run it on two values; A: where the call stands -/
theorem met_runA {X : Cx} {CX : CXT} {A : Around} {k j : Nat} {C : Addr} {m : Str} {sp : Sp} {E : XK} (c : Met CX X.prog X.w X.K X.mg X.base k C m sp) (hr : Room j A) (hk : k ≤ j) (hx : Passes CX X E)
    (hA : ∀ (s : Shared) (H : Hp), Env0 X.prog X.w X.K X.mg X.base X.A X.stack s H → Env0 X.prog X.w X.K X.mg X.base A X.stack s H) :
    ∃ f : Addr, PySem.W.findIn X.K (.ref C) m = some (some (.ref f)) ∧ PySem.W.isFn X.K (.ref f) = true ∧ PySem.W.keepIn X.K (.ref f) = true ∧
      ∀ (pins : List (Addr × Obj)) (s : Shared) (σ : L2.St) (H : Hp) (us : List Value) (vs : List V) (Q : VK), Inv X pins σ H s → Vals vs us → sp vs H Q E → wpAny (model X.prog X.w) A (call (.ref f) us) (EP X pins σ Q) X.xe s := by
  obtain ⟨f, fd, ps, hc, hm, F, b⟩ := c.ex
  refine ⟨f, hm.at_, hm.fn, hm.kp, fun pins s σ H us vs Q I r h => ?_⟩
  have hl : us.length = ps.length := by rw [← r.length]; exact F.len _ _ _ _ h
  have hb := b s us I.kIn (by rw [List.append_nil]; exact hl)
  rw [List.append_nil] at hb
  refine wpAny_call (codeAny_mono (F.run A X.stack s H ⟨us, []⟩ us vs Q E (hr.mono hk) (hA _ _ I.env0) hb r h) fun r s' hq => ?_)
  match r with
  | .error e => exact hx pins σ H s e s' I hq
  | .ok (.ret u) => exact I.after hq
  | .ok .next => exact False.elim hq
  | .ok .brk => exact False.elim hq
  | .ok .cont => exact False.elim hq
theorem met_run {X : Cx} {CX : CXT} {k j : Nat} {C : Addr} {m : Str} {sp : Sp} {E : XK} (c : Met CX X.prog X.w X.K X.mg X.base k C m sp) (hr : Room j X.A) (hk : k ≤ j) (hx : Passes CX X E) :
    ∃ f : Addr, PySem.W.findIn X.K (.ref C) m = some (some (.ref f)) ∧ PySem.W.isFn X.K (.ref f) = true ∧ PySem.W.keepIn X.K (.ref f) = true ∧
      ∀ (pins : List (Addr × Obj)) (s : Shared) (σ : L2.St) (H : Hp) (us : List Value) (vs : List V) (Q : VK), Inv X pins σ H s → Vals vs us → sp vs H Q E → wpAny (model X.prog X.w) X.A (call (.ref f) us) (EP X pins σ Q) X.xe s := met_runA c hr hk hx fun _ _ z => z
section
variable {X : Cx} {CX : CXT} {k j : Nat} {C : Addr} {m : Str} {sp : Sp} {E : XK}
def rOwn2 (C : Addr) (sp : Sp) (E : XK) : R2 := fun x y H Q => ∃ (a b dx dy : Addr) (fs gs : List (Str × V)), x = .ref a ∧ y = .ref b ∧ H a = some (.ins C dx fs) ∧ H b = some (.ins C dy gs) ∧ sp [x, y] H Q E
/-- x op y, both of one own class that has the method -/
theorem op_own {op : Operator} (c : Met CX X.prog X.w X.K X.mg X.base k C m sp) (hr : Room j X.A) (hk : k ≤ j) (hx : Passes CX X E) (sf : PySem.W.selfFirst X.K C = true) (hm : PySem.dunder op.info.2 = m := by decide +kernel) :
    OpR X (binaryOp op) (rOwn2 C sp E) := by
  intro pins s σ H x y v u Q I rx ry h
  obtain ⟨a, b, dx, dy, fs, gs, rfl, rfl, ha, hb, hs⟩ := h
  obtain ⟨f, hf, fn, kp, run⟩ := met_run c hr hk hx
  obtain ⟨mF, F⟩ := I.fr
  obtain ⟨ox, od, J, _⟩ := inst_of I ha
  obtain ⟨oy, oe, J2, _⟩ := inst_of I hb
  have r2 : Vals [V.ref a, V.ref b] [v, u] := .cons rx (.cons ry .nil)
  cases (show v = Value.ref a from rx)
  cases (show u = Value.ref b from ry)
  exact PySem.W.binop_K F I.ok.mod.kin J J2.type sf (by rw [hm]; exact hf) fn (wpAny_mono (run pins s σ H _ _ Q I r2 hs) (fun _ _ z => back_of z) fun _ _ z => z)
def rOwnI (C : Addr) (sp : Sp) (E : XK) : R2 := fun x y H Q => ∃ (a dx : Addr) (fs : List (Str × V)) (i : Int), x = .ref a ∧ y = .int i ∧ H a = some (.ins C dx fs) ∧ sp [x, y] H Q E
/-- x op i, i a whole number -/
theorem op_ownI {op : Operator} (c : Met CX X.prog X.w X.K X.mg X.base k C m sp) (hr : Room j X.A) (hk : k ≤ j) (hx : Passes CX X E) (sf : PySem.W.selfFirst X.K C = true)
    (hrc : ∃ rc, PySem.W.findIn X.K (.ref C) (dunderR op.info.2) = some rc ∧ (rc = none ∨ ∃ g : Addr, rc = some (.ref g)))
    (h1 : ∃ fo, PySem.W.findIn X.K (.type "int") (PySem.dunder op.info.2) = some fo) (h2 : ∃ ro, PySem.W.findIn X.K (.type "int") (dunderR op.info.2) = some ro) (hsub : PySem.W.subIn X.K (.type "int") (.ref C) = some false)
    (hm : PySem.dunder op.info.2 = m := by decide +kernel) : OpR X (binaryOp op) (rOwnI C sp E) := by
  intro pins s σ H x y v u Q I rx ry h
  obtain ⟨a, dx, fs, i, rfl, rfl, ha, hs⟩ := h
  obtain ⟨f, hf, fn, kp, run⟩ := met_run c hr hk hx
  obtain ⟨rc, hrc, hp⟩ := hrc
  obtain ⟨fo, h1⟩ := h1
  obtain ⟨ro, h2⟩ := h2
  obtain ⟨mF, F⟩ := I.fr
  obtain ⟨ox, od, J, _⟩ := inst_of I ha
  have r2 : Vals [V.ref a, V.int i] [v, u] := .cons rx (.cons ry .nil)
  cases (show v = Value.ref a from rx)
  obtain ⟨t, et⟩ := (show ∃ t, u = Value.int i t from ry)
  subst et
  exact PySem.W.ksp_binT (T := "int") F I.ok.mod.kin J rfl sf (by rw [hm]; exact hf) fn hrc hp h1 h2 hsub (wpAny_mono (run pins s σ H _ _ Q I r2 hs) (fun _ _ z => back_of z) fun _ _ z => z)
def rOwn1 (C : Addr) (sp : Sp) (E : XK) : V → Hp → VK → Prop := fun x H Q => ∃ (a dx : Addr) (fs : List (Str × V)), x = .ref a ∧ H a = some (.ins C dx fs) ∧ sp [x] H Q E
/-- -x -/
theorem un_own (c : Met CX X.prog X.w X.K X.mg X.base k C "__neg__" sp) (hr : Room j X.A) (hk : k ≤ j) (hx : Passes CX X E) : UnR X (unaryOp .USub) (rOwn1 C sp E) := by
  intro pins s σ H x v Q I rx h
  obtain ⟨a, dx, fs, rfl, ha, hs⟩ := h
  obtain ⟨f, hf, fn, kp, run⟩ := met_run c hr hk hx
  obtain ⟨mF, F⟩ := I.fr
  obtain ⟨ox, od, J, _⟩ := inst_of I ha
  have r1 : Vals [V.ref a] [v] := .cons rx .nil
  cases (show v = Value.ref a from rx)
  exact PySem.W.ksp_neg F I.ok.mod.kin J hf fn (run pins s σ H _ _ Q I r1 hs)
/-- int's method finds no int in an own instance -/
theorem int_declines {prog : Program} {w : World} {A : Around} {Er : Value → Shared → Prop} {s : Shared} {x D : Addr} {ox : Obj} {od : Option Obj} {i : Int} {t : Tok} {nm : String} {id : String} {nmB : String} {f : Int → Int → Sem Fin} {Q : Option Value → Shared → Prop}
    (J : PySem.W.InstAt s.heap x ox D od) (hd : ox.data = .plain) (slot : Slot "int" (PySem.dunder nm) id) (entry : entryFor table id = some (Builtin.Int.intBinary nmB f)) (args : argsOk id ⟨[.int i t, .ref x], []⟩) (h : Q none s) :
    wpAny (model prog w) A (tryMethod (.int i t) (PySem.dunder nm) (.ref x)) Q Er s := by
  refine wpAny_tryMethod_declines (typeIs_int s i t) slot ?_
  refine GQ.call_here slot (typeIs_int s i t) entry args ?_
  unfold Builtin.Int.intBinary
  obtain ⟨hp, g, d, tk, os⟩ := s
  obtain ⟨oc, odd, odt, osl⟩ := ox
  dsimp only at hd
  subst hd
  have hx : hp.get? x = some _ := J.1
  wp_walk using AutoSeq1.wpAny_loadPart' hx
  exact ⟨rfl, h⟩
end
def rIOwn (C : Addr) (sp : Sp) (E : XK) : R2 := fun x y H Q => ∃ (a dx : Addr) (fs : List (Str × V)) (i : Int), x = .int i ∧ y = .ref a ∧ H a = some (.ins C dx fs) ∧ sp [y, x] H Q E
/-- i op x, i a whole number: x's reflected method -/
theorem op_Iown {X : Cx} {CX : CXT} {k j : Nat} {C : Addr} {sp : Sp} {E : XK} {op : Operator} {nm id nmB : String} {f : Int → Int → Sem Fin} (hop : op.info.2 = nm)
    (slot : Slot "int" (PySem.dunder nm) id) (entry : entryFor table id = some (Builtin.Int.intBinary nmB f)) (args : ∀ (i : Int) (t : Tok) (x : Addr), argsOk id ⟨[.int i t, .ref x], []⟩) (fills : fillsNumberSlot (.type "int") nm = pure true)
    (c : Met CX X.prog X.w X.K X.mg X.base k C (dunderR nm) sp) (hr : Room j X.A) (hk : k ≤ j) (hx : Passes CX X E) (sf : PySem.W.selfFirst X.K C = true)
    (hs : ∃ g : Addr, PySem.W.findIn X.K (.ref C) (PySem.dunder nm) = some (some (.ref g))) (hsub : PySem.W.subIn X.K (.ref C) (.type "int") = some false) : OpR X (binaryOp op) (rIOwn C sp E) := by
  intro pins s σ H x y v u Q I rx ry h
  obtain ⟨a, dx, fs, i, rfl, rfl, ha, hsp⟩ := h
  obtain ⟨g, hs⟩ := hs
  obtain ⟨f, hf, fn, kp, run⟩ := met_run c hr hk hx
  obtain ⟨ox, od, J, hd⟩ := inst_of I ha
  have r2 : Vals [V.ref a, V.int i] [u, v] := .cons ry (.cons rx .nil)
  cases (show u = Value.ref a from ry)
  obtain ⟨t, et⟩ := (show ∃ t, v = Value.int i t from rx)
  subst et
  have one := PySem.W.ksp_try (M := model X.prog X.w) (A := X.A) (name := dunderR nm) (b := .int i t) I.kIn J hf fn (wpAny_mono (run pins s σ H _ _ Q I r2 hsp) (fun _ _ z => back_of z) fun _ _ z => z)
  obtain ⟨cd, rest, hcd, hmr⟩ := PySem.W.ksp_first sf
  have K1 : X.K.In s.heap := I.kIn
  rcases hi : op.info with ⟨sym, nm'⟩
  rw [hi] at hop
  dsimp only at hop
  subst hop
  have L2 : PySem.W.Looks (model X.prog X.w) s.heap (typeOf (.ref a)) (.ref C) := J.type
  have L4 : PySem.W.Looks (model X.prog X.w) s.heap (fillsNumberSlot (.ref C) nm') true := PySem.W.fills_K K1 hcd hmr hs
  have L5 : PySem.W.Looks (model X.prog X.w) s.heap (isSubtype (.ref C) (.type "int")) false := PySem.W.looks_subIn K1 hsub
  have hne : (Value.type "int" == Value.ref C) = false := Bool.eq_false_iff.mpr fun q => by cases beq_iff_eq.mp q
  have hpy : numberSlotInPython (.type "int") nm' = pure false := rfl
  simp only [binaryOp, hi]
  refine wpAny_holding (wpAny_bind ?_)
  unfold binaryOp1
  refine wpAny_bind (wpAny_typeOf (typeIs_int s i t) (wpAny_bind (L2.here (wpAny_bind (wpAny_of_eq fills ?_)))))
  simp only [hne, Bool.false_eq_true, if_false]
  refine wpAny_bind (L4.here ?_)
  simp only [Bool.and_self, if_true]
  refine wpAny_bind (L5.here ?_)
  simp only [Bool.false_eq_true, if_false, pure_bind, Bool.not_false, Bool.and_self, if_true, hpy]
  refine wpAny_bind (int_declines J hd slot entry (args i t a) ?_)
  dsimp only
  refine wpAny_bind (wpAny_mono one (fun r s' hr' => ?_) fun _ _ e => e)
  obtain ⟨v, rfl, hq⟩ := hr'
  exact wpAny_bind (wpAny_rule (wpAny_pure (wpAny_pure hq)))
/-- abs(x), x an own instance -/
theorem call_absO {X : Cx} {CX : CXT} {k j : Nat} {C : Addr} {sp : Sp} {E : XK} (c : Met CX X.prog X.w X.K X.mg X.base k C "__abs__" sp) (hr : Room j X.A) (hk : k + 1 ≤ j) (hx : Passes CX X E) :
    CallR X (.builtin "abs") (fun xs H Q => ∃ x, xs = [x] ∧ rOwn1 C sp E x H Q) := by
  intro pins s σ H xs us Q I r h
  obtain ⟨x, rfl, a, dx, fs, rfl, ha, hs⟩ := h
  obtain ⟨f, hf, fn, kp, run⟩ := met_runA c (hr.mono hk).in1 (Nat.le_refl _) hx (fun _ _ z => z.in1)
  obtain ⟨ox, od, J, _⟩ := inst_of I ha
  have r0 := r
  obtain ⟨u, rfl, ru⟩ := vals1 r
  cases (show u = Value.ref a from ru)
  have h1 := run pins s σ H _ _ Q I r0 hs
  refine PySem.Calls.call_function_entry PyProof.Rows.kind_abs PyProof.Rows.plain_abs PyProof.Rows.entry_abs (PyProof.Rows.args_abs _) ?_
  unfold Builtin.«abs»
  refine wpAny_bind (m := oneArg "abs" _) (wpAny_pure ?_)
  refine wpAny_bind (m := callSpecial? (.ref a) (Str.ofString "__abs__")) (PySem.W.special_fn I.kIn J hf (beq_iff_eq.mp fn) (wpAny_mono h1 (fun v s' hv => ?_) fun _ _ z => z))
  exact wpAny_pure ⟨_, rfl, hv⟩
theorem UnR.or {X : Cx} {f : Value → Sem Value} {r r' : V → Hp → VK → Prop} (h : UnR X f r) (h' : UnR X f r') : UnR X f (fun x H Q => r x H Q ∨ r' x H Q) := by
  intro pins s σ H x v Q I rx q
  rcases q with q | q
  · exact h pins s σ H x v Q I rx q
  · exact h' pins s σ H x v Q I rx q
theorem CallR.or {X : Cx} {f : Value} {r r' : List V → Hp → VK → Prop} (h : CallR X f r) (h' : CallR X f r') : CallR X f (fun x H Q => r x H Q ∨ r' x H Q) := by
  intro pins s σ H x v Q I rx q
  rcases q with q | q
  · exact h pins s σ H x v Q I rx q
  · exact h' pins s σ H x v Q I rx q
/-! ### the same operators where a try stands around: what is raised is wished for at the slots -/
theorem met_runS {X : Cx} {CX : CXT} {k j : Nat} {C : Addr} {m : Str} {sp : Sp} {E : L2.St → XK} (c : Met CX X.prog X.w X.K X.mg X.base k C m sp) (hr : Room j X.A) (hk : k ≤ j) (hx : ∀ σ, PassesAt CX X σ (E σ)) :
    ∃ f : Addr, PySem.W.findIn X.K (.ref C) m = some (some (.ref f)) ∧ PySem.W.isFn X.K (.ref f) = true ∧ PySem.W.keepIn X.K (.ref f) = true ∧
      ∀ (pins : List (Addr × Obj)) (s : Shared) (σ : L2.St) (H : Hp) (us : List Value) (vs : List V) (Q : VK), Inv X pins σ H s → Vals vs us → sp vs H Q (E σ) → wpAny (model X.prog X.w) X.A (call (.ref f) us) (EP X pins σ Q) X.xe s := by
  obtain ⟨f, fd, ps, hc, hm, F, b⟩ := c.ex
  refine ⟨f, hm.at_, hm.fn, hm.kp, fun pins s σ H us vs Q I r h => ?_⟩
  have hl : us.length = ps.length := by rw [← r.length]; exact F.len _ _ _ _ h
  have hb := b s us I.kIn (by rw [List.append_nil]; exact hl)
  rw [List.append_nil] at hb
  refine wpAny_call (codeAny_mono (F.run X.A X.stack s H ⟨us, []⟩ us vs Q (E σ) (hr.mono hk) I.env0 hb r h) fun r s' hq => ?_)
  match r with
  | .error e => exact hx σ pins H s e s' I hq
  | .ok (.ret u) => exact I.after hq
  | .ok .next => exact False.elim hq
  | .ok .brk => exact False.elim hq
  | .ok .cont => exact False.elim hq
def OpRS (X : Cx) (f : Value → Value → Sem Value) (r : L2.St → R2) : Prop :=
  ∀ (pins : List (Addr × Obj)) (s : Shared) (σ : L2.St) (H : Hp) (x y : V) (v u : Value) (Q : VK), Inv X pins σ H s → RelV x v → RelV y u → r σ x y H Q →
    wpAny (model X.prog X.w) X.A (f v u) (EP X pins σ Q) X.xe s
def tOpS (r : L2.St → R2) (ta tb : TE) : TE := fun σ H Q => ta σ H fun x H1 => tb σ H1 fun y H2 => r σ x y H2 Q
theorem pe_opS {X : Cx} {a b : Expr} {ta tb : TE} {pos : Pos} {op : Operator} {r : L2.St → R2} (ho : OpRS X (binaryOp op) r) (ha : PE X a ta) (hb : PE X b tb) : PE X (.BinOp a op b pos) (tOpS r ta tb) := by
  refine ⟨fun pins s σ H Q I h => ?_⟩
  exact wpAny_BinOp (binT (R := fun x y H2 => r σ x y H2 Q) ha hb I h fun v u s2 x y H2 I2 rx ry q => ho pins s2 σ H2 x y v u Q I2 rx ry q)
theorem OpRS.or {X : Cx} {f : Value → Value → Sem Value} {r r' : L2.St → R2} (h : OpRS X f r) (h' : OpRS X f r') : OpRS X f (fun σ x y H Q => r σ x y H Q ∨ r' σ x y H Q) := by
  intro pins s σ H x y v u Q I rx ry q
  rcases q with q | q
  · exact h pins s σ H x y v u Q I rx ry q
  · exact h' pins s σ H x y v u Q I rx ry q
section
variable {X : Cx} {CX : CXT} {k j : Nat} {C : Addr} {m : Str} {sp : Sp} {E : L2.St → XK}
theorem op_ownS {op : Operator} (c : Met CX X.prog X.w X.K X.mg X.base k C m sp) (hr : Room j X.A) (hk : k ≤ j) (hx : ∀ σ, PassesAt CX X σ (E σ)) (sf : PySem.W.selfFirst X.K C = true) (hm : PySem.dunder op.info.2 = m := by decide +kernel) :
    OpRS X (binaryOp op) (fun σ => rOwn2 C sp (E σ)) := by
  intro pins s σ H x y v u Q I rx ry h
  obtain ⟨a, b, dx, dy, fs, gs, rfl, rfl, ha, hb, hs⟩ := h
  obtain ⟨f, hf, fn, kp, run⟩ := met_runS c hr hk hx
  obtain ⟨mF, F⟩ := I.fr
  obtain ⟨ox, od, J, _⟩ := inst_of I ha
  obtain ⟨oy, oe, J2, _⟩ := inst_of I hb
  have r2 : Vals [V.ref a, V.ref b] [v, u] := .cons rx (.cons ry .nil)
  cases (show v = Value.ref a from rx)
  cases (show u = Value.ref b from ry)
  exact PySem.W.binop_K F I.ok.mod.kin J J2.type sf (by rw [hm]; exact hf) fn (wpAny_mono (run pins s σ H _ _ Q I r2 hs) (fun _ _ z => back_of z) fun _ _ z => z)
theorem op_ownIS {op : Operator} (c : Met CX X.prog X.w X.K X.mg X.base k C m sp) (hr : Room j X.A) (hk : k ≤ j) (hx : ∀ σ, PassesAt CX X σ (E σ)) (sf : PySem.W.selfFirst X.K C = true)
    (hrc : ∃ rc, PySem.W.findIn X.K (.ref C) (dunderR op.info.2) = some rc ∧ (rc = none ∨ ∃ g : Addr, rc = some (.ref g)))
    (h1 : ∃ fo, PySem.W.findIn X.K (.type "int") (PySem.dunder op.info.2) = some fo) (h2 : ∃ ro, PySem.W.findIn X.K (.type "int") (dunderR op.info.2) = some ro) (hsub : PySem.W.subIn X.K (.type "int") (.ref C) = some false)
    (hm : PySem.dunder op.info.2 = m := by decide +kernel) : OpRS X (binaryOp op) (fun σ => rOwnI C sp (E σ)) := by
  intro pins s σ H x y v u Q I rx ry h
  obtain ⟨a, dx, fs, i, rfl, rfl, ha, hs⟩ := h
  obtain ⟨f, hf, fn, kp, run⟩ := met_runS c hr hk hx
  obtain ⟨rc, hrc, hp⟩ := hrc
  obtain ⟨fo, h1⟩ := h1
  obtain ⟨ro, h2⟩ := h2
  obtain ⟨mF, F⟩ := I.fr
  obtain ⟨ox, od, J, _⟩ := inst_of I ha
  have r2 : Vals [V.ref a, V.int i] [v, u] := .cons rx (.cons ry .nil)
  cases (show v = Value.ref a from rx)
  obtain ⟨t, et⟩ := (show ∃ t, u = Value.int i t from ry)
  subst et
  exact PySem.W.ksp_binT (T := "int") F I.ok.mod.kin J rfl sf (by rw [hm]; exact hf) fn hrc hp h1 h2 hsub (wpAny_mono (run pins s σ H _ _ Q I r2 hs) (fun _ _ z => back_of z) fun _ _ z => z)
end
/-- x == y, x < y .., both of one own class that has the method -/
theorem op_cmpO {X : Cx} {CX : CXT} {k j : Nat} {C : Addr} {m : Str} {sp : Sp} {E : XK} {op : CmpOp} (c : Met CX X.prog X.w X.K X.mg X.base k C m sp) (hr : Room j X.A) (hk : k ≤ j) (hx : Passes CX X E)
    (hop : ∀ v u : Value, compareOp op v u = richCompare op v u := by intro _ _; rfl) (hm : (cmpInfo op).2.1 = m := by decide +kernel) : OpR X (compareOp op) (rOwn2 C sp E) := by
  intro pins s σ H x y v u Q I rx ry h
  obtain ⟨a, b, dx, dy, fs, gs, rfl, rfl, ha, hb, hs⟩ := h
  obtain ⟨f, hf, fn, kp, run⟩ := met_run c hr hk hx
  obtain ⟨mF, F⟩ := I.fr
  obtain ⟨ox, od, J, _⟩ := inst_of I ha
  obtain ⟨oy, oe, J2, _⟩ := inst_of I hb
  have r2 : Vals [V.ref a, V.ref b] [v, u] := .cons rx (.cons ry .nil)
  cases (show v = Value.ref a from rx)
  cases (show u = Value.ref b from ry)
  rw [hop]
  have hu : X.A.units < cLine := by have := hr.un; omega
  exact PySem.W.cmp_K hu F I.ok.mod.kin J J2.type (by unfold PySem.W.notFirst; simp) (by rw [hm]; exact hf) fn (wpAny_mono (run pins s σ H _ _ Q I r2 hs) (fun _ _ z => back_of z) fun _ _ z => z)
/-- f() -/
theorem pc_c0 {X : Cx} {CX : CXT} {k j : Nat} {x : Str} {sp : Sp} {E : XK} {p pos : Pos} (c : Cal CX X.prog X.w X.K X.mg X.base k x sp) (hr : Room j X.A) (hk : k ≤ j) (hg : Gl X x) (hx : Passes CX X E) (hdb : (x == ("__debug__" : Str)) = false := by decide) :
    PE X (.Call (.Name x p) [] [] pos) (tCall sp [] E tNil) := by
  obtain ⟨f, fd, ps, F, hm, kp, b⟩ := c.ex
  exact pe_call0 F (hr.mono hk) hg hm kp b .nil hx hdb
/-- f'..' of two parts or more, by a name -/
def tJoined (ts : List TE) : TE := fun σ H Q => tJs ts Str.empty σ H fun out H1 => Q (.str out) H1
theorem pe_joinedD {X : Cx} {v1 v2 : Expr} {rest : List Expr} {ts : List TE} {pos : Pos} (h : PJ X (v1 :: v2 :: rest) ts) : PE X (.JoinedStr (v1 :: v2 :: rest) pos) (tJoined ts) := pe_joined h
/-! ### v in o, v not in o by an own __contains__; str(o) by an own __str__ -/
def rInO (neg : Bool) (C : Addr) (sp : Sp) (E : XK) : R2 := fun x y H Q => ∃ (a dx : Addr) (fs : List (Str × V)), y = .ref a ∧ H a = some (.ins C dx fs) ∧ sp [.ref a, x] H (fun v H2 => ∃ b : Bool, v = .bl b ∧ Q (.bl (if neg then !b else b)) H2) E
def rStrO (C : Addr) (sp : Sp) (E : XK) : List V → Hp → VK → Prop := fun xs H Q => ∃ (a dx : Addr) (fs : List (Str × V)), xs = [.ref a] ∧ H a = some (.ins C dx fs) ∧ sp [.ref a] H (fun v H2 => ∃ y : Str, v = .str y ∧ Q (.str y) H2) E
section
variable {X : Cx} {CX : CXT} {k j : Nat} {C : Addr} {sp : Sp} {E : XK}
theorem op_inO (c : Met CX X.prog X.w X.K X.mg X.base k C "__contains__" sp) (hr : Room j X.A) (hk : k ≤ j) (hx : Passes CX X E) : OpR X (compareOp .In) (rInO false C sp E) := by
  intro pins s σ H x y v u Q I rx ry h
  obtain ⟨a, dx, fs, rfl, ha, hs⟩ := h
  obtain ⟨f, hf, fn, kp, run⟩ := met_run c hr hk hx
  obtain ⟨mF, F⟩ := I.fr
  obtain ⟨ox, od, J, _⟩ := inst_of I ha
  cases (show u = Value.ref a from ry)
  have r2 : Vals [V.ref a, x] [Value.ref a, v] := .cons rfl (.cons rx .nil)
  refine PySem.W.in_K F I.ok.mod.kin J hf fn (wpAny_mono (run pins s σ H _ _ _ I r2 hs) (fun r s' z => ?_) fun _ _ z => z)
  obtain ⟨w, H2, I2, rw', b, rfl, q⟩ := z
  cases (show r = Value.bool b from rw')
  exact wpAny_truthy_bool ⟨V.bl b, H2, I2, rfl, q⟩
theorem op_notInO (c : Met CX X.prog X.w X.K X.mg X.base k C "__contains__" sp) (hr : Room j X.A) (hk : k ≤ j) (hx : Passes CX X E) : OpR X (compareOp .NotIn) (rInO true C sp E) := by
  intro pins s σ H x y v u Q I rx ry h
  obtain ⟨a, dx, fs, rfl, ha, hs⟩ := h
  obtain ⟨f, hf, fn, kp, run⟩ := met_run c hr hk hx
  obtain ⟨mF, F⟩ := I.fr
  obtain ⟨ox, od, J, _⟩ := inst_of I ha
  cases (show u = Value.ref a from ry)
  have r2 : Vals [V.ref a, x] [Value.ref a, v] := .cons rfl (.cons rx .nil)
  refine PySem.W.notIn_K F I.ok.mod.kin J hf fn (wpAny_mono (run pins s σ H _ _ _ I r2 hs) (fun r s' z => ?_) fun _ _ z => z)
  obtain ⟨w, H2, I2, rw', b, rfl, q⟩ := z
  cases (show r = Value.bool b from rw')
  exact wpAny_truthy_bool ⟨V.bl (!b), H2, I2, rfl, q⟩
theorem call_strO (c : Met CX X.prog X.w X.K X.mg X.base k C "__str__" sp) (hr : Room j X.A) (hk : k + 2 ≤ j) (hx : Passes CX X E) : CallR X (.type "str") (rStrO C sp E) := by
  intro pins s σ H xs us Q I r h
  obtain ⟨a, dx, fs, rfl, ha, hs⟩ := h
  obtain ⟨u, rfl, ru⟩ := vals1 r
  cases (show u = Value.ref a from ru)
  have hr2 : Room k X.A.in1.in1 := ((hr.mono hk).in1).in1
  obtain ⟨f, hf, fn, kp, run⟩ := met_runA c hr2 (Nat.le_refl _) hx (fun _ _ z => z.in1.in1)
  obtain ⟨mF, F⟩ := I.fr
  obtain ⟨ox, od, J, _⟩ := inst_of I ha
  have hu : X.A.in1.in1.units < cLine := by have := hr2.un; omega
  refine PySem.W.kso_call hu (I.ok.mod.kin.keeps F.keep) J hf fn (wpAny_mono (run pins s σ H _ _ _ I r hs) (fun r s' z => ?_) fun _ _ z => z)
  obtain ⟨w, H2, I2, rw', y, rfl, q⟩ := z
  obtain ⟨t, rfl⟩ := (show ∃ t, r = Value.str y t from rw')
  exact ⟨V.str y, H2, I2, ⟨_, rfl⟩, q⟩
end
/-- a module's whole number -/
theorem pe_globI {X : Cx} {x : Str} {n : Int} {pos : Pos} (hg : Gl X x) (hm : ∃ t : Tok, X.mg x = some (.int n t)) (hd : (x == ("__debug__" : Str)) = false := by decide) : PE X (.Name x pos) (tC (.int n)) := by
  obtain ⟨t, h⟩ := hm
  exact pe_glob hg h ⟨t, rfl⟩ hd
/-- for c in text -/
theorem for_str {x : Str} {g : TG} {tb : TS} {D : Ends} {σ : L2.St} {H : Hp} (Pv : Nat → L2.St → Hp → Prop) (h0 : Pv 0 σ H)
    (hs : ∀ i c σ H, x.cps.toList[i]? = some c → Pv i σ H → g (.str ⟨#[c]⟩) σ H fun σ2 H2 => tb { D with nx := Pv (i + 1), ct := Pv (i + 1), bk := D.nx } σ2 H2) (hd : ∀ σ H, Pv x.length σ H → D.nx σ H) :
    ∃ W : Nat → Nat → L2.St → Hp → Prop, (∃ m, W 0 m σ H) ∧ ∀ i m σ H, W i m σ H →
      ((Its x).stop i H ∧ D.nx σ H) ∨ ((Its x).go i H ∧ ∃ N : L2.St → Hp → Prop, (∀ σ' H', N σ' H' → ∃ m', m' < m ∧ W (i + 1) m' σ' H') ∧ ∀ v H', (Its x).yld i H v H' → g v σ H' fun σ2 H2 => tb { D with nx := N, ct := N, bk := D.nx } σ2 H2) := by
  have hx : x.length = x.cps.size := rfl
  refine ⟨fun i m σ H => m = x.length - i ∧ i ≤ x.length ∧ Pv i σ H, ⟨x.length, by simp, Nat.zero_le _, h0⟩, ?_⟩
  rintro i m σ H ⟨rfl, hi, p⟩
  by_cases hlt : i < x.length
  · refine .inr ⟨hlt, Pv (i + 1), fun σ' H' p' => ⟨x.length - (i + 1), by omega, rfl, hlt, p'⟩, fun v H' y => ?_⟩
    obtain ⟨e, c, hc, ev⟩ := y
    subst e ev
    exact hs i c σ _ (by rw [Array.getElem?_toList]; exact hc) p
  · have e : i = x.length := by omega
    subst e
    exact .inl ⟨Nat.le_refl _, hd σ H p⟩
/-! ### a law's cells and pools: what is promised of them -/
def PoolAt (H : Hp) (p : Addr) : Prop := ∃ x y z : Int, H p = some (.lst [.int x, .int y, .int z])
theorem PoolAt.kp {H H' : Hp} {p q : Addr} (h : PoolAt H p) (k : Kp q H H') (n : p ≠ q) : PoolAt H' p := by
  obtain ⟨x, y, z, e⟩ := h
  exact ⟨x, y, z, k _ _ n e⟩
theorem PoolAt.same {H H' : Hp} {p : Addr} (h : PoolAt H p) (k : Same H H') : PoolAt H' p := by
  obtain ⟨x, y, z, e⟩ := h
  exact ⟨x, y, z, k _ _ e⟩
theorem at0 {α : Type} {a b c : α} : atI [a, b, c] (0 : Int) = some a := rfl
theorem at1 {α : Type} {a b c : α} : atI [a, b, c] (1 : Int) = some b := rfl
theorem at2 {α : Type} {a b c : α} : atI [a, b, c] (2 : Int) = some c := rfl
def sp_Lcell (K : PySem.W.Frag) : Sp := fun vs H Q _ => ∃ (l : Addr) (ns : List Int) (j : Nat), vs = [.ref l, .int (j : Int)] ∧ SqL K H l (ns.map V.int) ∧ ∀ c : Int, 0 ≤ c → Q (.int c) H
def sp_Lpool : Sp := fun vs H Q _ => ∃ c : Int, vs = [.int c] ∧ ∀ (p : Addr) (H' : Hp), H p = none → Same H H' → PoolAt H' p → Q (.ref p) H'
def sp_Ltake : Sp := fun vs H Q _ => ∃ (p : Addr) (many : Int), vs = [.ref p, .int many] ∧ PoolAt H p ∧ 0 < many ∧ many.natAbs < 2 ^ 300 ∧
  ∀ (H' : Hp) (r : Int), Kp p H H' → PoolAt H' p → 0 ≤ r → r < many → Q (.int r) H'
/-! ### told and due are the same data -/
def Pairs (R : V → V → Prop) (xs ys : List V) : Prop := xs.length = ys.length ∧ ∀ (i : Nat) (x y : V), xs[i]? = some x → ys[i]? = some y → R x y
def flatD : V → Bool
  | .non => true
  | .bl _ => true
  | .int _ => true
  | .str _ => true
  | _ => false
def SameV (K : PySem.W.Frag) (H : Hp) : Nat → V → V → Prop
  | 0, x, y => flatD x = true ∧ x = y
  | n + 1, x, y => (flatD x = true ∧ x = y) ∨
      (∃ (a b : Addr) (xs ys : List V), x = .ref a ∧ y = .ref b ∧ SqL K H a xs ∧ SqL K H b ys ∧ xs.length ≤ sizeLine ∧ Pairs (SameV K H n) xs ys) ∨
      (∃ (a b : Addr) (xs ys : List V), x = .ref a ∧ y = .ref b ∧ SqT K H a xs ∧ SqT K H b ys ∧ xs.length ≤ sizeLine ∧ Pairs (SameV K H n) xs ys)
def sp_Lsame (K : PySem.W.Frag) : Nat → Sp
  | 0 => fun _ _ _ _ => False
  | n + 1 => fun vs H Q _ => ∃ x y : V, vs = [x, y] ∧ SameV K H n x y ∧ Q (.bl true) H
theorem SameV.flat {K : PySem.W.Frag} {H : Hp} {n : Nat} {x : V} (h : flatD x = true) : SameV K H n x x := by
  cases n with
  | zero => exact ⟨h, rfl⟩
  | succ n => exact .inl ⟨h, rfl⟩
theorem Pairs.refl {R : V → V → Prop} {xs : List V} (h : ∀ x ∈ xs, R x x) : Pairs R xs xs := ⟨rfl, fun i x y h1 h2 => by
  rw [h1] at h2
  cases h2
  exact h x (List.mem_of_getElem? h1)⟩
theorem tyx_list {K : PySem.W.Frag} {H : Hp} {a : Addr} {xs : List V} (h : SqL K H a xs) : TyX K H (.ref a) (.type "list") := by
  rcases h with (h | ⟨o, h⟩) | ⟨o, its, n, h, c, _⟩
  · exact .base (.lst h)
  · exact .base (.frz h)
  · exact .kList h c
theorem tyx_tup {K : PySem.W.Frag} {H : Hp} {a : Addr} {xs : List V} (h : SqT K H a xs) : TyX K H (.ref a) (.type "tuple") := by
  rcases h with (h | ⟨o, h⟩) | ⟨o, its, n, h, c, _⟩
  · exact .base (.tup h)
  · exact .fTuple h
  · exact .kTuple h c
theorem sqt_same {K : PySem.W.Frag} {H H' : Hp} {a : Addr} {xs : List V} (h : SqT K H a xs) (e : Same H H') : SqT K H' a xs := by
  rcases h with (h | ⟨o, h⟩) | h
  · exact .inl (.inl (e _ _ h))
  · exact .inl (.inr ⟨o, e _ _ h⟩)
  · exact .inr h
theorem tyes {σ : L2.St} {H : Hp} {A B : Hp → Prop} (h : A H) : tYes σ H (fun b H3 => if b = true then A H3 else B H3) := by
  show (if true = true then A H else B H)
  rw [if_pos rfl]
  exact h
theorem take_snoc {α : Type} {l : List α} {i : Nat} {x : α} (h : l[i]? = some x) : l.take i ++ [x] = l.take (i + 1) := by
  rw [List.take_add_one, h]
  rfl
theorem flat_ints (l : List Int) : (l.map V.int).all flatV = true := by
  rw [List.all_map, List.all_eq_true]
  intro j _
  rfl
/-- the same items, each flat -/
theorem pool_ne {H : Hp} {p q : Addr} (h : PoolAt H p) (n : H q = none) : q ≠ p := fun w => by
  obtain ⟨x, y, z, e⟩ := h
  rw [w, e] at n
  cases n
theorem none_kp {H H' : Hp} {p t : Addr} (s : Kp p H H') (n : t ≠ p) (e : H' t = none) : H t = none := by
  cases h : H t with
  | none => rfl
  | some o =>
    rw [s _ _ n h] at e
    cases e
theorem none_of {H H' : Hp} {t : Addr} (s : Same H H') (n : H' t = none) : H t = none := by
  cases e : H t with
  | none => rfl
  | some o =>
    rw [s _ _ e] at n
    cases n
theorem same_app {H2 H4 : Hp} {t : Addr} {o : HO} (s : Same H2 H4) (n : H2 t = none) : Same H2 (upd H4 t o) := fun b u e => by
  rw [upd_ne (ne_of_none e n)]
  exact s _ _ e
theorem Kp.of {p : Addr} {H H' : Hp} (s : Same H H') : Kp p H H' := fun b o _ e => s b o e
/-- a place that was free takes what it takes -/
theorem kp_app {p : Addr} {H H4 : Hp} {t : Addr} {o : HO} (s : Kp p H H4) (n : H t = none) : Kp p H (upd H4 t o) := fun b u nb e => by
  rw [upd_ne (ne_of_none e n)]
  exact s _ _ nb e
theorem sqt_pool {K : PySem.W.Frag} {H H' : Hp} {a b : Addr} {xs : List V} (h : SqT K H b xs) (k : Kp a H H') (p : PoolAt H a) : SqT K H' b xs := by
  obtain ⟨x, y, z, e⟩ := p
  rcases h with (h | ⟨o, h⟩) | h
  · exact .inl (.inl (k _ _ (fun w => by rw [w, e] at h; cases h) h))
  · exact .inl (.inr ⟨o, k _ _ (fun w => by rw [w, e] at h; cases h) h⟩)
  · exact .inr h
theorem sqt_lst {K : PySem.W.Frag} {H H' : Hp} {a b : Addr} {xs ys : List V} (h : SqT K H b xs) (k : Kp a H H') (hl : H a = some (.lst ys)) : SqT K H' b xs := by
  rcases h with (h | ⟨o, h⟩) | h
  · exact .inl (.inl (k _ _ (fun w => by rw [w, hl] at h; cases h) h))
  · exact .inl (.inr ⟨o, k _ _ (fun w => by rw [w, hl] at h; cases h) h⟩)
  · exact .inr h
theorem iteB {b : Bool} {A B : Prop} (hA : b = true → A) (hB : b = false → B) : if b = true then A else B := by
  cases b
  · exact iteF (hB rfl)
  · exact iteT (hA rfl)
theorem iteNe {x y : V} {A B : Prop} (e : x = y) (h : B) : if (!decide (x = y)) = true then A else B := by
  rw [decide_eq_true e]
  exact iteF h
theorem pick4 {a b c d r : Int} (h0 : 0 ≤ r) (h1 : r < 4) : ∃ v : Int, atI [V.int a, V.int b, V.int c, V.int d] r = some (V.int v) ∧ (v = a ∨ v = b ∨ v = c ∨ v = d) := by
  have : r = 0 ∨ r = 1 ∨ r = 2 ∨ r = 3 := by omega
  rcases this with e | e | e | e
  · subst e; exact ⟨a, rfl, .inl rfl⟩
  · subst e; exact ⟨b, rfl, .inr (.inl rfl)⟩
  · subst e; exact ⟨c, rfl, .inr (.inr (.inl rfl))⟩
  · subst e; exact ⟨d, rfl, .inr (.inr (.inr rfl))⟩
theorem getD_at {α : Type} {l : List α} {i : Nat} {c d : α} (h : l[i]? = some c) : l.getD i d = c := by
  rw [List.getD_eq_getElem?_getD, h]
  rfl
theorem seq_ix {i : Int} {n : Nat} (h0 : 0 ≤ i) (h1 : i < (n : Int)) : seqIndex? i n = some i.toNat := by
  unfold seqIndex?
  first
    | (simp only; split <;> first | (split <;> first | rfl | omega) | omega)
    | (have e : ¬ i < 0 := by omega
       simp [e, h1, h0])
theorem cut_drop (xs : List V) (w : Nat) : cutV xs (some (w : Int)) none = xs.drop w := by
  have e0 : HT.sIx xs.length xs.length none = xs.length := rfl
  have e1 : HT.sIx xs.length 0 (some (w : Int)) = min w xs.length := by
    simp only [HT.sIx]
    split <;> omega
  unfold cutV
  rw [e0, e1]
  by_cases h : w ≤ xs.length
  · rw [Nat.min_eq_left h, List.take_of_length_le (by rw [List.length_drop]; omega)]
  · rw [Nat.min_eq_right (by omega), List.drop_length, List.drop_of_length_le (by omega), List.take_nil]
theorem cut_pre (ns : List Int) (w : Nat) : cutV (ns.map V.int) none (some (w : Int)) = (ns.take w).map V.int := by
  have e0 : HT.sIx (ns.map V.int).length 0 none = 0 := rfl
  have e1 : HT.sIx (ns.map V.int).length (ns.map V.int).length (some (w : Int)) = min w (ns.map V.int).length := by
    simp only [HT.sIx]
    split <;> omega
  unfold cutV
  rw [e0, e1, List.drop_zero, Nat.sub_zero, List.map_take]
  by_cases h : w ≤ (ns.map V.int).length
  · rw [Nat.min_eq_left h]
  · rw [Nat.min_eq_right (by omega), List.take_length, List.take_of_length_le (by omega)]
theorem iteNT {x y : V} {A B : Prop} (e : ¬ x = y) (h : A) : if (!decide (x = y)) = true then A else B := by
  rw [decide_eq_false e]
  exact h
theorem mk_same {H J : Hp} {x dx C : Addr} (hx : H x = none) (hdx : H dx = none) (k : Kp x (upd (upd H dx (.own x)) x (.ins C dx [])) J) : Same H J := fun b o e => k b o (ne_of_none e hx) (by
  rw [upd_ne (ne_of_none e hx), upd_ne (ne_of_none e hdx)]
  exact e)
/-! ### texts of drawn signs -/
/-- all signs from the blank to ~ -/
def Asc (y : Str) : Prop := ∀ c ∈ y.cps.toList, 32 ≤ c ∧ c ≤ 126
theorem asc_app {a b : Str} (h : Asc a) (g : Asc b) : Asc (a ++ b) := fun c hc => by
  rw [show (a ++ b).cps = a.cps ++ b.cps from Str.cps_append a b, Array.toList_append, List.mem_append] at hc
  rcases hc with hc | hc
  · exact h c hc
  · exact g c hc
theorem asc_cut {a : Str} (lo hi : Option Int) (h : Asc a) : Asc (cutS a lo hi) := fun c hc => by
  unfold cutS at hc
  rw [List.toList_toArray] at hc
  exact h c (List.mem_of_mem_drop (List.mem_of_mem_take hc))
theorem cut_len (a : Str) (lo hi : Option Int) : (cutS a lo hi).length ≤ a.length := cutS_length a lo hi
def sgns : Str := " !\"#$&'()*+,-./0123456789:;<=>?@ABCDEFGHIJKLMNOPQRSTUVWXYZ[\\]^_`" ++ "abcdefghijklmnopqrstuvwxyz{|}~"
theorem sgns_len : sgns.length = 94 := by decide +kernel
theorem sgns_asc : Asc sgns := by
  unfold Asc
  decide +kernel
theorem asc_one {a : Str} {i : Int} {c : Nat} (h : Asc a) (e : atI a.cps.toList i = some c) : Asc ⟨#[c]⟩ := fun d hd => by
  have hd' : d = c := by simpa using hd
  subst hd'
  unfold atI at e
  cases hx : ixN a.cps.toList.length i with
  | none => rw [hx] at e; cases e
  | some j => rw [hx] at e; exact h d (List.mem_of_getElem? e)
theorem atI_in {α : Type} {xs : List α} {i : Int} (h0 : 0 ≤ i) (h1 : i < (xs.length : Int)) : ∃ c, atI xs i = some c := by
  have hj : i.toNat < xs.length := by omega
  refine ⟨xs[i.toNat], ?_⟩
  have e := atI_nat (List.getElem?_eq_getElem hj)
  rw [Int.toNat_of_nonneg h0] at e
  exact e
theorem app_len (a b : Str) : (a ++ b).length = a.length + b.length := Str.length_append a b
theorem small_line {n : Nat} (h : n ≤ 100000) : n ≤ sizeLine := by rw [sizeLine_eq]; omega
def sp_Lsigns : Sp := fun vs H Q _ => vs = [] ∧ Q (.str sgns) H
def sp_Lbent : Sp := fun vs H Q _ => ∃ (p : Addr) (y g : Str), vs = [.ref p, .str y, .str g] ∧ PoolAt H p ∧ Asc y ∧ Asc g ∧ 0 < g.length ∧ g.length ≤ 1000 ∧ y.length ≤ 1000 ∧
  ∀ (H' : Hp) (z : Str), Kp p H H' → PoolAt H' p → Asc z → z.length ≤ 2 * y.length + 1 → Q (.str z) H'
def sp_LbentN : Sp := fun vs H Q _ => ∃ (p : Addr) (y g : Str), vs = [.ref p, .str y, .str g] ∧ PoolAt H p ∧ 0 < g.length ∧ g.length ≤ 1000 ∧ y.length ≤ 10000 ∧
  ∀ (H' : Hp) (z : Str), Kp p H H' → PoolAt H' p → z.length ≤ 2 * y.length + 1 → Q (.str z) H'
/-- a sign of a text at a drawn place -/
theorem sign_at {g : Str} {r : Int} (h0 : 0 ≤ r) (h1 : r < (g.length : Int)) : ∃ c, atI g.cps.toList r = some c := atI_in h0 (by rw [Array.length_toList]; exact h1)
theorem sum1 : ∀ {ys : List Str}, (∀ y ∈ ys, y.length = 1) → (ys.map (·.length)).sum = ys.length
  | [], _ => rfl
  | y :: ys, h => by
    rw [List.map_cons, List.sum_cons, sum1 (fun z hz => h z (List.mem_cons_of_mem _ hz)), h y (List.mem_cons_self ..), List.length_cons]
    omega
theorem pool_at {H : Hp} {p t : Addr} {o : HO} (h : PoolAt H p) (n : t ≠ p) : PoolAt (upd H t o) p := by
  obtain ⟨x, y, z, e⟩ := h
  exact ⟨x, y, z, by rw [upd_ne n.symm]; exact e⟩
theorem join_le (y : Str) (l : List Str) : (Txt.join y l).length ≤ (l.map (·.length)).sum + l.length * y.length := by
  rw [TL.join_eq]
  cases l with
  | nil => exact Nat.zero_le _
  | cons a r =>
    rw [PyProof.Rows.len_join_cons, List.length_cons, Nat.add_mul]
    omega
theorem empty_len : ("" : Str).length = 0 := by decide +kernel
/-- signs joined by nothing -/
def sgs (cs : List Nat) : List Str := cs.map fun c => ⟨#[c]⟩
theorem tl_join_sgs (cs : List Nat) : TL.tl (Txt.join "" (sgs cs)) = cs := by
  rw [TL.join_eq]
  induction cs with
  | nil => rfl
  | cons c r ih =>
    cases r with
    | nil => rfl
    | cons d r =>
      show TL.tl ((⟨#[c]⟩ : Str) ++ "" ++ Str.join "" (sgs (d :: r))) = _
      rw [TL.tl_append, TL.tl_append, ih]
      rfl
theorem sgs_one (cs : List Nat) : ∀ y ∈ sgs cs, y.length = 1 := fun y hy => by
  obtain ⟨c, _, rfl⟩ := List.mem_map.mp hy
  rfl
/-! ### Euclid's steps -/
structure Euc (g : Nat) (i : Nat) (a b : Int) : Prop where
  a0 : 0 ≤ a
  b0 : 0 ≤ b
  gc : Nat.gcd a.natAbs b.natAbs = g
  sz : b = 0 ∨ (i = 0 ∧ a.natAbs * b.natAbs < 2 ^ 680) ∨ (b < a ∧ a.natAbs * b.natAbs * 2 ^ i < 2 ^ 682)
theorem Euc.step {g i : Nat} {a b : Int} (e : Euc g i a b) (hb : b ≠ 0) : Euc g (i + 1) b (a % b) := by
  have hp : 0 < b := by have := e.b0; omega
  have r0 : 0 ≤ a % b := Int.emod_nonneg a hb
  have r1 : a % b < b := Int.emod_lt_of_pos a hp
  have en : (a % b).natAbs = a.natAbs % b.natAbs := by
    have a0 := e.a0
    have h : ((a.natAbs % b.natAbs : Nat) : Int) = a % b := by
      rw [Int.natCast_emod, Int.natAbs_of_nonneg a0, Int.natAbs_of_nonneg e.b0]
    omega
  refine ⟨e.b0, r0, ?_, .inr (.inr ⟨r1, ?_⟩)⟩
  · rw [en, Nat.gcd_comm, ← Nat.gcd_rec, Nat.gcd_comm]
    exact e.gc
  · rcases e.sz with z | ⟨hi, h1⟩ | ⟨h1, h2⟩
    · exact absurd z hb
    · subst hi
      have k : (a % b).natAbs ≤ a.natAbs := by rw [en]; exact Nat.mod_le _ _
      have m : b.natAbs * (a % b).natAbs ≤ a.natAbs * b.natAbs := by
        rw [Nat.mul_comm a.natAbs]
        exact Nat.mul_le_mul_left _ k
      have : (2 : Nat) ^ 680 * 2 ^ (0 + 1) < 2 ^ 682 := by decide +kernel
      exact Nat.lt_of_le_of_lt (Nat.mul_le_mul_right _ (Nat.le_of_lt (Nat.lt_of_le_of_lt m h1))) this
    · have k : 2 * (a % b).natAbs ≤ a.natAbs := by
        have s := Int.emod_add_mul_ediv a b
        have t : 1 ≤ a / b := by
          have := Int.ediv_le_ediv hp (Int.le_of_lt h1)
          rw [Int.ediv_self hb] at this
          exact this
        have u : b * 1 ≤ b * (a / b) := Int.mul_le_mul_of_nonneg_left t (Int.le_of_lt hp)
        have a0 := e.a0
        omega
      have m : b.natAbs * (a % b).natAbs * 2 ^ (i + 1) ≤ a.natAbs * b.natAbs * 2 ^ i := by
        calc b.natAbs * (a % b).natAbs * 2 ^ (i + 1) = (2 * (a % b).natAbs) * b.natAbs * 2 ^ i := by
              rw [Nat.pow_succ, Nat.mul_comm b.natAbs, Nat.mul_comm (2 ^ i) 2, ← Nat.mul_assoc, Nat.mul_comm ((a % b).natAbs * b.natAbs) 2, ← Nat.mul_assoc]
          _ ≤ a.natAbs * b.natAbs * 2 ^ i := Nat.mul_le_mul_right _ (Nat.mul_le_mul_right _ k)
      exact Nat.lt_of_le_of_lt m h2
theorem Euc.done {g i : Nat} {a b : Int} (e : Euc g i a b) (hi : 682 ≤ i) : b = 0 := by
  rcases e.sz with z | ⟨h, _⟩ | ⟨h1, h2⟩
  · exact z
  · omega
  · have b0 := e.b0
    have : ¬ 0 < b := fun hb => by
      have q : 1 ≤ a.natAbs * b.natAbs := Nat.mul_pos (by omega) (by omega)
      have q2 : (2 : Nat) ^ 682 ≤ 2 ^ i := Nat.pow_le_pow_right (by decide) hi
      have q3 : 1 * 2 ^ i ≤ a.natAbs * b.natAbs * 2 ^ i := Nat.mul_le_mul_right _ q
      omega
    omega
theorem Euc.end_ {g i : Nat} {a : Int} (e : Euc g i a 0) : a = (g : Int) := by
  have := e.gc
  have := e.a0
  simp only [Int.natAbs_zero, Nat.gcd_zero_right] at *
  omega
theorem str_at {ks : List Str} {r : Int} (h0 : 0 ≤ r) (h1 : r < (ks.length : Int)) : ∃ k, k ∈ ks ∧ atI (ks.map V.str) r = some (V.str k) := by
  have hj : r.toNat < ks.length := by omega
  have e0 : (ks.map V.str)[r.toNat]? = some (V.str ks[r.toNat]) := by rw [List.getElem?_map, List.getElem?_eq_getElem hj] <;> rfl
  have e := atI_nat e0
  rw [Int.toNat_of_nonneg h0] at e
  exact ⟨_, List.getElem_mem hj, e⟩
theorem str_of {ks : List Str} {i : Nat} {x : V} (h : (ks.map V.str)[i]? = some x) : ∃ k, ks[i]? = some k ∧ x = .str k := by
  rw [List.getElem?_map] at h
  cases e : ks[i]? with
  | none => rw [e] at h; cases h
  | some k => rw [e] at h; cases h; exact ⟨k, rfl, rfl⟩
/-! ### written numbers and fractions -/
theorem rev_ind {P : List Nat → Prop} (h0 : P []) (hs : ∀ l c, P l → P (l ++ [c])) : ∀ l, P l := fun l => by
  rw [← List.reverse_reverse l]
  induction l.reverse with
  | nil => exact h0
  | cons a r ih =>
    rw [List.reverse_cons]
    exact hs _ _ ih
open NumText in
theorem dv_snoc (l : List Nat) (c : Nat) : digitsVal (l ++ [c]) = digitsVal l * 10 + (c - 48) := by
  unfold digitsVal
  rw [List.foldl_append]
  rfl
open NumText in
theorem dv_lt : ∀ (l : List Nat), AllDigits l → digitsVal l < 10 ^ l.length := by
  refine rev_ind (fun _ => by decide) fun l c ih h => ?_
  · have h1 := ih fun d hd => h d (List.mem_append_left _ hd)
    have h2 := h c (List.mem_append_right _ (List.mem_singleton.mpr rfl))
    rw [dv_snoc, List.length_append, List.length_singleton, Nat.pow_succ]
    omega
/-- a row of digits as str writes it -/
def Can (l : List Nat) : Prop := l ≠ [] ∧ NumText.AllDigits l ∧ (1 < l.length → l.head? ≠ some 48)
theorem numL_head : ∀ n : Nat, 1 ≤ n → (TL.numL n).head? ≠ some 48 := by
  intro n
  induction n using Nat.strongRecOn with
  | _ n ih =>
    intro h1
    by_cases h : n < 10
    · rw [TL.numL_lt h]
      simp
      omega
    · rw [TL.numL_step (by omega)]
      have e := ih (n / 10) (by omega) (by omega)
      have ne := TL.numL_ne (n / 10)
      cases hl : TL.numL (n / 10) with
      | nil => exact absurd hl ne
      | cons a r =>
        rw [hl] at e
        exact e
theorem numL_can (n : Nat) : Can (TL.numL n) := by
  refine ⟨TL.numL_ne n, TL.numL_digits n, fun h => ?_⟩
  by_cases h0 : n = 0
  · subst h0
    rw [TL.numL_lt (by decide)] at h
    simp at h
  · exact numL_head n (by omega)
theorem can_num : ∀ l : List Nat, Can l → TL.numL (NumText.digitsVal l) = l ∧ (l.head? ≠ some 48 → 1 ≤ NumText.digitsVal l) := by
  refine rev_ind (fun h => absurd rfl h.1) fun l c ih h => ?_
  · obtain ⟨_, hd, hh⟩ := h
    have hc := hd c (List.mem_append_right _ (List.mem_singleton.mpr rfl))
    rw [dv_snoc]
    cases hl : l with
    | nil =>
      have e0 : NumText.digitsVal [] = 0 := rfl
      rw [e0]
      refine ⟨?_, fun hn => ?_⟩
      · rw [TL.numL_lt (by omega)]
        show [48 + (0 * 10 + (c - 48))] = [c]
        congr 1
        omega
      · have : c ≠ 48 := fun z => hn (by rw [z]; rfl)
        omega
    | cons a r =>
      rw [← hl]
      have hlen : 1 < (l ++ [c]).length := by rw [hl]; simp
      have hh' := hh hlen
      have hh2 : l.head? ≠ some 48 := by rw [hl] at hh' ⊢; exact hh'
      have hcan : Can l := ⟨by rw [hl]; simp, fun d hd' => hd d (List.mem_append_left _ hd'), fun _ => hh2⟩
      obtain ⟨e1, e2⟩ := ih hcan
      have h1 := e2 hh2
      refine ⟨?_, fun _ => by omega⟩
      rw [TL.numL_step (by omega)]
      have d1 : (NumText.digitsVal l * 10 + (c - 48)) / 10 = NumText.digitsVal l := by omega
      have d2 : (NumText.digitsVal l * 10 + (c - 48)) % 10 = c - 48 := by omega
      rw [d1, d2, e1]
      congr 2
      omega
def SI (n : Int) : Str := Str.ofString (toString n)
theorem tl_pos (n : Nat) : TL.tl (SI (n : Int)) = TL.numL n := TL.tl_num n
theorem tl_neg (m : Nat) : TL.tl (SI (Int.negSucc m)) = 45 :: TL.numL (m + 1) := by
  have e : SI (Int.negSucc m) = Str.ofString ("-" ++ toString (m + 1)) := rfl
  have k : TL.tl (Str.ofString (toString (m + 1))) = TL.numL (m + 1) := TL.tl_num (m + 1)
  rw [TL.tl_ofString] at k
  rw [e, TL.tl_ofString, String.toList_append, List.map_append, k]
  rfl
theorem tl_SI (n : Int) : TL.tl (SI n) = (if n < 0 then [45] else []) ++ TL.numL n.natAbs := by
  cases n with
  | ofNat m =>
    rw [if_neg (show ¬ Int.ofNat m < 0 from fun h => by
      have : ((m : Nat) : Int) < 0 := h
      omega)]
    exact tl_pos m
  | negSucc m =>
    rw [if_pos (Int.negSucc_lt_zero m)]
    exact tl_neg m
theorem numL_log {n k : Nat} (h : (TL.numL n).length ≤ k) : n < 10 ^ k := by
  have e := dv_lt _ (TL.numL_digits n)
  rw [TL.numL_val] at e
  exact Nat.lt_of_lt_of_le e (Nat.pow_le_pow_right (by decide) h)
def wr (n d : Int) : Str := if d = 1 then SI n else SI n ++ "/" ++ SI d
def good (y : Str) (n d : Int) : Prop := 1 ≤ d ∧ Nat.gcd n.natAbs d.natAbs = 1 ∧ y = wr n d
theorem slash_tl : TL.tl ("/" : Str) = [47] := by decide +kernel
theorem tl_wr (n d : Int) (h : 1 ≤ d) : TL.tl (wr n d) = TL.tl (SI n) ++ (if d = 1 then [] else 47 :: TL.numL d.natAbs) := by
  unfold wr
  by_cases e : d = 1
  · rw [if_pos e, if_pos e, List.append_nil]
  · rw [if_neg e, if_neg e, TL.tl_append, TL.tl_append, slash_tl, tl_SI d, if_neg (by omega), List.append_assoc]
    rfl
theorem numL_no {n c : Nat} (h : c < 48 ∨ 57 < c) : c ∉ TL.numL n := TL.numL_free h
theorem SI_no (n : Int) : (47 : Nat) ∉ TL.tl (SI n) := by
  rw [tl_SI]
  intro h
  rcases List.mem_append.mp h with h | h
  · split at h
    · simp at h
    · cases h
  · exact numL_no (by omega) h
/-- what a partition at the stroke gives of a written fraction -/
theorem wr_part (n d : Int) (h : 1 ≤ d) : Txt.partition (wr n d) "/" = if d = 1 then ((SI n, "", "") : Str × Str × Str) else (SI n, "/", SI d) := by
  unfold wr
  by_cases e : d = 1
  · rw [if_pos e, if_pos e, TL.partition_none slash_tl (SI_no n)]
    rfl
  · rw [if_neg e, if_neg e, TL.partition_app slash_tl (SI_no n)]
def isD (z : Str) : Bool := Txt.isascii z && Txt.isdigit z
theorem dig_tab : ∀ c < 128, (Unicode.isDigit c = true ↔ 48 ≤ c ∧ c ≤ 57) := by decide +kernel
theorem isD_iff (z : Str) : isD z = true ↔ TL.tl z ≠ [] ∧ NumText.AllDigits (TL.tl z) := by
  unfold isD Txt.isascii Txt.isdigit
  have hl : z.length = (TL.tl z).length := TL.len_tl z
  simp only [Bool.and_eq_true, decide_eq_true_eq, ← Array.all_toList, List.all_eq_true, gt_iff_lt]
  constructor
  · rintro ⟨ha, h0, hd⟩
    exact ⟨fun e => by rw [e] at hl; simp at hl; omega, fun c hc => (dig_tab c (ha c hc)).mp (hd c hc)⟩
  · rintro ⟨hne, hd⟩
    have h1 : 0 < (TL.tl z).length := List.length_pos_iff.mpr hne
    exact ⟨fun c hc => by have := hd c hc; omega, by omega, fun c hc => (dig_tab c (by have := hd c hc; omega)).mpr (hd c hc)⟩
/-- what a removed sign leaves -/
theorem rem_tl (z : Str) : TL.tl (Txt.removeprefix z "-") = if (TL.tl z).head? = some 45 then (TL.tl z).tail else TL.tl z := by
  have e1 : PySem.Builtin.Str.subAt z "-" 0 = decide ((TL.tl z).head? = some 45) := by
    rw [StrLaws.subAt_eq, List.drop_zero]
    have d : ("-" : Str).length = 1 := by decide +kernel
    have t : ("-" : Str).cps.toList = [45] := by decide +kernel
    rw [d, t]
    show ((TL.tl z).take 1 == [45]) = _
    cases TL.tl z with
    | nil => rfl
    | cons a r =>
      show ([a] == [45]) = decide (some a = some 45)
      rw [Bool.eq_iff_iff, beq_iff_eq, decide_eq_true_iff]
      simp
  have d : ("-" : Str).length = 1 := by decide +kernel
  unfold Txt.removeprefix
  rw [e1, d]
  by_cases h : (TL.tl z).head? = some 45
  · rw [if_pos (decide_eq_true h), if_pos h]
    show TL.tl (if (z.length - 1 == z.length) = true then z else PySem.Builtin.Str.strSub z 1 z.length) = _
    have hz : z.length = (TL.tl z).length := TL.len_tl z
    have h0 : 0 < (TL.tl z).length := by
      cases hl : TL.tl z with
      | nil => rw [hl] at h; cases h
      | cons a r => exact Nat.succ_pos _
    rw [if_neg (fun w => by have := eq_of_beq w; omega), TL.tl_strSub_end, List.drop_one]
  · rw [if_neg (by rw [decide_eq_false h]; exact Bool.false_ne_true), if_neg h]
    rfl
theorem SI_head (n : Int) : (TL.tl (SI n)).head? = some 45 ↔ n < 0 := by
  rw [tl_SI]
  by_cases h : n < 0
  · rw [if_pos h]
    simp [h]
  · rw [if_neg h, List.nil_append]
    refine ⟨fun e => ?_, fun e => absurd e h⟩
    have hd := TL.numL_digits n.natAbs
    cases hl : TL.numL n.natAbs with
    | nil => rw [hl] at e; cases e
    | cons a r =>
      rw [hl] at e
      have ea : a = 45 := by simpa using e
      have := hd a (by rw [hl]; exact List.mem_cons_self ..)
      omega
theorem SI_rem (n : Int) : TL.tl (Txt.removeprefix (SI n) "-") = TL.numL n.natAbs := by
  rw [rem_tl]
  by_cases h : n < 0
  · rw [if_pos ((SI_head n).mpr h), tl_SI, if_pos h]
    rfl
  · rw [if_neg (fun z => h ((SI_head n).mp z)), tl_SI, if_neg h]
    rfl
/-- int() of a written number -/
theorem SI_int (n : Int) (h : (SI n).length ≤ 640) : PySem.intText? (SI n) = some n := by
  have hl : (SI n).length = (TL.tl (SI n)).length := TL.len_tl _
  by_cases hn : n < 0
  · have e : TL.tl (SI n) = 45 :: TL.numL n.natAbs := by rw [tl_SI, if_pos hn]; rfl
    have k := PySem.intText_neg (x := SI n) e (TL.numL_digits _) (TL.numL_ne _) (by omega)
    rw [k, TL.numL_val]
    congr 1
    omega
  · have e : TL.tl (SI n) = TL.numL n.natAbs := by rw [tl_SI, if_neg hn]; rfl
    have k := PySem.intText_digits (x := SI n) (by show NumText.AllDigits (TL.tl (SI n)); rw [e]; exact TL.numL_digits _) (by show TL.tl (SI n) ≠ []; rw [e]; exact TL.numL_ne _) (by omega)
    rw [k]
    show some ((NumText.digitsVal (TL.tl (SI n)) : Nat) : Int) = some n
    rw [e, TL.numL_val]
    congr 1
    omega
/-- int() of digits with a sign or without -/
theorem head_int (z : Str) (h : isD (Txt.removeprefix z "-") = true) (hl : z.length ≤ 500) : ∃ n : Int, PySem.intText? z = some n ∧ n.natAbs < 10 ^ 500 := by
  rw [isD_iff, rem_tl] at h
  have hz : z.length = (TL.tl z).length := TL.len_tl z
  by_cases hh : (TL.tl z).head? = some 45
  · rw [if_pos hh] at h
    cases e : TL.tl z with
    | nil => rw [e] at hh; cases hh
    | cons a r =>
      rw [e] at hh h hz
      have ea : a = 45 := by simpa using hh
      subst ea
      have k := PySem.intText_neg (x := z) e h.2 h.1 (by omega)
      have b := dv_lt r h.2
      have b2 : (10 : Nat) ^ r.length ≤ 10 ^ 500 := Nat.pow_le_pow_right (by decide) (by simp at hz; omega)
      exact ⟨_, k, by omega⟩
  · rw [if_neg hh] at h
    have k := PySem.intText_digits (x := z) h.2 h.1 (by omega)
    have b := dv_lt (TL.tl z) h.2
    have b2 : (10 : Nat) ^ (TL.tl z).length ≤ 10 ^ 500 := Nat.pow_le_pow_right (by decide) (by omega)
    have b3 : NumText.digitsVal z.cps.toList < 10 ^ 500 := Nat.lt_of_lt_of_le b b2
    exact ⟨_, k, by omega⟩
theorem rem_digits (z : Str) (h : isD z = true) : isD (Txt.removeprefix z "-") = true := by
  rw [isD_iff] at h ⊢
  rw [rem_tl]
  have : ¬ (TL.tl z).head? = some 45 := fun e => by
    cases hl : TL.tl z with
    | nil => rw [hl] at e; cases e
    | cons a r =>
      rw [hl] at e
      have ea : a = 45 := by simpa using e
      have := h.2 a (by rw [hl]; exact List.mem_cons_self ..)
      omega
  rw [if_neg this]
  exact h
theorem log_small {n : Int} (h : n.natAbs < 10 ^ 500) : n.natAbs.log2 < 1920 := Nat.lt_of_lt_of_le (PySem.Flt.log2_lt_of (k := 1700) (by decide) (Nat.lt_of_lt_of_le h (by decide +kernel))) (by decide)
theorem rN_one {n d : Int} (h : 1 ≤ d) (g : Nat.gcd n.natAbs d.natAbs = 1) : rN n d = n ∧ rD n d = d := by
  have c : cmn n d = 1 := by
    unfold cmn
    rw [if_neg (by omega), g]
    rfl
  unfold rN rD
  rw [c]
  exact ⟨Int.fdiv_one n, Int.fdiv_one d⟩
theorem good_r {n d : Int} (h : d ≠ 0) : good (wr (rN n d) (rD n d)) (rN n d) (rD n d) := ⟨rD_pos h, r_cop h, rfl⟩
theorem cut_lo (y : Str) {a : Int} (h : 0 ≤ a) : (cutS y none (some a)).length ≤ a.toNat := by
  have e0 : HT.sIx y.length 0 none = 0 := rfl
  have e1 : HT.sIx y.length y.length (some a) ≤ a.toNat := by
    simp only [HT.sIx]
    split <;> omega
  show (((y.cps.toList.drop (HT.sIx y.length 0 none)).take (HT.sIx y.length y.length (some a) - HT.sIx y.length 0 none)).toArray).size ≤ _
  rw [List.size_toArray, List.length_take, e0]
  omega
theorem cut_hi (y : Str) {a : Int} (h : 0 ≤ a) : (cutS y (some a) none).length ≤ y.length - a.toNat := by
  have e0 : min a.toNat y.length ≤ HT.sIx y.length 0 (some a) := by
    simp only [HT.sIx]
    split <;> omega
  show (((y.cps.toList.drop (HT.sIx y.length 0 (some a))).take (HT.sIx y.length y.length none - HT.sIx y.length 0 (some a))).toArray).size ≤ _
  rw [List.size_toArray, List.length_take, List.length_drop, Array.length_toList]
  have : y.cps.size = y.length := rfl
  omega
theorem cut_tail (y : Str) : TL.tl (cutS y (some 1) none) = (TL.tl y).drop 1 := by
  have hl := TL.len_tl y
  have e0 : HT.sIx y.length 0 (some 1) = min 1 y.length := by
    simp only [HT.sIx]
    split <;> omega
  have e1 : HT.sIx y.length y.length none = y.length := rfl
  show ((y.cps.toList.drop (HT.sIx y.length 0 (some 1))).take (HT.sIx y.length y.length none - HT.sIx y.length 0 (some 1))).toArray.toList = _
  rw [e0, e1, List.toList_toArray]
  by_cases h : 1 ≤ y.length
  · rw [Nat.min_eq_left h, List.take_of_length_le (by rw [List.length_drop]; show (TL.tl y).length - 1 ≤ _; omega)]
  · rw [Nat.min_eq_right (by omega), Nat.sub_self, List.take_zero, List.drop_of_length_le (by omega)]
theorem cut_head (y : Str) : cutS y none (some 1) = "-" ↔ (TL.tl y).head? = some 45 := by
  have hl := TL.len_tl y
  have e0 : HT.sIx y.length 0 none = 0 := rfl
  have e1 : HT.sIx y.length y.length (some 1) = min 1 y.length := by
    simp only [HT.sIx]
    split <;> omega
  have e : TL.tl (cutS y none (some 1)) = (TL.tl y).take 1 := by
    show ((y.cps.toList.drop (HT.sIx y.length 0 none)).take (HT.sIx y.length y.length (some 1) - HT.sIx y.length 0 none)).toArray.toList = _
    rw [e0, e1, List.toList_toArray, List.drop_zero, Nat.sub_zero]
    by_cases h : 1 ≤ y.length
    · rw [Nat.min_eq_left h]
    · rw [Nat.min_eq_right (by omega), List.take_of_length_le (show (TL.tl y).length ≤ y.length by omega), List.take_of_length_le (by omega)]
  have dm : TL.tl ("-" : Str) = [45] := by decide +kernel
  constructor
  · intro h
    rw [h, dm] at e
    cases hy : TL.tl y with
    | nil => rw [hy] at e; cases e
    | cons a r =>
      rw [hy] at e
      have : [45] = [a] := e
      simp at this
      rw [this]
      rfl
  · intro h
    refine TL.ext_tl ?_
    rw [e, dm]
    cases hy : TL.tl y with
    | nil => rw [hy] at h; cases h
    | cons a r =>
      rw [hy] at h
      have : a = 45 := by simpa using h
      rw [this]
      rfl
/-- the text without its sign -/
def bare (y : Str) : Str := if (TL.tl y).head? = some 45 then cutS y (some 1) none else y
theorem bare_tl (y : Str) : TL.tl y = (if (TL.tl y).head? = some 45 then [45] else []) ++ TL.tl (bare y) := by
  unfold bare
  by_cases h : (TL.tl y).head? = some 45
  · rw [if_pos h, if_pos h, cut_tail]
    cases hy : TL.tl y with
    | nil => rw [hy] at h; cases h
    | cons a r =>
      rw [hy] at h
      have : a = 45 := by simpa using h
      rw [this]
      rfl
  · rw [if_neg h, if_neg h]
    rfl
theorem bare_len (y : Str) : (bare y).length ≤ y.length := by
  unfold bare
  split
  · exact cutS_length _ _ _
  · exact Nat.le_refl _
theorem wr_head {n d : Int} (h : 1 ≤ d) : (TL.tl (wr n d)).head? = some 45 ↔ n < 0 := by
  rw [tl_wr n d h]
  cases hl : TL.tl (SI n) with
  | nil =>
    have := TL.numL_ne n.natAbs
    rw [tl_SI] at hl
    exact absurd (List.append_eq_nil_iff.mp hl).2 this
  | cons a r =>
    have e := SI_head n
    rw [hl] at e
    exact e
theorem good_bare {y : Str} {n d : Int} (g : good y n d) : ((TL.tl y).head? = some 45 ↔ n < 0) ∧ TL.tl (bare y) = TL.numL n.natAbs ++ (if d = 1 then [] else 47 :: TL.numL d.natAbs) := by
  obtain ⟨h, _, rfl⟩ := g
  have hh := wr_head (n := n) h
  refine ⟨hh, ?_⟩
  have e := bare_tl (wr n d)
  have e2 : TL.tl (wr n d) = (if n < 0 then [45] else []) ++ (TL.numL n.natAbs ++ (if d = 1 then [] else 47 :: TL.numL d.natAbs)) := by rw [tl_wr n d h, tl_SI, List.append_assoc]
  generalize TL.numL n.natAbs ++ (if d = 1 then [] else 47 :: TL.numL d.natAbs) = r at e2 ⊢
  by_cases hn : n < 0
  · rw [if_pos (hh.mpr hn), e2, if_pos hn] at e
    exact (List.append_cancel_left e).symm
  · rw [if_neg (fun z => hn (hh.mp z)), e2, if_neg hn] at e
    exact e.symm
theorem split2 (y : Str) : (Txt.split y "/").map TL.tl = TL.spl [47] 0 [] (TL.tl y) := by
  rw [TL.split_spl y "/" (by decide +kernel) (TL.kind_ok (by decide +kernel)), slash_tl]
theorem good_parts {y : Str} {n d : Int} (g : good y n d) : (Txt.split (bare y) "/").map TL.tl = if d = 1 then [TL.numL n.natAbs] else [TL.numL n.natAbs, TL.numL d.natAbs] := by
  rw [split2, (good_bare g).2]
  by_cases h : d = 1
  · rw [if_pos h, if_pos h, List.append_nil, TL.spl_last1 (numL_no (by omega)), List.nil_append]
  · rw [if_neg h, if_neg h]
    have e := TL.spl_part1 (s := 47) (S := []) (p := TL.numL n.natAbs) (rest := TL.numL d.natAbs) (acc := []) (numL_no (by omega))
    have e2 : TL.numL n.natAbs ++ ([47] ++ TL.numL d.natAbs) = TL.numL n.natAbs ++ 47 :: TL.numL d.natAbs := rfl
    rw [e2] at e
    rw [e, TL.spl_last1 (numL_no (by omega)), List.nil_append, List.nil_append]
theorem join2 (x : Str) : Txt.join "/" (Txt.split x "/") = x := by
  rw [TL.join_eq]
  exact StrLaws.join_split x "/"
theorem split_len2 (x : Str) : 1 ≤ (Txt.split x "/").length ∧ (Txt.split x "/").length ≤ x.length + 2 := by
  refine ⟨?_, PyProof.Rows.split_le x "/"⟩
  have e := split2 x
  have n : TL.spl [47] 0 [] (TL.tl x) ≠ [] := by
    have key : ∀ (l : List Nat) (k : Nat) (acc : List Nat), TL.spl [47] k acc l ≠ [] := by
      intro l
      induction l with
      | nil => intro k acc; rw [TL.spl_nil]; simp
      | cons c r ih =>
        intro k acc
        cases k with
        | zero =>
          cases hp : TL.pre [47] (c :: r) with
          | true => rw [TL.spl_hit hp]; simp
          | false => rw [TL.spl_miss hp]; exact ih _ _
        | succ k => exact ih k acc
    exact key _ _ _
  rw [← e] at n
  cases h : Txt.split x "/" with
  | nil => rw [h] at n; exact absurd rfl n
  | cons a l => exact Nat.succ_pos _
theorem rem_len (z : Str) : (Txt.removeprefix z "-").length ≤ z.length := by
  rw [TL.len_tl, TL.len_tl z, rem_tl]
  split
  · rw [List.length_tail]
    omega
  · exact Nat.le_refl _
theorem part_len (y : Str) : (Txt.partition y "/").1.length ≤ y.length ∧ (Txt.partition y "/").2.2.length ≤ y.length := by
  unfold Txt.partition
  split
  · exact ⟨le_strSub _ _ _, le_strSub _ _ _⟩
  · exact ⟨Nat.le_refl _, Nat.zero_le _⟩
theorem one_SI : SI 1 = "1" := by decide +kernel
theorem good_part {y : Str} {n d : Int} (g : good y n d) : (Txt.partition y "/").1 = SI n ∧ ((Txt.partition y "/").2.1 = "" → d = 1) ∧ ((Txt.partition y "/").2.1 ≠ "" → (Txt.partition y "/").2.2 = SI d) := by
  obtain ⟨h1, _, rfl⟩ := g
  rw [wr_part n d h1]
  have sl : ¬ (("/" : Str) = "") := by decide +kernel
  by_cases e : d = 1
  · rw [if_pos e]
    exact ⟨rfl, fun _ => e, fun z => absurd rfl z⟩
  · rw [if_neg e]
    exact ⟨rfl, fun z => absurd z sl, fun _ => rfl⟩
theorem SI_dig (n : Int) : isD (Txt.removeprefix (SI n) "-") = true := by
  rw [isD_iff, SI_rem]
  exact ⟨TL.numL_ne _, TL.numL_digits _⟩
theorem SI_digp {n : Int} (h : 0 ≤ n) : isD (SI n) = true := by
  rw [isD_iff, tl_SI, if_neg (by omega), List.nil_append]
  exact ⟨TL.numL_ne _, TL.numL_digits _⟩
theorem dec_in {c : Nat} : c ∈ ("0123456789" : Str).cps.toList ↔ 48 ≤ c ∧ c ≤ 57 := by
  have e : ("0123456789" : Str).cps.toList = [48, 49, 50, 51, 52, 53, 54, 55, 56, 57] := by decide +kernel
  rw [e]
  simp only [List.mem_cons, List.not_mem_nil, or_false]
  omega
theorem can_int {z : Str} (h : Can (TL.tl z)) (hl : z.length ≤ 640) : PySem.intText? z = some ((NumText.digitsVal (TL.tl z) : Nat) : Int) := by
  have hz : z.length = (TL.tl z).length := TL.len_tl z
  exact PySem.intText_digits (x := z) h.2.1 h.1 (by omega)
/-- what the reading of a text gives: the bare text is a whole number, or two, without a common divisor -/
def form (y : Str) (n d : Nat) : Prop := TL.tl (bare y) = TL.numL n ++ (if d = 1 then [] else 47 :: TL.numL d) ∧ 1 ≤ d ∧ Nat.gcd n d = 1
theorem form_good {y : Str} {n d : Nat} (f : form y n d) (h : (TL.tl y).head? = some 45 → n ≠ 0) : good y (if (TL.tl y).head? = some 45 then -(n : Int) else n) d := by
  obtain ⟨e, h1, g⟩ := f
  have b := bare_tl y
  have dd : ((d : Int) = 1) = (d = 1) := by rw [eq_iff_iff]; omega
  have nd : ((d : Int)).natAbs = d := rfl
  refine ⟨by omega, ?_, TL.ext_tl ?_⟩
  · split
    · rw [Int.natAbs_neg]
      exact g
    · exact g
  · by_cases hh : (TL.tl y).head? = some 45
    · have n0 := h hh
      have na : (-(n : Int)).natAbs = n := by omega
      rw [if_pos hh] at b ⊢
      rw [b, e, tl_wr _ _ (by omega), tl_SI, nd, if_pos (show -(n : Int) < 0 by omega), na, List.append_assoc]
      simp only [dd]
    · have na : ((n : Int)).natAbs = n := rfl
      rw [if_neg hh] at b ⊢
      rw [b, e, tl_wr _ _ (by omega), tl_SI, nd, if_neg (show ¬ (n : Int) < 0 by omega), na, List.append_assoc]
      simp only [dd]
theorem form_zero {y : Str} {d : Nat} (f : form y 0 d) (h : (TL.tl y).head? = some 45) : ∀ n e, ¬ good y n e := fun n e g => by
  have ⟨g1, g2⟩ := good_bare g
  have hn := g1.mp h
  have p := good_parts g
  rw [split2, f.1] at p
  have e0 : TL.spl [47] 0 [] (TL.numL 0 ++ (if d = 1 then [] else 47 :: TL.numL d)) = if d = 1 then [TL.numL 0] else [TL.numL 0, TL.numL d] := by
    by_cases h : d = 1
    · rw [if_pos h, if_pos h, List.append_nil, TL.spl_last1 (numL_no (by omega)), List.nil_append]
    · rw [if_neg h, if_neg h]
      have e := TL.spl_part1 (s := 47) (S := []) (p := TL.numL 0) (rest := TL.numL d) (acc := []) (numL_no (by omega))
      have e2 : TL.numL 0 ++ ([47] ++ TL.numL d) = TL.numL 0 ++ 47 :: TL.numL d := rfl
      rw [e2] at e
      rw [e, TL.spl_last1 (numL_no (by omega)), List.nil_append, List.nil_append]
  rw [e0] at p
  have q := congrArg List.head? p
  have q2 : some (TL.numL 0) = some (TL.numL n.natAbs) := by
    split at q <;> split at q <;> exact q
  have := TL.numL_inj (Option.some.inj q2)
  omega
theorem parts_one {y z : Str} (h : Txt.split (bare y) "/" = [z]) (c : Can (TL.tl z)) : form y (NumText.digitsVal (TL.tl z)) 1 := by
  refine ⟨?_, Nat.le_refl _, Nat.gcd_one_right _⟩
  have e := join2 (bare y)
  rw [h, TL.join_eq] at e
  rw [← e, TL.tl_join, (can_num _ c).1, if_pos rfl, List.append_nil]
  rfl
theorem parts_two {y z u : Str} (h : Txt.split (bare y) "/" = [z, u]) (c : Can (TL.tl z)) (c2 : Can (TL.tl u)) (k : 2 ≤ NumText.digitsVal (TL.tl u)) (g : Nat.gcd (NumText.digitsVal (TL.tl z)) (NumText.digitsVal (TL.tl u)) = 1) : form y (NumText.digitsVal (TL.tl z)) (NumText.digitsVal (TL.tl u)) := by
  refine ⟨?_, by omega, g⟩
  have e := join2 (bare y)
  rw [h, TL.join_eq] at e
  rw [← e, TL.tl_join, (can_num _ c).1, (can_num _ c2).1, if_neg (by omega), slash_tl]
  rfl
theorem good_can {y : Str} {n d : Int} (g : good y n d) : ∀ z ∈ Txt.split (bare y) "/", Can (TL.tl z) := fun z hz => by
  have p := good_parts g
  have m : TL.tl z ∈ (Txt.split (bare y) "/").map TL.tl := List.mem_map_of_mem hz
  rw [p] at m
  split at m
  · rw [List.mem_singleton] at m
    rw [m]
    exact numL_can _
  · rcases List.mem_cons.mp m with m | m
    · rw [m]
      exact numL_can _
    · rw [List.mem_singleton] at m
      rw [m]
      exact numL_can _
theorem good_le {y : Str} {n d : Int} (g : good y n d) : (Txt.split (bare y) "/").length ≤ 2 := by
  have p := congrArg List.length (good_parts g)
  rw [List.length_map] at p
  rw [p]
  split
  · exact Nat.le_succ 1
  · exact Nat.le_refl 2
theorem good_two {y z u : Str} {n d : Int} (g : good y n d) (h : Txt.split (bare y) "/" = [z, u]) : NumText.digitsVal (TL.tl z) = n.natAbs ∧ NumText.digitsVal (TL.tl u) = d.natAbs ∧ 2 ≤ d := by
  have p := good_parts g
  have h1 := g.1
  rw [h] at p
  by_cases e : d = 1
  · rw [if_pos e] at p
    have := congrArg List.length p
    simp at this
  · rw [if_neg e] at p
    injection p with p1 p2
    injection p2 with p3
    rw [p1, p3, TL.numL_val, TL.numL_val]
    exact ⟨rfl, rfl, by omega⟩
theorem at_head {α : Type} {c : α} {r : List α} : atI (c :: r) (0 : Int) = some c := by
  unfold atI ixN
  rw [if_pos (by decide), if_pos (by rw [List.length_cons]; omega)]
  rfl
theorem at_snd {α : Type} {c d : α} {r : List α} : atI (c :: d :: r) (1 : Int) = some d := by
  unfold atI ixN
  rw [if_pos (by decide), if_pos (by rw [List.length_cons, List.length_cons]; omega)]
  rfl
theorem of_not_dec {p : Prop} [Decidable p] (h : (!decide p) = false) : p := by
  cases e : decide p with
  | true => exact of_decide_eq_true e
  | false => rw [e] at h; exact absurd h (by decide)
theorem mem_le_sum : ∀ {l : List Nat} {n : Nat}, n ∈ l → n ≤ l.sum
  | [], _, h => by cases h
  | a :: l, n, h => by
    rw [List.sum_cons]
    rcases List.mem_cons.mp h with rfl | h
    · exact Nat.le_add_right _ _
    · exact Nat.le_trans (mem_le_sum h) (Nat.le_add_left _ _)
theorem gcd_facts (t b : Int) (h : 1 ≤ b) (hb : b.natAbs < 10 ^ 100) : t / ((Nat.gcd t.natAbs b.natAbs : Nat) : Int) = rN t b ∧ b / ((Nat.gcd t.natAbs b.natAbs : Nat) : Int) = rD t b ∧ ∀ i : Int, CDivW i ((Nat.gcd t.natAbs b.natAbs : Nat) : Int) := by
  have c : cmn t b = ((Nat.gcd t.natAbs b.natAbs : Nat) : Int) := by
    unfold cmn
    rw [if_neg (by omega)]
  have p : 0 < Nat.gcd t.natAbs b.natAbs := gcd_pos (by omega)
  have l : Nat.gcd t.natAbs b.natAbs ≤ b.natAbs := Nat.gcd_le_right _ (by omega)
  have k : (10 : Nat) ^ 100 < 2 ^ 8000 := by decide +kernel
  unfold rN rD
  rw [c, Int.fdiv_eq_ediv_of_nonneg _ (by omega), Int.fdiv_eq_ediv_of_nonneg _ (by omega)]
  exact ⟨rfl, rfl, fun i => wide_div (b := 8000) (by omega) (by omega) (by decide) (by decide)⟩
theorem abs_n (t : Int) : (if t < 0 then -t else t).natAbs = t.natAbs := by split <;> omega
theorem abs_0 (t : Int) : 0 ≤ (if t < 0 then -t else t) := by split <;> omega
theorem prod_lt {a b k : Nat} (ha : a < 10 ^ k) (hb : b < 10 ^ k) (h : k ≤ 100) : a * b < 2 ^ 680 := by
  have a1 := Nat.mul_le_mul (Nat.le_of_lt ha) (Nat.le_of_lt hb)
  rw [← Nat.pow_add] at a1
  have a2 : (10 : Nat) ^ (k + k) ≤ 10 ^ 200 := Nat.pow_le_pow_right (by decide) (by omega)
  have : (10 : Nat) ^ 200 < 2 ^ 680 := by decide +kernel
  omega
theorem nine {a c : Nat} (h : a < 10 ^ 60) (k : c ≤ 10) : a * c < 10 ^ 62 := by
  have h1 : a * c ≤ 10 ^ 60 * 10 := Nat.mul_le_mul (Nat.le_of_lt h) k
  have h2 : (10 : Nat) ^ 60 * 10 < 10 ^ 62 := by decide +kernel
  omega
def RF (C : Addr) (H : Hp) (a : Addr) (n d : Int) : Prop := ∃ dx : Addr, H a = some (.ins C dx (rfs n d))
theorem RF.same {C : Addr} {H H' : Hp} {a : Addr} {n d : Int} (h : RF C H a n d) (e : Same H H') : RF C H' a n d := by
  obtain ⟨dx, h⟩ := h
  exact ⟨dx, e _ _ h⟩
def sp_digits : Sp := fun vs H Q _ => ∃ y : Str, vs = [.str y] ∧ y.length ≤ 1000 ∧ Q (.bl (isD y)) H
def sp_parseR (C B : Addr) : Sp := fun vs H Q E => ∃ y : Str, vs = [.ref C, .str y] ∧ y.length ≤ 500 ∧ ((∃ n d, good y n d ∧ ∀ (H' : Hp) (q : Addr), Same H H' → RF C H' q n d → Q (.ref q) H') ∨ ((∀ n d, ¬ good y n d) ∧ ∀ H' : Hp, Same H H' → E (.ref B) none H'))
def sp_strR (C : Addr) : Sp := fun vs H Q _ => ∃ (a : Addr) (n d : Int), vs = [.ref a] ∧ RF C H a n d ∧ n.natAbs < 10 ^ 500 ∧ d.natAbs < 10 ^ 500 ∧ (SI n).length ≤ 1000 ∧ (SI d).length ≤ 1000 ∧ Q (.str (wr n d)) H
def sp_LnumberN : Sp := fun vs H Q _ => ∃ (p : Addr) (b : Nat), vs = [.ref p, .int (b : Int)] ∧ b ≤ 6 ∧ PoolAt H p ∧ ∀ (H' : Hp) (n : Int), Kp p H H' → PoolAt H' p → -(30 * 100000000 ^ b) < n → n < 30 * 100000000 ^ b → Q (.int n) H'
def sp_LdivisorP : Sp := fun vs H Q _ => ∃ a b : Int, vs = [.int a, .int b] ∧ 0 ≤ a ∧ 0 ≤ b ∧ a.natAbs * b.natAbs < 2 ^ 680 ∧ Q (.int ((Nat.gcd a.natAbs b.natAbs : Nat) : Int)) H
def sp_Lbig : Sp := fun vs H Q _ => ∃ p : Addr, vs = [.ref p] ∧ PoolAt H p ∧ ∀ (H' : Hp) (n : Int), Kp p H H' → n.natAbs < 10 ^ 60 → Q (.int n) H'
def sp_Lwr : Sp := fun vs H Q _ => ∃ n d : Int, vs = [.int n, .int d] ∧ n.natAbs < 10 ^ 100 ∧ d.natAbs < 10 ^ 100 ∧ Q (.str (wr n d)) H
def sp_Ldig : Sp := fun vs H Q _ => ∃ y : Str, vs = [.str y] ∧ y.length ≤ 1000 ∧ (Can (TL.tl y) → Q (.bl true) H) ∧ (¬ Can (TL.tl y) → Q (.bl false) H)
def sp_LreadingR : Sp := fun vs H Q _ => ∃ y : Str, vs = [.str y] ∧ y.length ≤ 200 ∧ (∀ n d, good y n d → ∀ (H' : Hp) (t : Addr), Same H H' → H' t = some (.tup [.int n, .int d]) → Q (.ref t) H') ∧ ((∀ n d, ¬ good y n d) → ∀ H', Same H H' → Q .non H')
def sp_LbentT : Sp := fun vs H Q _ => ∃ (p : Addr) (y g : Str), vs = [.ref p, .str y, .str g] ∧ PoolAt H p ∧ 0 < g.length ∧ g.length ≤ 1000 ∧ y.length ≤ 10000 ∧
  ∀ (H' : Hp) (z : Str), Kp p H H' → PoolAt H' p → z.length ≤ y.length + 1 → Q (.str z) H'
def sp_Lany : Sp := fun vs H Q _ => ∃ (p : Addr) (g : Str), vs = [.ref p, .str g] ∧ PoolAt H p ∧ 0 < g.length ∧ g.length ≤ 1000 ∧ ∀ (H' : Hp) (z : Str), Kp p H H' → z.length ≤ 40 → Q (.str z) H'
def sp_LreadsR (K : PySem.W.Frag) : Sp := fun vs H Q _ => ∃ (y : Str) (v : V), vs = [.str y, v] ∧ y.length ≤ 500 ∧ ((v = .non ∧ ∀ n d, ¬ good y n d) ∨ (∃ (n d : Int) (t : Addr), v = .ref t ∧ good y n d ∧ SqT K H t [.int n, .int d])) ∧ ∀ H', Same H H' → Q (.bl true) H'
def sp_law (K : PySem.W.Frag) : Sp := fun vs H Q _ => ∃ (a : Addr) (ns : List Int), vs = [.ref a] ∧ SqL K H a (ns.map V.int) ∧ ns.length ≤ 63 ∧ ∀ H', Q (.bl true) H'
theorem SI_len {n : Int} {k : Nat} (hk : 0 < k) (h : n.natAbs < 10 ^ k) : (SI n).length ≤ k + 1 := by
  have e := TL.numL_len hk h
  rw [TL.len_tl, tl_SI, List.length_append]
  split <;> simp <;> omega
theorem wr_len {n d : Int} {k : Nat} (hk : 0 < k) (h : n.natAbs < 10 ^ k) (g : d.natAbs < 10 ^ k) : (wr n d).length ≤ 2 * k + 3 := by
  have a := SI_len hk h
  have b := SI_len hk g
  have e1 : ("/" : Str).length = 1 := by decide +kernel
  unfold wr
  split
  · omega
  · rw [Str.length_append, Str.length_append, e1]
    omega
/-- a written fraction is no longer than it is: its parts are short -/
theorem good_small {y : Str} {n d : Int} {k : Nat} (g : good y n d) (h : y.length ≤ k) : n.natAbs < 10 ^ k ∧ d.natAbs < 10 ^ k ∧ (SI n).length ≤ k + 1 ∧ (SI d).length ≤ k + 1 := by
  obtain ⟨h1, _, rfl⟩ := g
  have e := TL.len_tl (wr n d)
  rw [tl_wr n d h1, tl_SI, List.length_append, List.length_append] at e
  have en : n.natAbs < 10 ^ k := numL_log (by omega)
  have ed : d.natAbs < 10 ^ k := by
    by_cases hd : d = 1
    · subst hd
      by_cases hk : k = 0
      · have := TL.numL_ne n.natAbs
        have : 0 < (TL.numL n.natAbs).length := List.length_pos_iff.mpr this
        omega
      · exact Nat.lt_of_lt_of_le (show 1 < 10 ^ 1 by decide) (Nat.pow_le_pow_right (by decide) (by omega))
    · rw [if_neg hd, List.length_cons] at e
      exact numL_log (by omega)
  have hk : 0 < k := by
    have := TL.numL_ne n.natAbs
    have : 0 < (TL.numL n.natAbs).length := List.length_pos_iff.mpr this
    omega
  exact ⟨en, ed, SI_len hk en, SI_len hk ed⟩
theorem good_one {y : Str} {n d n' d' : Int} (g : good y n d) (k : good y n' d') : n = n' ∧ d = d' := by
  have p1 := good_parts g
  have p2 := good_parts k
  have h1 := (good_bare g).1
  have h2 := (good_bare k).1
  have g1 := g.1
  have k1 := k.1
  rw [p1] at p2
  have fin : n.natAbs = n'.natAbs → n = n' := fun e => by
    by_cases hn : n < 0
    · have := h2.mp (h1.mpr hn)
      omega
    · have : ¬ n' < 0 := fun z => hn (h1.mp (h2.mpr z))
      omega
  by_cases hd : d = 1
  · by_cases hd' : d' = 1
    · rw [if_pos hd, if_pos hd'] at p2
      injection p2 with p3
      exact ⟨fin (TL.numL_inj p3), by omega⟩
    · rw [if_pos hd, if_neg hd'] at p2
      have := congrArg List.length p2
      simp at this
  · by_cases hd' : d' = 1
    · rw [if_neg hd, if_pos hd'] at p2
      have := congrArg List.length p2
      simp at this
    · rw [if_neg hd, if_neg hd'] at p2
      injection p2 with p3 p4
      injection p4 with p5
      have := TL.numL_inj p5
      exact ⟨fin (TL.numL_inj p3), by omega⟩
def topS (i : Nat) : Stmt := PySem.Challenge.pw_onecable_k04_ratio_text_there_and_back.main.body.getD i (.Pass ⟨0, 0, 0, 0⟩)
abbrev s_uhas_digits_only : Stmt := topS 6
theorem sc_uhas_digits_only : FnScope ["text"] ["text"] (defScope s_uhas_digits_only) := ⟨rfl, rfl, rfl, by decide +kernel, rfl, by decide +kernel, by decide +kernel⟩
abbrev s_Ratio_init : Stmt := inClass (topS 8) 0
theorem sc_Ratio_init : FnScope ["self", "num", "den", "common"] ["self", "num", "den"] (defScope s_Ratio_init) := ⟨rfl, rfl, rfl, by decide +kernel, rfl, by decide +kernel, by decide +kernel⟩
abbrev s_Ratio_str : Stmt := inClass (topS 8) 2
theorem sc_Ratio_str : FnScope ["self"] ["self"] (defScope s_Ratio_str) := ⟨rfl, rfl, rfl, by decide +kernel, rfl, by decide +kernel, by decide +kernel⟩
abbrev s_Ratio_parse : Stmt := inClass (topS 8) 1
theorem sc_Ratio_parse : FnScope ["cls", "text", "head", "slash", "tail", "ratio"] ["cls", "text"] (defScope s_Ratio_parse) := ⟨rfl, rfl, rfl, by decide +kernel, rfl, by decide +kernel, by decide +kernel⟩
abbrev s_Lcell : Stmt := topS 10
theorem sc_Lcell : FnScope ["_law_script", "_law_at"] ["_law_script", "_law_at"] (defScope s_Lcell) := ⟨rfl, rfl, rfl, by decide +kernel, rfl, by decide +kernel, by decide +kernel⟩
abbrev s_Lpool : Stmt := topS 11
theorem sc_Lpool : FnScope ["_law_cell_here"] ["_law_cell_here"] (defScope s_Lpool) := ⟨rfl, rfl, rfl, by decide +kernel, rfl, by decide +kernel, by decide +kernel⟩
abbrev s_Ltake : Stmt := topS 12
theorem sc_Ltake : FnScope ["_law_pool_here", "_law_many", "_law_digit", "_law_mixed"] ["_law_pool_here", "_law_many"] (defScope s_Ltake) := ⟨rfl, rfl, rfl, by decide +kernel, rfl, by decide +kernel, by decide +kernel⟩
abbrev s_Lsame : Stmt := topS 13
theorem sc_Lsame : FnScope ["_law_told", "_law_due", "_law_k"] ["_law_told", "_law_due"] (defScope s_Lsame) := ⟨rfl, rfl, rfl, by decide +kernel, rfl, by decide +kernel, by decide +kernel⟩
abbrev s_Lnumber : Stmt := topS 14
theorem sc_Lnumber : FnScope ["_law_pool_here", "_law_blocks", "_law_number_here", "_law_k"] ["_law_pool_here", "_law_blocks"] (defScope s_Lnumber) := ⟨rfl, rfl, rfl, by decide +kernel, rfl, by decide +kernel, by decide +kernel⟩
abbrev s_Ldivisor : Stmt := topS 15
theorem sc_Ldivisor : FnScope ["_law_one", "_law_two", "_law_k", "_law_rest"] ["_law_one", "_law_two"] (defScope s_Ldivisor) := ⟨rfl, rfl, rfl, by decide +kernel, rfl, by decide +kernel, by decide +kernel⟩
abbrev s_Lbig : Stmt := topS 16
theorem sc_Lbig : FnScope ["_law_pool_here", "_law_number_here"] ["_law_pool_here"] (defScope s_Lbig) := ⟨rfl, rfl, rfl, by decide +kernel, rfl, by decide +kernel, by decide +kernel⟩
abbrev s_Lsigns : Stmt := topS 17
theorem sc_Lsigns : FnScope ["_law_signs_here"] [] (defScope s_Lsigns) := ⟨rfl, rfl, rfl, by decide +kernel, rfl, by decide +kernel, by decide +kernel⟩
abbrev s_Lwritten : Stmt := topS 18
theorem sc_Lwritten : FnScope ["_law_num", "_law_den"] ["_law_num", "_law_den"] (defScope s_Lwritten) := ⟨rfl, rfl, rfl, by decide +kernel, rfl, by decide +kernel, by decide +kernel⟩
abbrev s_Ldigits : Stmt := topS 19
theorem sc_Ldigits : FnScope ["_law_part", "_law_sign"] ["_law_part"] (defScope s_Ldigits) := ⟨rfl, rfl, rfl, by decide +kernel, rfl, by decide +kernel, by decide +kernel⟩
abbrev s_Lreading : Stmt := topS 20
theorem sc_Lreading : FnScope ["_law_text", "_law_rest", "_law_parts", "_law_part", "_law_num", "_law_den"] ["_law_text"] (defScope s_Lreading) := ⟨rfl, rfl, rfl, by decide +kernel, rfl, by decide +kernel, by decide +kernel⟩
abbrev s_Lbent : Stmt := topS 21
theorem sc_Lbent : FnScope ["_law_pool_here", "_law_text", "_law_signs_here", "_law_at", "_law_sign", "_law_way"] ["_law_pool_here", "_law_text", "_law_signs_here"] (defScope s_Lbent) := ⟨rfl, rfl, rfl, by decide +kernel, rfl, by decide +kernel, by decide +kernel⟩
abbrev s_Lany : Stmt := topS 22
theorem sc_Lany : FnScope ["_law_pool_here", "_law_signs_here", "_law_k"] ["_law_pool_here", "_law_signs_here"] (defScope s_Lany) := ⟨rfl, rfl, rfl, by decide +kernel, rfl, by decide +kernel, by decide +kernel⟩
abbrev s_Lreads : Stmt := topS 23
theorem sc_Lreads : FnScope ["_law_text", "_law_due", "_law_refused", "_law_told", "e"] ["_law_text", "_law_due"] (defScope s_Lreads) := ⟨rfl, rfl, rfl, by decide +kernel, rfl, by decide +kernel, by decide +kernel⟩
abbrev s_law : Stmt := topS 24
theorem sc_law : FnScope ["_law_script", "_law_top", "_law_bottom", "_law_shared", "_law_num", "_law_den", "_law_text", "_law_pool_here", "_law_way", "_law_times", "_law_far"] ["_law_script"] (defScope s_law) := ⟨rfl, rfl, rfl, by decide +kernel, rfl, by decide +kernel, by decide +kernel⟩
structure Txt (P : Program) (w : World) (K : PySem.W.Frag) (mg : Str → Option Value) (C_Ratio C_BadRatio C_CableError : Addr) : Prop where
  g_Ratio : mg "Ratio" = some (.ref C_Ratio)
  cl_Ratio : Cls K C_Ratio
  nf_Ratio_num : NoAttr K C_Ratio "num"
  nf_Ratio_den : NoAttr K C_Ratio "den"
  cr_Ratio : ClX.CRead K C_Ratio (.type "type")
  i_Ratio : C8.InsC K C_Ratio
  g_BadRatio : mg "BadRatio" = some (.ref C_BadRatio)
  x_BadRatio : PySem.W.excIn K C_BadRatio [.type "ValueError", .type "Exception", .type "BaseException", .type "object"] "ValueError.__new__" = true
  k_BadRatio : PySem.W.keepIn K (.ref C_BadRatio) = true
  b_BadRatio : PySem.W.subIn K (.ref C_BadRatio) (.type "BaseException") = some true
  t_BadRatio : PySem.W.typeIn K (.ref C_BadRatio) = some (.type "type")
  ic_BadRatio : PySem.W.isClsIn K C_BadRatio = true
  s_BadRatio : PySem.W.subIn K (.ref C_BadRatio) (.ref C_BadRatio) = some true
  e_BadRatio : ExcC K C_BadRatio
  g_CableError : mg "CableError" = some (.ref C_CableError)
  n_str : mg "str" = none
  n_int : mg "int" = none
  n_len : mg "len" = none
  n_abs : mg "abs" = none
  n_isinstance : mg "isinstance" = none
  n_bool : mg "bool" = none
  n_tuple : mg "tuple" = none
  n_list : mg "list" = none
  n_range : mg "range" = none
  n_ValueError : mg "ValueError" = none
  gi_gcd : mg "gcd" = some (.builtin "math.gcd")
  kt_cable : PySem.W.kitOne K (.ref C_BadRatio) (.ref C_CableError) = some true
  kt_value : PySem.W.kitOne K (.ref C_BadRatio) (.type "ValueError") = some true

section
variable {P : Program} {w : World} {K : PySem.W.Frag} {mg : Str → Option Value} {base : Heap} {C_Ratio C_BadRatio C_CableError : Addr}
theorem ok_Ratio_init {f : Addr} {fd : FuncData} (F : Fun K "__init__" "Ratio.__init__" s_Ratio_init f fd) (T : Txt P w K mg C_Ratio C_BadRatio C_CableError)  :
    FnOk P w K mg base (L2.CX P w) 1 f fd ["self", "num", "den"] (sp_Ratio_init C_Ratio C_BadRatio) := by
  refine F.okX sc_Ratio_init (fun vs H Q E h => ?_) (fun cdv A outer s H vs Q E hr h => ?_)
  · obtain ⟨x, dx, n, d, rfl, _⟩ := h
    rfl
  · obtain ⟨x, dx, n, d, rfl, hx, hb, hE, hQ⟩ := h
    refine ⟨_, (pss_cons (ps_if (pt_cmpR op_eq (pv 2) pe_int (nomark _)) (pss_one (ps_raise rfl (takes_of rfl rfl rfl rfl) (pmk_own PySem.F.excBase_ValueError T.x_BadRatio T.g_BadRatio T.k_BadRatio (raises_own T.b_BadRatio T.t_BadRatio) rfl))) pss_nil)
      (pss_cons (ps_set (i := 3) sc_Ratio_init.nd rfl (Or.inl rfl) (pe_callBfun cr_gcd rfl T.gi_gcd (pa_cons (pv 1) (pa_cons (pv 2) pa_nil))))
      (pss_cons (ps_if (pt_cmpR op_lt (pv 2) pe_int (nomark _)) (pss_one (ps_set (i := 3) sc_Ratio_init.nd rfl (Or.inl rfl) (pe_un un_neg (pv 3)))) pss_nil)
      (pss_cons (ps_fld (pv 0) (pe_op op_fdivA (pv 1) (pv 3)) rfl)
      (pss_one (ps_fld (pv 0) (pe_op op_fdivA (pv 2) (pv 3)) rfl)))))), ?_⟩
    refine ⟨_, rfl, rfl, _, rfl, ?_⟩
    refine ite2 (fun hd => ?_) (fun hd => ?_)
    · exact hE (V.int.inj (of_decide_eq_true hd))
    · have d0 : d ≠ 0 := fun z => hd (by rw [z]; rfl)
      have c0 := cmn_ne (n := n) d0
      have cl := cmn_lt (n := n) d0 hb
      refine ⟨_, rfl, _, rfl, n, d, rfl, ?_⟩
      refine ⟨_, rfl, _, _, rfl, rfl, _, rfl, ?_⟩
      have last : ∀ c : Int, c = cmn n d → Q .non (upd (upd H x (.ins C_Ratio dx (putF "num" (.int (n.fdiv c)) []))) x (.ins C_Ratio dx (putF "den" (.int (d.fdiv c)) (putF "num" (.int (n.fdiv c)) [])))) := fun c hc => by
        subst hc
        exact hQ d0 _ upd_same (Kp.trans Kp.upd Kp.upd)
      refine ite2 (fun hneg => ?_) (fun hneg => ?_)
      · have hc : -((Nat.gcd n.natAbs d.natAbs : Nat) : Int) = cmn n d := by unfold cmn; rw [if_pos (of_decide_eq_true hneg)]
        have dv : CDivA n (-((Nat.gcd n.natAbs d.natAbs : Nat) : Int)) := by rw [hc]; exact divA c0 cl (by decide) (by decide)
        have dv2 : CDivA d (-((Nat.gcd n.natAbs d.natAbs : Nat) : Int)) := by rw [hc]; exact divA c0 cl (by decide) (by decide)
        refine ⟨_, rfl, _, rfl, ?_⟩
        refine ⟨_, rfl, _, rfl, _, _, rfl, rfl, dv, _, rfl, x, C_Ratio, dx, [], rfl, hx, T.cl_Ratio, T.nf_Ratio_num, (by show 0 < 1000; decide), ?_⟩
        refine ⟨_, rfl, _, rfl, _, _, rfl, rfl, dv2, _, rfl, x, C_Ratio, dx, _, rfl, upd_same, T.cl_Ratio, T.nf_Ratio_den, (by show 1 < 1000; decide), ?_⟩
        exact last _ hc
      · have hc : ((Nat.gcd n.natAbs d.natAbs : Nat) : Int) = cmn n d := by unfold cmn; rw [if_neg (fun z => hneg (decide_eq_true z))]
        have dv : CDivA n ((Nat.gcd n.natAbs d.natAbs : Nat) : Int) := by rw [hc]; exact divA c0 cl (by decide) (by decide)
        have dv2 : CDivA d ((Nat.gcd n.natAbs d.natAbs : Nat) : Int) := by rw [hc]; exact divA c0 cl (by decide) (by decide)
        refine ⟨_, rfl, _, rfl, _, _, rfl, rfl, dv, _, rfl, x, C_Ratio, dx, [], rfl, hx, T.cl_Ratio, T.nf_Ratio_num, (by show 0 < 1000; decide), ?_⟩
        refine ⟨_, rfl, _, rfl, _, _, rfl, rfl, dv2, _, rfl, x, C_Ratio, dx, _, rfl, upd_same, T.cl_Ratio, T.nf_Ratio_den, (by show 1 < 1000; decide), ?_⟩
        exact last _ hc
theorem ok_uhas_digits_only {f : Addr} {fd : FuncData} (F : Fun K "_has_digits_only" "_has_digits_only" s_uhas_digits_only f fd) (T : Txt P w K mg C_Ratio C_BadRatio C_CableError)  :
    FnOk P w K mg base CX0 1 f fd ["text"] sp_digits := by
  refine F.ok sc_uhas_digits_only (fun vs H Q E h => ?_) (fun cdv A outer s H vs Q E hr h => ?_)
  · obtain ⟨y, rfl, _⟩ := h
    rfl
  · obtain ⟨y, rfl, hl, q⟩ := h
    refine ⟨_, (pss_one (ps_ret (pe_and (pe_bm0 PySem.F.plainAttrs_str PySem.F.slot_str_isascii PySem.F.type_str_isascii mt_isascii (pv 0)) (pe_one (pe_bm0 PySem.F.plainAttrs_str PySem.F.slot_str_isdigit PySem.F.type_str_isdigit mt_isdigit (pv 0)))))), ?_⟩
    unfold isD at q
    refine ⟨_, rfl, rfl, y, rfl, rfl, trivial, _, rfl, iteB (fun h1 => ⟨_, rfl, rfl, y, rfl, rfl, trivial, ?_⟩) (fun h1 => ?_)⟩
    · rw [h1] at q
      exact q
    · rw [h1] at q
      exact q
theorem ok_Ratio_str {f : Addr} {fd : FuncData} (F : Fun K "__str__" "Ratio.__str__" s_Ratio_str f fd) (T : Txt P w K mg C_Ratio C_BadRatio C_CableError)  :
    FnOk P w K mg base CX0 1 f fd ["self"] (sp_strR C_Ratio) := by
  refine F.ok sc_Ratio_str (fun vs H Q E h => ?_) (fun cdv A outer s H vs Q E hr h => ?_)
  · obtain ⟨a, n, d, rfl, _⟩ := h
    rfl
  · obtain ⟨a, n, d, rfl, ⟨dx, ha⟩, hn, hd, ln, ld, q⟩ := h
    refine ⟨_, (pss_cons (ps_if (pt_cmpR op_eq (pe_fld (pv 0) rfl) pe_int (nomark _)) (pss_one (ps_ret (pe_callTy call_str_int (by rfl) T.n_str (by decide +kernel) (pa_cons (pe_fld (pv 0) rfl) pa_nil)))) pss_nil)
      (pss_one (ps_ret (pe_joinedD (PJ.cons (pe_fmt (pe_fld (pv 0) rfl)) (PJ.cons pe_str (PJ.cons (pe_fmt (pe_fld (pv 0) rfl)) PJ.nil))))))), ?_⟩
    unfold wr at q
    have e1 : ("/" : Str).length = 1 := by decide +kernel
    have e0 : Str.empty.length = 0 := rfl
    refine ⟨_, rfl, a, C_Ratio, dx, _, _, rfl, ha, T.cl_Ratio, T.nf_Ratio_den, rfs_den _ _, rfl, _, rfl, iteB (fun h1 => ?_) (fun h1 => ?_)⟩
    · have e : d = 1 := V.int.inj (of_decide_eq_true h1)
      rw [if_pos e] at q
      exact ⟨_, rfl, a, C_Ratio, dx, _, _, rfl, ha, T.cl_Ratio, T.nf_Ratio_num, rfs_num _ _, _, rfl, log_small hn, q⟩
    · have e : ¬ d = 1 := fun z => of_decide_eq_false h1 (by rw [z])
      rw [if_neg e] at q
      have le : Str.empty ++ SI n = SI n := TL.ext_tl (by rw [TL.tl_append]; rfl)
      have ls : (Str.empty ++ Str.ofString (toString n)) ++ "/" ++ Str.ofString (toString d) = SI n ++ "/" ++ SI d := by
        show Str.empty ++ SI n ++ "/" ++ SI d = _
        rw [le]
      rw [← ls] at q
      refine ⟨_, rfl, a, C_Ratio, dx, _, _, rfl, ha, T.cl_Ratio, T.nf_Ratio_num, rfs_num _ _, .inr ⟨_, rfl, log_small hn, _, rfl, small_line (by rw [Str.length_append]; show _ + (SI n).length ≤ _; omega), ?_⟩⟩
      refine ⟨_, rfl, small_line (by rw [Str.length_append, Str.length_append]; show _ + (SI n).length + _ ≤ _; omega), _, rfl, a, C_Ratio, dx, _, _, rfl, ha, T.cl_Ratio, T.nf_Ratio_den, rfs_den _ _, .inr ⟨_, rfl, log_small hd, _, rfl, small_line (by rw [Str.length_append, Str.length_append, Str.length_append]; show _ + (SI n).length + _ + (SI d).length ≤ _; omega), q⟩⟩
theorem ok_Ratio_parse {f : Addr} {fd : FuncData} (F : Fun K "parse" "Ratio.parse" s_Ratio_parse f fd) (T : Txt P w K mg C_Ratio C_BadRatio C_CableError) (c_uhas_digits_only : Cal CX0 P w K mg base 1 "_has_digits_only" sp_digits) (c_Ratio : Mak (L2.CX P w) P w K mg base 1 "Ratio" C_Ratio (sp_Ratio_init C_Ratio C_BadRatio)) (c_Ratio_str : Met CX0 P w K mg base 1 C_Ratio "__str__" (sp_strR C_Ratio)) :
    FnOk P w K mg base (L2.CX P w) 5 f fd ["cls", "text"] (sp_parseR C_Ratio C_BadRatio) := by
  refine F.okX sc_Ratio_parse (fun vs H Q E h => ?_) (fun cdv A outer s H vs Q E hr h => ?_)
  · obtain ⟨y, rfl, _⟩ := h
    rfl
  · obtain ⟨y, rfl, hl, q⟩ := h
    refine ⟨_, (pss_cons (ps_asg (pe_bm PySem.F.plainAttrs_str PySem.F.slot_str_partition PySem.F.type_str_partition mt_partition (pv 1) (pa_cons pe_str pa_nil)) (pg_tup rfl (pgs_cons (pg_name (i := 2) sc_Ratio_parse.nd rfl (Or.inl rfl)) (pgs_cons (pg_name (i := 3) sc_Ratio_parse.nd rfl (Or.inl rfl)) (pgs_cons (pg_name (i := 4) sc_Ratio_parse.nd rfl (Or.inl rfl)) pgs_nil)))))
      (C8.pss_cut (ps_if (pt_cmpR op_eq (pv 3) pe_str (nomark _)) (pss_one (ps_set (i := 4) sc_Ratio_parse.nd rfl (Or.inl rfl) pe_str)) pss_nil)
      (pss_cons (ps_if (pt_not (PW.pt (pw_and (pt_val (pc_c c_uhas_digits_only hr (by decide) rfl pass0 (pa_cons (pe_bm PySem.F.plainAttrs_str PySem.F.slot_str_removeprefix PySem.F.type_str_removeprefix mt_removeprefix (pv 2) (pa_cons pe_str pa_nil)) pa_nil))) (pw_and1 (pt_val (pc_c c_uhas_digits_only hr (by decide) rfl pass0 (pa_cons (pv 4) pa_nil))))))) (pss_one (ps_raise rfl (takes_of rfl rfl rfl rfl) (pmk_own PySem.F.excBase_ValueError T.x_BadRatio T.g_BadRatio T.k_BadRatio (raises_own T.b_BadRatio T.t_BadRatio) rfl))) pss_nil)
      (pss_cons (ps_set (i := 5) sc_Ratio_parse.nd rfl (Or.inl rfl) (pc_mkL (i := 0) c_Ratio hr (by decide) rfl (Or.inl rfl) (passes_call (takes_of rfl rfl rfl rfl) fun _ _ _ _ h => h) (pa_cons (pe_callTy call_int_str (by rfl) T.n_int (by decide +kernel) (pa_cons (pv 2) pa_nil)) (pa_cons (pe_callTy call_int_str (by rfl) T.n_int (by decide +kernel) (pa_cons (pv 4) pa_nil)) pa_nil))))
      (pss_cons (ps_if (pt_cmpR op_ne (pe_callTy (call_strO c_Ratio_str hr (by decide) pass0) (by rfl) T.n_str (by decide +kernel) (pa_cons (pv 5) pa_nil)) (pv 1) (nomark _)) (pss_one (ps_raise rfl (takes_of rfl rfl rfl rfl) (pmk_own PySem.F.excBase_ValueError T.x_BadRatio T.g_BadRatio T.k_BadRatio (raises_own T.b_BadRatio T.t_BadRatio) rfl))) pss_nil)
      (pss_one (ps_ret (pv 5)))))))), ?_⟩
    have bad : (∀ n d, ¬ good y n d) → ∀ H' : Hp, Same H H' → E (.ref C_BadRatio) none H' := fun no H' s => by
      rcases q with ⟨n, d, g, _⟩ | ⟨_, q⟩
      · exact absurd g (no n d)
      · exact q H' s
    have fine : ∀ n d, good y n d → ∀ (H' : Hp) (a : Addr), Same H H' → RF C_Ratio H' a n d → Q (.ref a) H' := fun n d g H' a s r => by
      rcases q with ⟨n', d', g', q⟩ | ⟨no, _⟩
      · obtain ⟨e1, e2⟩ := good_one g g'
        subst e1 e2
        exact q H' a s r
      · exact absurd g (no n d)
    clear q
    have lens := part_len y
    have gp := fun n d (g : good y n d) => good_part g
    refine ⟨_, rfl, rfl, y, _, rfl, rfl, rfl, small_line (by omega), fun p hp => ?_⟩
    generalize Txt.partition y "/" = P at lens gp ⊢
    have sp := same_upd (o := .tup [.str P.1, .str P.2.1, .str P.2.2]) hp
    refine ⟨p, _, rfl, SqT.of upd_same, rfl, _, _, rfl, _, _, rfl, _, _, rfl, rfl, ?_⟩
    generalize upd H p (.tup [.str P.1, .str P.2.1, .str P.2.2]) = H1 at sp ⊢
    refine ⟨fun σ' H' => ∃ t : Str, σ' = [some (.ref C_Ratio), some (.str y), some (.str P.1), some (.str P.2.1), some (.str t), none] ∧ H' = H1 ∧ t.length ≤ 500 ∧ ∀ n d, good y n d → P.1 = SI n ∧ t = SI d, ?_, ?_⟩
    · refine ⟨_, rfl, rfl, _, rfl, ite2 (fun hc => ?_) (fun hc => ?_)⟩
      · have e : P.2.1 = "" := V.str.inj (of_decide_eq_true hc)
        refine ⟨_, rfl, rfl, (by decide +kernel), fun n d g => ⟨(gp n d g).1, ?_⟩⟩
        rw [(gp n d g).2.1 e, one_SI]
      · have e : P.2.1 ≠ "" := fun z => hc (by rw [z]; rfl)
        exact ⟨_, rfl, rfl, by omega, fun n d g => ⟨(gp n d g).1, (gp n d g).2.2 e⟩⟩
    rintro σ' H' ⟨t, rfl, rfl, lt, gq⟩
    clear gp
    generalize P.1 = hd at lens gq ⊢
    have rl := rem_len hd
    have noI : ∀ n d, good y n d → isD (Txt.removeprefix hd "-") = true ∧ isD t = true := fun n d g => by
      obtain ⟨e1, e2⟩ := gq n d g
      have := g.1
      rw [e1, e2]
      exact ⟨SI_dig n, SI_digp (by omega)⟩
    have big : (10 : Nat) ^ 500 ≤ 2 ^ 8000 := by decide +kernel
    refine ⟨_, rfl, rfl, hd, _, rfl, rfl, small_line (by omega), _, rfl, by omega, _, rfl, iteB (fun h1 => ⟨_, rfl, t, rfl, by omega, _, rfl, iteB (fun h2 => ?_) (fun h2 => ?_)⟩) (fun h1 => ?_)⟩
    · exact bad (fun n d g => by rw [(noI n d g).2] at h2; exact absurd h2 (by decide)) _ sp
    · obtain ⟨a, ea, ba⟩ := head_int hd h1 (by omega)
      have h3 : isD t = true := by
        cases he : isD t with
        | true => rfl
        | false => rw [he] at h2; exact absurd h2 (by decide)
      obtain ⟨b, eb, bb⟩ := head_int t (rem_digits t h3) lt
      have noJ : ∀ n d, good y n d → a = n ∧ b = d := fun n d g => by
        obtain ⟨e1, e2⟩ := gq n d g
        have s1 := SI_int n (by rw [← e1]; omega)
        have s2 := SI_int d (by rw [← e2]; omega)
        rw [← e1, ea] at s1
        rw [← e2, eb] at s2
        exact ⟨Option.some.inj s1, Option.some.inj s2⟩
      refine ⟨rfl, _, rfl, hd, a, rfl, ea, by omega, _, rfl, t, b, rfl, eb, by omega, fun x dx nx ndx ne => ?_⟩
      refine ⟨x, dx, a, b, rfl, upd_same, by omega, fun hb => bad (fun n d g => ?_) _ (sp.trans (mk_same nx ndx Kp.refl)), fun hb H' hx kx => ⟨rfl, ?_⟩⟩
      · have := (noJ n d g).2
        have := g.1
        omega
      · have sH := sp.trans (mk_same nx ndx kx)
        have bN := rN_le (n := a) hb
        have bD := rD_le (n := a) hb
        have lN := SI_len (n := rN a b) (k := 500) (by decide) (by omega)
        have lD := SI_len (n := rD a b) (k := 500) (by decide) (by omega)
        refine ⟨_, rfl, x, dx, _, rfl, hx, x, _, _, rfl, ⟨dx, hx⟩, by omega, by omega, by omega, by omega, _, rfl, _, rfl, rfl, _, rfl, iteB (fun h4 => ?_) (fun h4 => ?_)⟩
        · refine bad (fun n d g => ?_) _ sH
          obtain ⟨e1, e2⟩ := noJ n d g
          subst e1 e2
          obtain ⟨r1, r2⟩ := rN_one g.1 g.2.1
          rw [r1, r2, ← g.2.2] at h4
          rw [decide_eq_true rfl] at h4
          exact absurd h4 (by decide)
        · have e : wr (rN a b) (rD a b) = y := by
            cases he : decide (V.str (wr (rN a b) (rD a b)) = V.str y) with
            | true => exact V.str.inj (of_decide_eq_true he)
            | false => rw [he] at h4; exact absurd h4 (by decide)
          exact ⟨_, rfl, fine _ _ (e ▸ good_r hb) _ x sH ⟨dx, hx⟩⟩
    · exact bad (fun n d g => by rw [(noI n d g).1] at h1; exact absurd h1 (by decide)) _ sp
theorem ok_Lcell {f : Addr} {fd : FuncData} (F : Fun K "_law_cell" "_law_cell" s_Lcell f fd) (T : Txt P w K mg C_Ratio C_BadRatio C_CableError)  :
    FnOk P w K mg base CX0 1 f fd ["_law_script", "_law_at"] (sp_Lcell K) := by
  refine F.ok sc_Lcell (fun vs H Q E h => ?_) (fun cdv A outer s H vs Q E hr h => ?_)
  · obtain ⟨l, ns, j, rfl, _⟩ := h
    rfl
  · obtain ⟨l, ns, j, rfl, hs, q⟩ := h
    refine ⟨_, (pss_cons (ps_if (pt_cmpR op_lt (pv 1) (pe_callB call_len_seq (by rfl) T.n_len PySem.boot_len (pa_cons (pv 0) pa_nil)) (nomark _)) (pss_one (ps_ret (pe_callB call_abs (by rfl) T.n_abs (by decide +kernel) (pa_cons (pe_callTy call_int1 (by rfl) T.n_int (by decide +kernel) (pa_cons (pe_ix ix_list (pv 0) (pv 1) (fun _ _ => rfl)) pa_nil)) pa_nil)))) pss_nil)
      (pss_one (ps_ret pe_int))), ?_⟩
    refine ⟨_, rfl, _, rfl, l, _, rfl, .inl hs, _, _, rfl, rfl, _, rfl, ?_⟩
    refine ite2 (fun hlt => ?_) (fun _ => q 0 (by decide))
    have hj : j < ns.length := by
      have z := of_decide_eq_true hlt
      rw [List.length_map] at z
      omega
    have hat : (ns.map V.int)[j]? = some (V.int ns[j]) := by rw [List.getElem?_map, List.getElem?_eq_getElem hj] <;> rfl
    refine ⟨_, rfl, _, rfl, l, _, _, _, rfl, rfl, hs, atI_nat hat, .inl ⟨_, rfl, _, rfl, q _ ?_⟩⟩
    split <;> omega
theorem ok_Lpool {f : Addr} {fd : FuncData} (F : Fun K "_law_pool" "_law_pool" s_Lpool f fd) (T : Txt P w K mg C_Ratio C_BadRatio C_CableError)  :
    FnOk P w K mg base CX0 1 f fd ["_law_cell_here"] sp_Lpool := by
  refine F.ok sc_Lpool (fun vs H Q E h => ?_) (fun cdv A outer s H vs Q E hr h => ?_)
  · obtain ⟨c, rfl, _⟩ := h
    rfl
  · obtain ⟨c, rfl, q⟩ := h
    refine ⟨_, (pss_cons (ps_if (pt_cmpR op_ge (pv 0) (pe_op op_pow pe_int pe_int) (nomark _)) (pss_one (ps_ret (pe_lst (pa_cons (pv 0) (pa_cons (pv 0) (pa_cons pe_int pa_nil)))))) pss_nil)
      (pss_one (ps_ret (pe_lst (pa_cons pe_int (pa_cons (pv 0) (pa_cons pe_int pa_nil))))))), ?_⟩
    refine ⟨_, rfl, _, _, rfl, rfl, ⟨by decide, by decide, by decide⟩, _, _, rfl, rfl, _, rfl, ?_⟩
    refine ite2 (fun _ => ?_) (fun _ => ?_)
    · exact ⟨_, rfl, _, rfl, (by show 3 ≤ sizeLine; decide), fun p hp => q p _ hp (same_upd hp) ⟨_, _, _, upd_same⟩⟩
    · exact ⟨_, rfl, (by show 3 ≤ sizeLine; decide), fun p hp => q p _ hp (same_upd hp) ⟨_, _, _, upd_same⟩⟩
theorem ok_Ltake {f : Addr} {fd : FuncData} (F : Fun K "_law_take" "_law_take" s_Ltake f fd) (T : Txt P w K mg C_Ratio C_BadRatio C_CableError)  :
    FnOk P w K mg base CX0 1 f fd ["_law_pool_here", "_law_many"] sp_Ltake := by
  refine F.ok sc_Ltake (fun vs H Q E h => ?_) (fun cdv A outer s H vs Q E hr h => ?_)
  · obtain ⟨p, many, rfl, _⟩ := h
    rfl
  · obtain ⟨p, many, rfl, ⟨x, y, z, hp⟩, hm, hb, q⟩ := h
    refine ⟨_, (pss_cons (ps_asg (pe_op op_add (pe_ix ix_list (pv 0) pe_int (fun _ _ => rfl)) pe_int) (pg_sub (pv 0) pe_int set_list))
      (pss_cons (ps_if (pt_cmpR op_gt (pe_ix ix_list (pv 0) pe_int (fun _ _ => rfl)) pe_int (nomark _)) (pss_cons (ps_set (i := 2) sc_Ltake.nd rfl (Or.inl rfl) (pe_op op_mod (pe_callTy call_int1 (by rfl) T.n_int (by decide +kernel) (pa_cons (pe_ix ix_list (pv 0) pe_int (fun _ _ => rfl)) pa_nil)) (pv 1)))
      (pss_cons (ps_asg (pe_op op_fdivW (pe_ix ix_list (pv 0) pe_int (fun _ _ => rfl)) (pv 1)) (pg_sub (pv 0) pe_int set_list))
      (pss_one (ps_ret (pv 2))))) pss_nil)
      (pss_cons (ps_set (i := 3) sc_Ltake.nd rfl (Or.inl rfl) (pe_op op_mod (pe_callTy call_int1 (by rfl) T.n_int (by decide +kernel) (pa_cons (pe_op op_mulA (pe_op op_add (pe_ix ix_list (pv 0) pe_int (fun _ _ => rfl)) (pe_op op_mulA pe_int (pe_ix ix_list (pv 0) pe_int (fun _ _ => rfl)))) pe_int) pa_nil)) pe_int))
      (pss_cons (ps_set (i := 3) sc_Ltake.nd rfl (Or.inl rfl) (pe_op op_mod (pe_callTy call_int1 (by rfl) T.n_int (by decide +kernel) (pa_cons (pe_op op_add (pe_op op_mulA (pv 3) pe_int) (pe_op op_mulA pe_int (pe_ix ix_list (pv 0) pe_int (fun _ _ => rfl)))) pa_nil)) pe_int))
      (pss_one (ps_ret (pe_op op_mod (pe_callTy call_int1 (by rfl) T.n_int (by decide +kernel) (pa_cons (pe_op op_fdivW (pv 3) pe_int) pa_nil)) (pv 1)))))))), ?_⟩
    refine ⟨_, rfl, p, _, _, _, rfl, rfl, SqL.of hp, at2, _, _, rfl, rfl, _, rfl, p, _, _, _, rfl, rfl, hp, rfl, ?_⟩
    refine ⟨_, rfl, p, _, _, _, rfl, rfl, SqL.of upd_same, at0, _, _, rfl, rfl, _, rfl, ?_⟩
    refine ite2 (fun _ => ?_) (fun _ => ?_)
    · refine ⟨_, rfl, p, _, _, _, rfl, rfl, SqL.of upd_same, at0, .inl ⟨_, rfl, _, rfl, _, _, rfl, rfl, hm, ?_⟩⟩
      refine ⟨_, rfl, p, _, _, _, rfl, rfl, SqL.of upd_same, at0, _, rfl, _, _, rfl, rfl, wide_div hm hb (by decide) (by decide), _, rfl, p, _, _, _, rfl, rfl, upd_same, rfl, ?_⟩
      exact ⟨_, rfl, q _ _ (Kp.trans Kp.upd Kp.upd) ⟨_, _, _, upd_same⟩ (Int.emod_nonneg _ (by omega)) (Int.emod_lt_of_pos _ hm)⟩
    · refine ⟨_, rfl, p, _, _, _, rfl, rfl, SqL.of upd_same, at1, _, rfl, p, _, _, _, rfl, rfl, SqL.of upd_same, at2, _, _, rfl, rfl, .inl (.inl ⟨by decide, by decide⟩), _, _, rfl, rfl, _, _, rfl, rfl, .inl (.inr ⟨by decide, by decide⟩), .inl ⟨_, rfl, _, _, rfl, rfl, (by show (0 : Int) < 2147483647; decide), ?_⟩⟩
      refine ⟨_, rfl, _, _, rfl, rfl, .inl (.inr ⟨by decide, by decide⟩), _, rfl, p, _, _, _, rfl, rfl, SqL.of upd_same, at2, _, _, rfl, rfl, .inl (.inl ⟨by decide, by decide⟩), _, _, rfl, rfl, .inl ⟨_, rfl, _, _, rfl, rfl, (by show (0 : Int) < 2147483399; decide), ?_⟩⟩
      refine ⟨_, rfl, _, _, rfl, rfl, wide_div (b := 300) (by decide) (by decide) (by decide) (by decide), .inl ⟨_, rfl, _, rfl, _, _, rfl, rfl, hm, ?_⟩⟩
      exact q _ _ Kp.upd ⟨_, _, _, upd_same⟩ (Int.emod_nonneg _ (by omega)) (Int.emod_lt_of_pos _ hm)
theorem okr_Lsame {f : Addr} {fd : FuncData} {j n : Nat} (F : Fun K "_law_same" "_law_same" s_Lsame f fd) (T : Txt P w K mg C_Ratio C_BadRatio C_CableError) (c_Lsame : Cal CX0 P w K mg base j "_law_same" (sp_Lsame K n)) :
    FnOk P w K mg base CX0 (j + 1) f fd ["_law_told", "_law_due"] (sp_Lsame K (n + 1)) := by
  refine F.ok sc_Lsame (fun vs H Q E h => ?_) (fun cdv A outer s H vs Q E hr h => ?_)
  · obtain ⟨x, y, rfl, _⟩ := h
    rfl
  · obtain ⟨x, y, rfl, hv, q⟩ := h
    refine ⟨_, (pss_cons (ps_if (pt_cmpR op_isN (pv 1) pe_non (nomark _)) (pss_one (ps_ret (pe_cmpR op_isN (pv 0) pe_non (nomark _)))) pss_nil)
      (pss_cons (ps_if (pt_cmpR op_isB (pv 1) pe_bl (nomark _)) (pss_one (ps_ret (pe_cmpR op_isB (pv 0) pe_bl (nomark _)))) pss_nil)
      (pss_cons (ps_if (pt_cmpR op_isB (pv 1) pe_bl (nomark _)) (pss_one (ps_ret (pe_cmpR op_isB (pv 0) pe_bl (nomark _)))) pss_nil)
      (pss_cons (ps_if (pt_val (pe_callB call_isi (by rfl) T.n_isinstance (by decide +kernel) (pa_cons (pv 1) (pa_cons (pe_bltn (v := .ty "int") (by rfl) T.n_int (by decide +kernel) rfl) pa_nil)))) (pss_one (ps_ret (pe_and (pe_callB call_isi (by rfl) T.n_isinstance (by decide +kernel) (pa_cons (pv 0) (pa_cons (pe_bltn (v := .ty "int") (by rfl) T.n_int (by decide +kernel) rfl) pa_nil))) (pe_and (pe_not (pe_callB call_isi (by rfl) T.n_isinstance (by decide +kernel) (pa_cons (pv 0) (pa_cons (pe_bltn (v := .ty "bool") (by rfl) T.n_bool (by decide +kernel) rfl) pa_nil)))) (pe_one (pe_cmpR op_eq (pv 0) (pv 1) (nomark _))))))) pss_nil)
      (pss_cons (ps_if (pt_val (pe_callB call_isi (by rfl) T.n_isinstance (by decide +kernel) (pa_cons (pv 1) (pa_cons (pe_bltn (v := .ty "str") (by rfl) T.n_str (by decide +kernel) rfl) pa_nil)))) (pss_one (ps_ret (pe_and (pe_callB call_isi (by rfl) T.n_isinstance (by decide +kernel) (pa_cons (pv 0) (pa_cons (pe_bltn (v := .ty "str") (by rfl) T.n_str (by decide +kernel) rfl) pa_nil))) (pe_one (pe_cmpR op_eq (pv 0) (pv 1) (nomark _)))))) pss_nil)
      (pss_cons (ps_if (PW.pt (pw_and (pt_val (pe_callB call_isi (by rfl) T.n_isinstance (by decide +kernel) (pa_cons (pv 1) (pa_cons (pe_bltn (v := .ty "tuple") (by rfl) T.n_tuple (by decide +kernel) rfl) pa_nil)))) (pw_and1 (pt_not (pt_val (pe_callB call_isi (by rfl) T.n_isinstance (by decide +kernel) (pa_cons (pv 0) (pa_cons (pe_bltn (v := .ty "tuple") (by rfl) T.n_tuple (by decide +kernel) rfl) pa_nil)))))))) (pss_one (ps_ret pe_bl)) pss_nil)
      (pss_cons (ps_if (PW.pt (pw_and (pt_val (pe_callB call_isi (by rfl) T.n_isinstance (by decide +kernel) (pa_cons (pv 1) (pa_cons (pe_bltn (v := .ty "list") (by rfl) T.n_list (by decide +kernel) rfl) pa_nil)))) (pw_and1 (pt_not (pt_val (pe_callB call_isi (by rfl) T.n_isinstance (by decide +kernel) (pa_cons (pv 0) (pa_cons (pe_bltn (v := .ty "list") (by rfl) T.n_list (by decide +kernel) rfl) pa_nil)))))))) (pss_one (ps_ret pe_bl)) pss_nil)
      (pss_cons (ps_if (pt_cmpR op_ne (pe_callB call_len_seq (by rfl) T.n_len PySem.boot_len (pa_cons (pv 0) pa_nil)) (pe_callB call_len_seq (by rfl) T.n_len PySem.boot_len (pa_cons (pv 1) pa_nil)) (nomark _)) (pss_one (ps_ret pe_bl)) pss_nil)
      (pss_cons (ps_for PassesOwn.never rfl (pi_range1 (by rfl) T.n_range (pa_cons (pe_callB call_len_seq (by rfl) T.n_len PySem.boot_len (pa_cons (pv 1) pa_nil)) pa_nil)) (pg_name (i := 2) sc_Lsame.nd rfl (Or.inl rfl))
        (pss_one (ps_if (pt_not (pt_val (pc_c c_Lsame hr (Nat.le_refl _) rfl pass0 (pa_cons (pe_ix ix_seq (pv 0) (pv 2) (fun _ _ => rfl)) (pa_cons (pe_ix ix_seq (pv 1) (pv 2) (fun _ _ => rfl)) pa_nil))))) (pss_one (ps_ret pe_bl)) pss_nil)))
      (pss_one (ps_ret pe_bl))))))))))), ?_⟩
    have kL1 : PySem.W.kitOne K (.type "list") (.type "int") = some false := kit_ty (by decide +kernel)
    have kL2 : PySem.W.kitOne K (.type "list") (.type "str") = some false := kit_ty (by decide +kernel)
    have kL3 : PySem.W.kitOne K (.type "list") (.type "tuple") = some false := kit_ty (by decide +kernel)
    have kL4 : PySem.W.kitOne K (.type "list") (.type "list") = some true := kit_ty (by decide +kernel)
    have kT1 : PySem.W.kitOne K (.type "tuple") (.type "int") = some false := kit_ty (by decide +kernel)
    have kT2 : PySem.W.kitOne K (.type "tuple") (.type "str") = some false := kit_ty (by decide +kernel)
    have kT3 : PySem.W.kitOne K (.type "tuple") (.type "tuple") = some true := kit_ty (by decide +kernel)
    have kT4 : PySem.W.kitOne K (.type "tuple") (.type "list") = some false := kit_ty (by decide +kernel)
    have hv' : (flatD x = true ∧ x = y) ∨ (∃ m, n = m + 1 ∧ ∃ (a b : Addr) (xs ys : List V), x = .ref a ∧ y = .ref b ∧ SqL K H a xs ∧ SqL K H b ys ∧ xs.length ≤ sizeLine ∧ Pairs (SameV K H m) xs ys) ∨
        (∃ m, n = m + 1 ∧ ∃ (a b : Addr) (xs ys : List V), x = .ref a ∧ y = .ref b ∧ SqT K H a xs ∧ SqT K H b ys ∧ xs.length ≤ sizeLine ∧ Pairs (SameV K H m) xs ys) := by
      cases n with
      | zero => exact .inl hv
      | succ m =>
        rcases hv with h | h | h
        · exact .inl h
        · exact .inr (.inl ⟨m, rfl, h⟩)
        · exact .inr (.inr ⟨m, rfl, h⟩)
    rcases hv' with ⟨hf, e⟩ | ⟨m, rfl, a, b, xs, ys, rfl, rfl, ha, hb, hl, hp⟩ | ⟨m, rfl, a, b, xs, ys, rfl, rfl, ha, hb, hl, hp⟩
    · subst e
      cases x with
      | non => exact ⟨_, rfl, rfl, _, rfl, iteDT rfl ⟨_, rfl, rfl, q⟩⟩
      | bl b =>
        refine ⟨_, rfl, rfl, _, rfl, iteDF (by intro z; cases z) ?_⟩
        cases b with
        | true => exact ⟨_, rfl, _, rfl, _, rfl, iteDT rfl ⟨_, rfl, _, rfl, q⟩⟩
        | false => exact ⟨_, rfl, _, rfl, _, rfl, iteDF (by intro z; cases z) ⟨_, rfl, _, rfl, _, rfl, iteDT rfl ⟨_, rfl, _, rfl, q⟩⟩⟩
      | int i =>
        refine ⟨_, rfl, rfl, _, rfl, iteDF (by intro z; cases z) ?_⟩
        refine ⟨_, rfl, _, rfl, _, rfl, iteDF (by intro z; cases z) ?_⟩
        refine ⟨_, rfl, _, rfl, _, rfl, iteDF (by intro z; cases z) ?_⟩
        refine ⟨_, rfl, _, _, _, .type "int", true, rfl, .ty "int", .base (.int i), kit_ty (by decide +kernel), true, rfl, iteT ?_⟩
        refine ⟨_, rfl, _, _, _, .type "int", true, rfl, .ty "int", .base (.int i), kit_ty (by decide +kernel), true, rfl, iteT ?_⟩
        refine ⟨_, rfl, _, _, _, .type "bool", false, rfl, .ty "bool", .base (.int i), kit_ty (by decide +kernel), false, rfl, true, rfl, iteT ?_⟩
        refine ⟨_, rfl, _, rfl, rfl, ?_⟩
        rw [decide_eq_true (show V.int i = V.int i from rfl)]
        exact q
      | str i =>
        refine ⟨_, rfl, rfl, _, rfl, iteDF (by intro z; cases z) ?_⟩
        refine ⟨_, rfl, _, rfl, _, rfl, iteDF (by intro z; cases z) ?_⟩
        refine ⟨_, rfl, _, rfl, _, rfl, iteDF (by intro z; cases z) ?_⟩
        refine ⟨_, rfl, _, _, _, .type "int", false, rfl, .ty "int", .base (.str i), kit_ty (by decide +kernel), false, rfl, iteF ?_⟩
        refine ⟨_, rfl, _, _, _, .type "str", true, rfl, .ty "str", .base (.str i), kit_ty (by decide +kernel), true, rfl, iteT ?_⟩
        refine ⟨_, rfl, _, _, _, .type "str", true, rfl, .ty "str", .base (.str i), kit_ty (by decide +kernel), true, rfl, iteT ?_⟩
        refine ⟨_, rfl, _, rfl, rfl, ?_⟩
        rw [decide_eq_true (show V.str i = V.str i from rfl)]
        exact q
      | _ => exact absurd (show false = true from hf) Bool.false_ne_true
    · refine ⟨_, rfl, rfl, _, rfl, iteDF (by intro z; cases z) ?_⟩
      refine ⟨_, rfl, _, rfl, _, rfl, iteDF (by intro z; cases z) ?_⟩
      refine ⟨_, rfl, _, rfl, _, rfl, iteDF (by intro z; cases z) ?_⟩
      refine ⟨_, rfl, _, _, _, .type "int", false, rfl, .ty "int", tyx_list hb, kL1, false, rfl, iteF ?_⟩
      refine ⟨_, rfl, _, _, _, .type "str", false, rfl, .ty "str", tyx_list hb, kL2, false, rfl, iteF ?_⟩
      refine ⟨_, rfl, _, _, _, .type "tuple", false, rfl, .ty "tuple", tyx_list hb, kL3, false, rfl, iteF (iteF ?_)⟩
      refine ⟨_, rfl, _, _, _, .type "list", true, rfl, .ty "list", tyx_list hb, kL4, true, rfl, iteT ?_⟩
      refine ⟨_, rfl, _, _, _, .type "list", true, rfl, .ty "list", tyx_list ha, kL4, true, rfl, iteF ?_⟩
      refine ⟨_, rfl, a, _, rfl, .inl ha, _, rfl, b, _, rfl, .inl hb, rfl, _, rfl, ?_⟩
      rw [decide_eq_true (show V.int (xs.length : Nat) = V.int (ys.length : Nat) by rw [hp.1])]
      refine iteF ?_
      have hy : ys.length ≤ 16777216 := by rw [← hp.1, ← sizeLine_eq]; exact hl
      refine ⟨_, rfl, b, _, rfl, .inl hb, _, rfl, by omega, by omega, for_range (lo := 0) (n := ((ys.length : Nat) : Int).toNat) (fun i σ H' => H' = H ∧ ∃ v : Option V, σ = [some (.ref a), some (.ref b), v]) ⟨rfl, none, rfl⟩ ?_ ?_⟩
      · rintro i σ H' hi ⟨rfl, v, rfl⟩
        have i1 : i < ys.length := by omega
        have i2 : i < xs.length := by rw [hp.1]; exact i1
        have ex : xs[i]? = some xs[i] := List.getElem?_eq_getElem i2
        have ey : ys[i]? = some ys[i] := List.getElem?_eq_getElem i1
        have ex' := atI_nat ex
        have ey' := atI_nat ey
        rw [show ((i : Nat) : Int) = 0 + ((i : Nat) : Int) by omega] at ex' ey'
        refine ⟨_, rfl, _, rfl, .inl ⟨a, _, _, _, rfl, rfl, ha, ex', _, rfl, _, rfl, .inl ⟨b, _, _, _, rfl, rfl, hb, ey', _, _, rfl, hp.2 i _ _ ex ey, true, rfl, iteF ?_⟩⟩⟩
        exact ⟨rfl, _, rfl⟩
      · rintro σ H' ⟨rfl, v, rfl⟩
        exact q
    · refine ⟨_, rfl, rfl, _, rfl, iteDF (by intro z; cases z) ?_⟩
      refine ⟨_, rfl, _, rfl, _, rfl, iteDF (by intro z; cases z) ?_⟩
      refine ⟨_, rfl, _, rfl, _, rfl, iteDF (by intro z; cases z) ?_⟩
      refine ⟨_, rfl, _, _, _, .type "int", false, rfl, .ty "int", tyx_tup hb, kT1, false, rfl, iteF ?_⟩
      refine ⟨_, rfl, _, _, _, .type "str", false, rfl, .ty "str", tyx_tup hb, kT2, false, rfl, iteF ?_⟩
      refine ⟨_, rfl, _, _, _, .type "tuple", true, rfl, .ty "tuple", tyx_tup hb, kT3, true, rfl, iteT ?_⟩
      refine ⟨_, rfl, _, _, _, .type "tuple", true, rfl, .ty "tuple", tyx_tup ha, kT3, true, rfl, iteF ?_⟩
      refine ⟨_, rfl, _, _, _, .type "list", false, rfl, .ty "list", tyx_tup hb, kT4, false, rfl, iteF (iteF ?_)⟩
      refine ⟨_, rfl, a, _, rfl, .inr ha, _, rfl, b, _, rfl, .inr hb, rfl, _, rfl, ?_⟩
      rw [decide_eq_true (show V.int (xs.length : Nat) = V.int (ys.length : Nat) by rw [hp.1])]
      refine iteF ?_
      have hy : ys.length ≤ 16777216 := by rw [← hp.1, ← sizeLine_eq]; exact hl
      refine ⟨_, rfl, b, _, rfl, .inr hb, _, rfl, by omega, by omega, for_range (lo := 0) (n := ((ys.length : Nat) : Int).toNat) (fun i σ H' => H' = H ∧ ∃ v : Option V, σ = [some (.ref a), some (.ref b), v]) ⟨rfl, none, rfl⟩ ?_ ?_⟩
      · rintro i σ H' hi ⟨rfl, v, rfl⟩
        have i1 : i < ys.length := by omega
        have i2 : i < xs.length := by rw [hp.1]; exact i1
        have ex : xs[i]? = some xs[i] := List.getElem?_eq_getElem i2
        have ey : ys[i]? = some ys[i] := List.getElem?_eq_getElem i1
        have ex' := atI_nat ex
        have ey' := atI_nat ey
        rw [show ((i : Nat) : Int) = 0 + ((i : Nat) : Int) by omega] at ex' ey'
        refine ⟨_, rfl, _, rfl, .inr (.inl ⟨a, _, _, _, rfl, rfl, ha, ex', _, rfl, _, rfl, .inr (.inl ⟨b, _, _, _, rfl, rfl, hb, ey', _, _, rfl, hp.2 i _ _ ex ey, true, rfl, iteF ?_⟩)⟩)⟩
        exact ⟨rfl, _, rfl⟩
      · rintro σ H' ⟨rfl, v, rfl⟩
        exact q
theorem ok_Lsame {f : Addr} {fd : FuncData} (F : Fun K "_law_same" "_law_same" s_Lsame f fd) (T : Txt P w K mg C_Ratio C_BadRatio C_CableError) (m : mg "_law_same" = some (.ref f)) (kp : PySem.W.keepIn K (.ref f) = true) (b : Binds K fd ["_law_told", "_law_due"] []) :
    ∀ n : Nat, FnOk P w K mg base CX0 (n + 1) f fd ["_law_told", "_law_due"] (sp_Lsame K n)
  | 0 => F.ok sc_Lsame (fun _ _ _ _ h => False.elim h) (fun _ _ _ _ _ _ _ _ _ h => False.elim h)
  | n + 1 => okr_Lsame F T (cal_mk (ok_Lsame F T m kp b n) m kp b)
theorem num_step {a : Int} {r : Int} {k : Nat} (ha : 0 ≤ a) (hb : a < 30 * 100000000 ^ k) (h0 : 0 ≤ r) (h1 : r < 100000000) : 0 ≤ a * 100000000 + r ∧ a * 100000000 + r < 30 * 100000000 ^ (k + 1) := by
  rw [Int.pow_succ, ← Int.mul_assoc]
  omega
theorem pow_leb {k b : Nat} (h : k ≤ b) (_ : b ≤ 6) : (100000000 : Int) ^ k ≤ 100000000 ^ b := by
  have e : ∀ n : Nat, (100000000 : Int) ^ n = ((100000000 ^ n : Nat) : Int) := fun n => (Int.natCast_pow 100000000 n).symm
  rw [e, e]
  exact Int.ofNat_le.mpr (Nat.pow_le_pow_right (by decide) h)
theorem ok_Lnumber {f : Addr} {fd : FuncData} (F : Fun K "_law_number" "_law_number" s_Lnumber f fd) (T : Txt P w K mg C_Ratio C_BadRatio C_CableError) (c_Ltake : Cal CX0 P w K mg base 1 "_law_take" sp_Ltake) :
    FnOk P w K mg base CX0 2 f fd ["_law_pool_here", "_law_blocks"] sp_LnumberN := by
  refine F.ok sc_Lnumber (fun vs H Q E h => ?_) (fun cdv A outer s H vs Q E hr h => ?_)
  · obtain ⟨p, b, rfl, _⟩ := h
    rfl
  · obtain ⟨p, b, rfl, hb6, hp, q⟩ := h
    refine ⟨_, (pss_cons (ps_set (i := 2) sc_Lnumber.nd rfl (Or.inl rfl) (pc_c c_Ltake hr (by decide) rfl pass0 (pa_cons (pv 0) (pa_cons pe_int pa_nil))))
      (pss_cons (ps_for PassesOwn.never rfl (pi_range1 (by rfl) T.n_range (pa_cons (pc_c c_Ltake hr (by decide) rfl pass0 (pa_cons (pv 0) (pa_cons (pe_op op_add (pv 1) pe_int) pa_nil))) pa_nil)) (pg_name (i := 3) sc_Lnumber.nd rfl (Or.inl rfl))
        (pss_one (ps_set (i := 2) sc_Lnumber.nd rfl (Or.inl rfl) (pe_op op_add (pe_op op_mulA (pv 2) pe_int) (pc_c c_Ltake hr (by decide) rfl pass0 (pa_cons (pv 0) (pa_cons pe_int pa_nil)))))))
      (pss_cons (ps_if (pt_cmpR op_eq (pc_c c_Ltake hr (by decide) rfl pass0 (pa_cons (pv 0) (pa_cons pe_int pa_nil))) pe_int (nomark _)) (pss_one (ps_ret (pe_op op_sub pe_int (pv 2)))) pss_nil)
      (pss_one (ps_ret (pv 2)))))), ?_⟩
    refine ⟨_, rfl, p, 30, rfl, hp, by decide, by decide, fun H1 n k1 p1 n0 n1 => ?_⟩
    refine ⟨_, rfl, _, rfl, _, _, rfl, rfl, p, _, rfl, p1, by omega, by omega, fun H2 r k2 p2 r0 r1 => ?_⟩
    have fin : ∀ (i : Nat) (H' : Hp) (m : Int) (v : Option V), i ≤ b → Kp p H H' → PoolAt H' p → 0 ≤ m → m < 30 * 100000000 ^ i →
        tSeq (tIfS (tTest (tOp rEq (tCall sp_Ltake [] E0 (tCons (tVar 0) (tCons (tC (.int 2)) tNil))) (tC (.int 1)))) (tRet (tOp (rI0 fun i j => .int (i - j)) (tC (.int 0)) (tVar 2))) tNext) (tRet (tVar 2)) { nx := fun _ H' => Q .non H', rt := Q } [some (.ref p), some (.int (b : Int)), some (.int m), v] H' := by
      intro i H' m v hi hk hp' m0 m1
      have m2 : m < 30 * 100000000 ^ b := Int.lt_of_lt_of_le m1 (Int.mul_le_mul_of_nonneg_left (pow_leb hi hb6) (by decide))
      refine ⟨_, rfl, p, 2, rfl, hp', by decide, by decide, fun H3 r k3 p3 _ _ => ⟨rfl, _, rfl, ?_⟩⟩
      refine ite2 (fun _ => ?_) (fun _ => ?_)
      · exact ⟨_, rfl, _, _, rfl, rfl, q _ _ (hk.trans k3) p3 (by omega) (by omega)⟩
      · exact ⟨_, rfl, q _ _ (hk.trans k3) p3 (by omega) (by omega)⟩
    refine ⟨r, rfl, by omega, by omega, for_range (lo := 0) (n := r.toNat) (fun i σ H' => ∃ (m : Int) (v : Option V), σ = [some (.ref p), some (.int (b : Int)), some (.int m), v] ∧ Kp p H H' ∧ PoolAt H' p ∧ 0 ≤ m ∧ m < 30 * 100000000 ^ i)
      ⟨n, none, rfl, k1.trans k2, p2, n0, by simpa using n1⟩ ?_ ?_⟩
    · rintro i σ H' hi ⟨m, v, rfl, hk, hp', m0, m1⟩
      refine ⟨_, rfl, _, _, rfl, rfl, .inl (.inr ⟨by decide, by decide⟩), _, rfl, p, _, rfl, hp', by decide, by decide, fun H3 r k3 p3 r0 r1 => ?_⟩
      have st := num_step m0 m1 r0 r1
      exact ⟨_, _, rfl, rfl, _, _, rfl, hk.trans k3, p3, st.1, st.2⟩
    · rintro σ H' ⟨m, v, rfl, hk, hp', m0, m1⟩
      exact fin _ H' m v (by omega) hk hp' m0 m1
theorem ok_Ldivisor {f : Addr} {fd : FuncData} (F : Fun K "_law_divisor" "_law_divisor" s_Ldivisor f fd) (T : Txt P w K mg C_Ratio C_BadRatio C_CableError)  :
    FnOk P w K mg base CX0 1 f fd ["_law_one", "_law_two"] sp_LdivisorP := by
  refine F.ok sc_Ldivisor (fun vs H Q E h => ?_) (fun cdv A outer s H vs Q E hr h => ?_)
  · obtain ⟨a, b, rfl, _⟩ := h
    rfl
  · obtain ⟨a, b, rfl, a0, b0, hp, q⟩ := h
    refine ⟨_, (pss_cons (ps_for PassesOwn.never rfl (pi_range1 (by rfl) T.n_range (pa_cons pe_int pa_nil)) (pg_name (i := 2) sc_Ldivisor.nd rfl (Or.inl rfl))
        (pss_cons (ps_if (pt_cmpR op_eq (pv 1) pe_int (nomark _)) (pss_one ps_break) pss_nil)
      (pss_cons (ps_set (i := 3) sc_Ldivisor.nd rfl (Or.inl rfl) (pe_op op_mod (pe_callTy call_int1 (by rfl) T.n_int (by decide +kernel) (pa_cons (pv 0) pa_nil)) (pv 1)))
      (pss_cons (ps_set (i := 0) sc_Ldivisor.nd rfl (Or.inl rfl) (pv 1))
      (pss_one (ps_set (i := 1) sc_Ldivisor.nd rfl (Or.inl rfl) (pv 3)))))))
      (pss_one (ps_ret (pv 0)))), ?_⟩
    refine ⟨700, rfl, by decide, by decide, for_range (lo := 0) (n := 700) (fun i σ H' => ∃ (a' b' : Int) (v u : Option V), σ = [some (.int a'), some (.int b'), v, u] ∧ H' = H ∧ Euc (Nat.gcd a.natAbs b.natAbs) i a' b')
      ⟨a, b, none, none, rfl, rfl, a0, b0, rfl, .inr (.inl ⟨rfl, hp⟩)⟩ ?_ ?_⟩
    · rintro i σ H' hi ⟨a', b', v, u, rfl, rfl, eu⟩
      refine ⟨_, rfl, rfl, _, rfl, ?_⟩
      refine ite2 (fun hb => ?_) (fun hb => ?_)
      · have hb0 : b' = 0 := V.int.inj (of_decide_eq_true hb)
        subst hb0
        have e := eu.end_
        subst e
        exact ⟨_, rfl, q⟩
      · have hb0 : b' ≠ 0 := fun z => hb (by rw [z]; rfl)
        refine ⟨_, rfl, .inl ⟨_, rfl, _, rfl, _, _, rfl, rfl, (by show (0 : Int) < b'; have := eu.b0; omega), ?_⟩⟩
        exact ⟨_, rfl, _, rfl, _, _, _, _, rfl, rfl, eu.step hb0⟩
    · rintro σ H' ⟨a', b', v, u, rfl, rfl, eu⟩
      have hb0 := eu.done (by decide)
      subst hb0
      have e := eu.end_
      subst e
      exact ⟨_, rfl, q⟩
theorem ok_Lsigns {f : Addr} {fd : FuncData} (F : Fun K "_law_signs" "_law_signs" s_Lsigns f fd) (T : Txt P w K mg C_Ratio C_BadRatio C_CableError)  :
    FnOk P w K mg base CX0 1 f fd [] sp_Lsigns := by
  refine F.ok sc_Lsigns (fun vs H Q E h => ?_) (fun cdv A outer s H vs Q E hr h => ?_)
  · obtain ⟨rfl, _⟩ := h
    rfl
  · obtain ⟨rfl, q⟩ := h
    refine ⟨_, (pss_cons (ps_set (i := 0) sc_Lsigns.nd rfl (Or.inl rfl) pe_str)
      (pss_one (ps_ret (pe_op op_add_str (pv 0) pe_str)))), ?_⟩
    exact ⟨_, rfl, _, _, rfl, rfl, (by decide +kernel), q⟩
theorem ok_Lbent {f : Addr} {fd : FuncData} (F : Fun K "_law_bent" "_law_bent" s_Lbent f fd) (T : Txt P w K mg C_Ratio C_BadRatio C_CableError) (c_Ltake : Cal CX0 P w K mg base 1 "_law_take" sp_Ltake) :
    FnOk P w K mg base CX0 2 f fd ["_law_pool_here", "_law_text", "_law_signs_here"] sp_LbentT := by
  refine F.ok sc_Lbent (fun vs H Q E h => ?_) (fun cdv A outer s H vs Q E hr h => ?_)
  · obtain ⟨p, y, g, rfl, _⟩ := h
    rfl
  · obtain ⟨p, y, g, rfl, hp, g0, g1, y1, q⟩ := h
    refine ⟨_, (pss_cons (ps_set (i := 3) sc_Lbent.nd rfl (Or.inl rfl) (pc_c c_Ltake hr (by decide) rfl pass0 (pa_cons (pv 0) (pa_cons (pe_op op_add (pe_callB call_len_str (by rfl) T.n_len PySem.boot_len (pa_cons (pv 1) pa_nil)) pe_int) pa_nil))))
      (pss_cons (ps_set (i := 4) sc_Lbent.nd rfl (Or.inl rfl) (pe_ix ix_str (pv 2) (pc_c c_Ltake hr (by decide) rfl pass0 (pa_cons (pv 0) (pa_cons (pe_callB call_len_str (by rfl) T.n_len PySem.boot_len (pa_cons (pv 2) pa_nil)) pa_nil))) (fun _ _ => rfl)))
      (pss_cons (ps_set (i := 5) sc_Lbent.nd rfl (Or.inl rfl) (pc_c c_Ltake hr (by decide) rfl pass0 (pa_cons (pv 0) (pa_cons pe_int pa_nil))))
      (pss_cons (ps_if (pt_cmpR op_eq (pv 5) pe_int (nomark _)) (pss_one (ps_ret (pe_op op_add_str (pe_op op_add_str (pe_slice sl_str (pv 1) po_none (po_some (pv 3))) (pv 4)) (pe_slice sl_str (pv 1) (po_some (pv 3)) po_none)))) pss_nil)
      (pss_cons (ps_if (pt_cmpR op_eq (pv 5) pe_int (nomark _)) (pss_one (ps_ret (pe_op op_add_str (pe_op op_add_str (pe_slice sl_str (pv 1) po_none (po_some (pv 3))) (pv 4)) (pe_slice sl_str (pv 1) (po_some (pe_op op_add (pv 3) pe_int)) po_none)))) pss_nil)
      (pss_one (ps_ret (pe_op op_add_str (pe_slice sl_str (pv 1) po_none (po_some (pv 3))) (pe_slice sl_str (pv 1) (po_some (pe_op op_add (pv 3) pe_int)) po_none))))))))), ?_⟩
    have big : ∀ n : Nat, n ≤ 100000 → n ≤ sizeLine := fun n h => small_line h
    have nb : ∀ r : Int, 0 ≤ r → r ≤ 100000 → r.natAbs < 2 ^ 300 := fun r h0 h1 => Nat.lt_of_lt_of_le (by omega : r.natAbs < 2 ^ 20) (by decide)
    refine ⟨_, rfl, _, rfl, y, rfl, big _ (by omega), _, _, rfl, rfl, p, _, rfl, hp, by omega, nb _ (by omega) (by omega), fun H1 a k1 p1 a0 a1 => ?_⟩
    refine ⟨_, rfl, _, rfl, _, rfl, g, rfl, big _ (by omega), p, _, rfl, p1, by omega, nb _ (by omega) (by omega), fun H2 b k2 p2 b0 b1 => ?_⟩
    obtain ⟨c, hc⟩ := atI_in (xs := g.cps.toList) b0 (by rw [Array.length_toList]; exact b1)
    refine ⟨g, b, c, rfl, rfl, big _ (by omega), hc, ?_⟩
    refine ⟨_, rfl, p, 3, rfl, p2, by decide, by decide, fun H3 wy k3 p3 w0 w1 => ?_⟩
    have kk := (k1.trans k2).trans k3
    have c1 : ∀ lo hi, (cutS y lo hi).length ≤ y.length := fun lo hi => cut_len y lo hi
    have one : (⟨#[c]⟩ : Str).length = 1 := rfl
    refine ⟨_, rfl, rfl, _, rfl, ite2 (fun _ => ?_) (fun _ => ?_)⟩
    · have x1 := cut_lo y a0
      have x2 := cut_hi y a0
      exact ⟨_, rfl, _, rfl, _, rfl, y, rfl, big _ (by omega), _, rfl, _, _, rfl, rfl, big _ (by omega), _, rfl, _, rfl, _, rfl, y, rfl, big _ (by omega), _, _, rfl, rfl, big _ (by rw [app_len]; omega), q _ _ kk p3 (by rw [app_len, app_len]; omega)⟩
    · have x1 := cut_lo y a0
      have x2 := cut_hi y (show 0 ≤ a + 1 by omega)
      refine ⟨_, rfl, rfl, _, rfl, ite2 (fun _ => ?_) (fun _ => ?_)⟩
      · exact ⟨_, rfl, _, rfl, _, rfl, y, rfl, big _ (by omega), _, rfl, _, _, rfl, rfl, big _ (by omega), _, rfl, _, rfl, _, _, rfl, rfl, _, rfl, y, rfl, big _ (by omega), _, _, rfl, rfl, big _ (by rw [app_len]; omega), q _ _ kk p3 (by rw [app_len, app_len]; omega)⟩
      · exact ⟨_, rfl, _, rfl, _, rfl, y, rfl, big _ (by omega), _, rfl, _, rfl, _, _, rfl, rfl, _, rfl, y, rfl, big _ (by omega), _, _, rfl, rfl, big _ (by omega), q _ _ kk p3 (by rw [app_len]; omega)⟩
theorem ok_Lany {f : Addr} {fd : FuncData} (F : Fun K "_law_any" "_law_any" s_Lany f fd) (T : Txt P w K mg C_Ratio C_BadRatio C_CableError) (c_Ltake : Cal CX0 P w K mg base 1 "_law_take" sp_Ltake) :
    FnOk P w K mg base CX0 2 f fd ["_law_pool_here", "_law_signs_here"] sp_Lany := by
  refine F.ok sc_Lany (fun vs H Q E h => ?_) (fun cdv A outer s H vs Q E hr h => ?_)
  · obtain ⟨p, g, rfl, _⟩ := h
    rfl
  · obtain ⟨p, g, rfl, hp, g0, g1, q⟩ := h
    refine ⟨_, (pss_one (ps_ret (pe_bm PySem.F.plainAttrs_str PySem.F.slot_str_join PySem.F.type_str_join mt_join pe_str (pa_cons (pe_lc (own := [("_law_k", 2)]) (g := (gName 2)) (tt := tYes) rfl sc_Lany.nd (pi_range1 (by rfl) T.n_range (pa_cons (pc_c c_Ltake hr (by decide) rfl pass0 (pa_cons (pv 0) (pa_cons pe_int pa_nil))) pa_nil)) (blkOk_by (own := [("_law_k", 2)]) (N := ["_law_pool_here", "_law_signs_here", "_law_k"]) (sc := defScope s_Lany) (by decide +kernel)) (fun _ _ _ _ _ => (pg_name (i := 2) sc_Lany.nd rfl (Or.inl rfl))) (fun _ _ _ _ _ => pts_nil) (fun _ _ _ _ _ => (pe_ix ix_str (pv 1) (pc_c c_Ltake hr (by decide) rfl pass0 (pa_cons (pv 0) (pa_cons (pe_callB call_len_str (by rfl) T.n_len PySem.boot_len (pa_cons (pv 1) pa_nil)) pa_nil))) (fun _ _ => rfl)))) pa_nil)))), ?_⟩
    have nb : ∀ r : Int, 0 ≤ r → r ≤ 100000 → r.natAbs < 2 ^ 300 := fun r h0 h1 => Nat.lt_of_lt_of_le (by omega : r.natAbs < 2 ^ 20) (by decide)
    refine ⟨rfl, _, rfl, p, 41, rfl, hp, by decide, by decide, fun H2 r kk2 p2 r0 r1 => ?_⟩
    refine ⟨r, rfl, by omega, by omega, fun D hD => lc_range (lo := 0) (n := r.toNat) (fun i H' => Kp p H2 H' ∧ PoolAt H' p ∧ ∃ ys : List Str, ys.length = i ∧ (∀ y ∈ ys, y.length = 1) ∧ H' D = some (.lst (ys.map V.str)))
      ⟨Kp.of (same_upd hD), p2.same (same_upd hD), [], rfl, (fun _ z => by cases z), upd_same⟩ ?_ ?_⟩
    · rintro i H' hi ⟨kk3, p3, ys, e1, e2, hD1⟩
      refine ⟨rfl, tyes ⟨_, rfl, _, rfl, _, rfl, g, rfl, small_line (by omega), p, _, rfl, p3, by omega, nb _ (by omega) (by omega), fun H4 t kk4 p4 t0 t1 => ?_⟩⟩
      obtain ⟨c, hc⟩ := sign_at t0 t1
      refine ⟨g, t, c, rfl, rfl, small_line (by omega), hc, ?_⟩
      have nD := pool_ne p2 hD
      refine ⟨_, kk4 _ _ nD hD1, small1000 (by rw [List.length_map]; omega), kp_app (kk3.trans kk4) hD, pool_at p4 nD, ys ++ [⟨#[c]⟩], ?_, fun y hy => ?_, ?_⟩
      · rw [List.length_append, e1]
        rfl
      · rw [List.mem_append, List.mem_singleton] at hy
        rcases hy with hy | rfl
        · exact e2 y hy
        · rfl
      · rw [upd_same, List.map_append]
        rfl
    · rintro H3 ⟨kk3, p3, ys, e1, e2, hD1⟩
      have e3 : ("" : Str).length = 0 := by decide +kernel
      have hs := sum1 e2
      refine ⟨_, D, ys, rfl, rfl, .inl (SqL.of hD1), by rw [hs, e3]; omega, q _ _ (kk2.trans kk3) ?_⟩
      have z := join_le "" ys
      rw [hs, e3] at z
      omega
theorem ok_Lbig {f : Addr} {fd : FuncData} (F : Fun K "_law_big" "_law_big" s_Lbig f fd) (T : Txt P w K mg C_Ratio C_BadRatio C_CableError) (c_Lnumber : Cal CX0 P w K mg base 2 "_law_number" sp_LnumberN) (c_Ltake : Cal CX0 P w K mg base 1 "_law_take" sp_Ltake) :
    FnOk P w K mg base CX0 3 f fd ["_law_pool_here"] sp_Lbig := by
  refine F.ok sc_Lbig (fun vs H Q E h => ?_) (fun cdv A outer s H vs Q E hr h => ?_)
  · obtain ⟨p, rfl, _⟩ := h
    rfl
  · obtain ⟨p, rfl, hp, q⟩ := h
    refine ⟨_, (pss_cons (ps_set (i := 1) sc_Lbig.nd rfl (Or.inl rfl) (pc_c c_Lnumber hr (by decide) rfl pass0 (pa_cons (pv 0) (pa_cons pe_int pa_nil))))
      (C8.pss_cut (ps_if (pt_cmpR op_eq (pc_c c_Ltake hr (by decide) rfl pass0 (pa_cons (pv 0) (pa_cons pe_int pa_nil))) pe_int (nomark _)) (pss_cons (ps_set (i := 1) sc_Lbig.nd rfl (Or.inl rfl) (pc_c c_Ltake hr (by decide) rfl pass0 (pa_cons (pv 0) (pa_cons (pe_op op_pow pe_int pe_int) pa_nil))))
      (pss_one (ps_if (pt_cmpR op_eq (pc_c c_Ltake hr (by decide) rfl pass0 (pa_cons (pv 0) (pa_cons pe_int pa_nil))) pe_int (nomark _)) (pss_one (ps_set (i := 1) sc_Lbig.nd rfl (Or.inl rfl) (pe_op op_sub pe_int (pv 1)))) pss_nil))) pss_nil)
      (pss_one (ps_ret (pv 1))))), ?_⟩
    refine ⟨_, rfl, p, 6, rfl, by decide, hp, fun H1 n k1 p1 n0 n1 => ?_⟩
    refine ⟨fun σ' H' => ∃ m : Int, σ' = [some (.ref p), some (.int m)] ∧ m.natAbs < 10 ^ 60 ∧ Kp p H H', ?_, ?_⟩
    · refine ⟨_, rfl, p, 3, rfl, p1, by decide, by decide, fun H2 r k2 p2 r0 r1 => ⟨rfl, _, rfl, iteB (fun _ => ?_) (fun _ => ⟨n, rfl, by omega, k1.trans k2⟩)⟩⟩
      refine ⟨_, rfl, _, _, rfl, rfl, ⟨by decide, by decide, by decide⟩, p, _, rfl, p2, by decide, by decide, fun H3 t k3 p3 t0 t1 => ?_⟩
      have t2 : t < 10 ^ 58 := t1
      refine ⟨_, rfl, p, 2, rfl, p3, by decide, by decide, fun H4 b k4 p4 b0 b1 => ⟨rfl, _, rfl, iteB (fun _ => ?_) (fun _ => ?_)⟩⟩
      · exact ⟨_, rfl, _, _, rfl, rfl, _, rfl, by omega, ((k1.trans k2).trans k3).trans k4⟩
      · exact ⟨t, rfl, by omega, ((k1.trans k2).trans k3).trans k4⟩
    rintro σ' H' ⟨m, rfl, hm, km⟩
    exact ⟨_, rfl, q _ m km hm⟩
theorem ok_Lwritten {f : Addr} {fd : FuncData} (F : Fun K "_law_written" "_law_written" s_Lwritten f fd) (T : Txt P w K mg C_Ratio C_BadRatio C_CableError)  :
    FnOk P w K mg base CX0 1 f fd ["_law_num", "_law_den"] sp_Lwr := by
  refine F.ok sc_Lwritten (fun vs H Q E h => ?_) (fun cdv A outer s H vs Q E hr h => ?_)
  · obtain ⟨n, d, rfl, _⟩ := h
    rfl
  · obtain ⟨n, d, rfl, hn, hd, q⟩ := h
    refine ⟨_, (pss_cons (ps_if (pt_cmpR op_eq (pv 1) pe_int (nomark _)) (pss_one (ps_ret (pe_callTy call_str_int (by rfl) T.n_str (by decide +kernel) (pa_cons (pv 0) pa_nil)))) pss_nil)
      (pss_one (ps_ret (pe_op op_add_str (pe_op op_add_str (pe_callTy call_str_int (by rfl) T.n_str (by decide +kernel) (pa_cons (pv 0) pa_nil)) pe_str) (pe_callTy call_str_int (by rfl) T.n_str (by decide +kernel) (pa_cons (pv 1) pa_nil)))))), ?_⟩
    have big : ∀ i : Int, i.natAbs < 10 ^ 100 → i.natAbs < 10 ^ 500 := fun i h => Nat.lt_of_lt_of_le h (Nat.pow_le_pow_right (by decide) (by decide))
    have ln := SI_len (by decide) hn
    have ld := SI_len (by decide) hd
    have e1 : ("/" : Str).length = 1 := by decide +kernel
    unfold wr at q
    refine ⟨_, rfl, rfl, _, rfl, iteB (fun h1 => ?_) (fun h1 => ?_)⟩
    · rw [if_pos (V.int.inj (of_decide_eq_true h1))] at q
      exact ⟨_, rfl, _, rfl, log_small (big _ hn), q⟩
    · have e : ¬ d = 1 := fun z => of_decide_eq_false h1 (by rw [z])
      rw [if_neg e] at q
      exact ⟨_, rfl, _, rfl, log_small (big _ hn), _, _, rfl, rfl, small_line (by show (SI n).length + _ ≤ _; omega), _, rfl, _, rfl, log_small (big _ hd), _, _, rfl, rfl, small_line (by rw [Str.length_append]; show (SI n).length + _ + (SI d).length ≤ _; omega), q⟩
theorem ok_Ldigits {f : Addr} {fd : FuncData} (F : Fun K "_law_digits" "_law_digits" s_Ldigits f fd) (T : Txt P w K mg C_Ratio C_BadRatio C_CableError)  :
    FnOk P w K mg base CX0 1 f fd ["_law_part"] sp_Ldig := by
  refine F.ok sc_Ldigits (fun vs H Q E h => ?_) (fun cdv A outer s H vs Q E hr h => ?_)
  · obtain ⟨y, rfl, _⟩ := h
    rfl
  · obtain ⟨y, rfl, hl, q1, q2⟩ := h
    refine ⟨_, (C8.pss_cut (ps_if (PW.pt (pw_or (pt_cmpR op_eq (pv 0) pe_str (nomark _)) (pw_or1 (PW.pt (pw_and (pt_cmpR op_gt (pe_callB call_len_str (by rfl) T.n_len PySem.boot_len (pa_cons (pv 0) pa_nil)) pe_int (nomark _)) (pw_and1 (pt_cmpR op_eq (pe_ix ix_str (pv 0) pe_int (fun _ _ => rfl)) pe_str (nomark _)))))))) (pss_one (ps_ret pe_bl)) pss_nil)
      (pss_cons (ps_for PassesOwn.never rfl (pi_str (pv 0)) (pg_name (i := 1) sc_Ldigits.nd rfl (Or.inl rfl))
        (pss_one (ps_if (pt_cmpR op_notIn_sign (pv 1) pe_str (by rfl)) (pss_one (ps_ret pe_bl)) pss_nil)))
      (pss_one (ps_ret pe_bl)))), ?_⟩
    have hz : y.length = (TL.tl y).length := TL.len_tl y
    refine ⟨fun σ' H' => σ' = [some (.str y), none] ∧ H' = H ∧ TL.tl y ≠ [] ∧ (1 < (TL.tl y).length → (TL.tl y).head? ≠ some 48), ?_, ?_⟩
    · refine ⟨_, rfl, rfl, _, rfl, iteB (fun h0 => iteT ?_) (fun h0 => ?_)⟩
      · refine q2 fun z => z.1 ?_
        rw [V.str.inj (of_decide_eq_true h0)]
        rfl
      · have ne : y ≠ "" := fun z => of_decide_eq_false h0 (by rw [z])
        have ne2 : TL.tl y ≠ [] := fun z => ne (TL.ext_tl (by rw [z]; rfl))
        refine ⟨_, rfl, y, rfl, small_line (by omega), _, _, rfl, rfl, _, rfl, iteB (fun h1 => ?_) (fun h1 => ?_)⟩
        · cases hy : TL.tl y with
          | nil => exact absurd hy ne2
          | cons c r =>
            have at0 : atI y.cps.toList 0 = some c := by
              show atI (TL.tl y) 0 = some c
              rw [hy]
              exact at_head
            have s0 : ("0" : Str) = ⟨#[48]⟩ := by decide +kernel
            refine ⟨_, rfl, y, 0, c, rfl, rfl, small_line (by omega), at0, rfl, _, rfl, iteB (fun h2 => ?_) (fun h2 => ?_)⟩
            · refine q2 fun z => z.2.2 ?_ ?_
              · have := of_decide_eq_true h1
                omega
              · have e := V.str.inj (of_decide_eq_true h2)
                rw [s0] at e
                injection e with e
                injection e with e
                injection e with e
                rw [hy, e]
                rfl
            · refine ⟨rfl, rfl, by simp, fun _ e => of_decide_eq_false h2 ?_⟩
              have ec : c = 48 := by simpa using e
              rw [ec, s0]
        · refine ⟨rfl, rfl, ne2, fun z => absurd z ?_⟩
          have := of_decide_eq_false h1
          omega
    rintro σ' H' ⟨rfl, rfl, ne, hd⟩
    refine ⟨_, rfl, y, rfl, for_str (fun i σ H1 => ∃ v, σ = [some (.str y), v] ∧ H1 = H' ∧ ∀ c ∈ (TL.tl y).take i, 48 ≤ c ∧ c ≤ 57) ⟨none, rfl, rfl, fun c z => by cases z⟩ ?_ ?_⟩
    · rintro i c σ H1 hc ⟨v, rfl, rfl, hall⟩
      refine ⟨_, rfl, c, _, rfl, rfl, _, rfl, iteB (fun h1 => ?_) (fun h1 => ?_)⟩
      · refine q2 fun z => ?_
        have := z.2.1 c (List.mem_of_getElem? hc)
        have m := dec_in.mpr this
        rw [decide_eq_true m] at h1
        exact absurd h1 (by decide)
      · refine ⟨_, rfl, rfl, fun d hd => ?_⟩
        have hc' : (TL.tl y)[i]? = some c := hc
        rw [← take_snoc hc', List.mem_append, List.mem_singleton] at hd
        rcases hd with hd | rfl
        · exact hall d hd
        · refine dec_in.mp ?_
          cases he : decide (d ∈ ("0123456789" : Str).cps.toList) with
          | true => exact of_decide_eq_true he
          | false => rw [he] at h1; exact absurd h1 (by decide)
    · rintro σ H1 ⟨v, rfl, rfl, hall⟩
      refine q1 ⟨ne, fun c hc => hall c ?_, hd⟩
      rw [List.take_of_length_le (by omega)]
      exact hc
theorem ok_Lreading {f : Addr} {fd : FuncData} (F : Fun K "_law_reading" "_law_reading" s_Lreading f fd) (T : Txt P w K mg C_Ratio C_BadRatio C_CableError) (c_Ldigits : Cal CX0 P w K mg base 1 "_law_digits" sp_Ldig) (c_Ldivisor : Cal CX0 P w K mg base 1 "_law_divisor" sp_LdivisorP) :
    FnOk P w K mg base CX0 2 f fd ["_law_text"] sp_LreadingR := by
  refine F.ok sc_Lreading (fun vs H Q E h => ?_) (fun cdv A outer s H vs Q E hr h => ?_)
  · obtain ⟨y, rfl, _⟩ := h
    rfl
  · obtain ⟨y, rfl, hl, q1, q2⟩ := h
    refine ⟨_, (pss_cons (ps_set (i := 1) sc_Lreading.nd rfl (Or.inl rfl) (pv 0))
      (C8.pss_cut (ps_if (pt_cmpR op_eq (pe_slice sl_str (pv 0) po_none (po_some pe_int)) pe_str (nomark _)) (pss_one (ps_set (i := 1) sc_Lreading.nd rfl (Or.inl rfl) (pe_slice sl_str (pv 0) (po_some pe_int) po_none))) pss_nil)
      (pss_cons (ps_set (i := 2) sc_Lreading.nd rfl (Or.inl rfl) (pe_bm PySem.F.plainAttrs_str PySem.F.slot_str_split PySem.F.type_str_split mt_split (pv 1) (pa_cons pe_str pa_nil)))
      (pss_cons (ps_if (pt_cmpR op_gt (pe_callB call_len_seq (by rfl) T.n_len PySem.boot_len (pa_cons (pv 2) pa_nil)) pe_int (nomark _)) (pss_one (ps_ret pe_non)) pss_nil)
      (pss_cons (ps_for PassesOwn.never rfl (pi_list (pv 2)) (pg_name (i := 3) sc_Lreading.nd rfl (Or.inl rfl))
        (pss_one (ps_if (pt_not (pt_val (pc_c c_Ldigits hr (by decide) rfl pass0 (pa_cons (pv 3) pa_nil)))) (pss_one (ps_ret pe_non)) pss_nil)))
      (pss_cons (ps_set (i := 4) sc_Lreading.nd rfl (Or.inl rfl) (pe_callTy call_int_str (by rfl) T.n_int (by decide +kernel) (pa_cons (pe_ix ix_list (pv 2) pe_int (fun _ _ => rfl)) pa_nil)))
      (pss_cons (ps_set (i := 5) sc_Lreading.nd rfl (Or.inl rfl) pe_int)
      (C8.pss_cut (ps_if (pt_cmpR op_eq (pe_callB call_len_seq (by rfl) T.n_len PySem.boot_len (pa_cons (pv 2) pa_nil)) pe_int (nomark _)) (pss_cons (ps_set (i := 5) sc_Lreading.nd rfl (Or.inl rfl) (pe_callTy call_int_str (by rfl) T.n_int (by decide +kernel) (pa_cons (pe_ix ix_list (pv 2) pe_int (fun _ _ => rfl)) pa_nil)))
      (pss_one (ps_if (PW.pt (pw_or (pt_cmpR op_lt (pv 5) pe_int (nomark _)) (pw_or1 (pt_cmpR op_ne (pc_c c_Ldivisor hr (by decide) rfl pass0 (pa_cons (pv 4) (pa_cons (pv 5) pa_nil))) pe_int (nomark _))))) (pss_one (ps_ret pe_non)) pss_nil))) pss_nil)
      (pss_cons (ps_if (pt_cmpR op_ne (pv 1) (pv 0) (nomark _)) (pss_cons (ps_if (pt_cmpR op_eq (pv 4) pe_int (nomark _)) (pss_one (ps_ret pe_non)) pss_nil)
      (pss_one (ps_set (i := 4) sc_Lreading.nd rfl (Or.inl rfl) (pe_op op_sub pe_int (pv 4))))) pss_nil)
      (pss_one (ps_ret (pe_tup (pa_cons (pv 4) (pa_cons (pv 5) pa_nil)))))))))))))), ?_⟩
    have hbl := bare_len y
    refine ⟨_, rfl, fun σ' H' => σ' = [some (.str y), some (.str (bare y)), none, none, none, none] ∧ H' = H, ?_, ?_⟩
    · refine ⟨_, rfl, _, rfl, y, rfl, small_line (by omega), rfl, _, rfl, iteB (fun h1 => ?_) (fun h1 => ?_)⟩
      · have e := (cut_head y).mp (V.str.inj (of_decide_eq_true h1))
        have eb : bare y = cutS y (some 1) none := by unfold bare; rw [if_pos e]
        rw [eb]
        exact ⟨_, rfl, _, rfl, y, rfl, small_line (by omega), rfl, rfl⟩
      · have e : ¬ (TL.tl y).head? = some 45 := fun z => of_decide_eq_false h1 (by rw [(cut_head y).mpr z])
        have eb : bare y = y := by unfold bare; rw [if_neg e]
        rw [eb]
        exact ⟨rfl, rfl⟩
    rintro σ' H' ⟨rfl, rfl⟩
    refine ⟨_, rfl, rfl, bare y, _, rfl, rfl, rfl, small_line (by omega), fun p hp => ?_⟩
    have sp := same_upd (o := .lst ((Txt.split (bare y) "/").map V.str)) hp
    have hpp : (upd H' p (.lst ((Txt.split (bare y) "/").map V.str))) p = some (.lst ((Txt.split (bare y) "/").map V.str)) := upd_same
    generalize upd H' p (.lst ((Txt.split (bare y) "/").map V.str)) = H1 at sp hpp ⊢
    have hsl := split_len2 (bare y)
    have hw := PyProof.Rows.split_weight (bare y) "/" (by decide +kernel)
    have hlS : ((Txt.split (bare y) "/").map V.str).length = (Txt.split (bare y) "/").length := List.length_map ..
    refine ⟨_, rfl, p, _, rfl, .inl (SqL.of hpp), _, _, rfl, rfl, _, rfl, iteB (fun h1 => ?_) (fun h1 => ?_)⟩
    · refine q2 (fun n d g => ?_) _ sp
      have := good_le g
      have := of_decide_eq_true h1
      rw [hlS] at this
      omega
    · have hle : (Txt.split (bare y) "/").length ≤ 2 := by
        have := of_decide_eq_false h1
        rw [hlS] at this
        omega
      have short : ∀ z ∈ Txt.split (bare y) "/", z.length ≤ 200 := fun z hz => by
        have m : z.length ≤ ((Txt.split (bare y) "/").map (·.length)).sum := mem_le_sum (List.mem_map_of_mem hz)
        omega
      refine ⟨_, rfl, p, rfl, ⟨_, SqL.of hpp⟩, for_list (K := K) (a := p) (xs := (Txt.split (bare y) "/").map V.str) (fun i σ H2 => ∃ v, σ = [some (.str y), some (.str (bare y)), some (.ref p), v, none, none] ∧ H2 = H1 ∧ ∀ z ∈ (Txt.split (bare y) "/").take i, Can (TL.tl z))
        ⟨none, rfl, rfl, fun z hz => by cases hz⟩ (fun i σ H2 _ ⟨v, _, e, _⟩ => by rw [e]; exact SqL.of hpp) ?_ ?_⟩
      · rintro i x σ H2 hx ⟨v, rfl, rfl, hall⟩
        rw [List.getElem?_map] at hx
        cases ez : (Txt.split (bare y) "/")[i]? with
        | none => rw [ez] at hx; cases hx
        | some z =>
          rw [ez] at hx
          cases hx
          have hm := List.mem_of_getElem? ez
          have hs := short z hm
          refine ⟨_, rfl, z, rfl, by omega, fun hc => ⟨true, rfl, iteF ⟨_, rfl, rfl, fun u hu => ?_⟩⟩, fun hc => ⟨false, rfl, iteT (q2 (fun n d g => hc (good_can g z hm)) _ sp)⟩⟩
          rw [← take_snoc ez, List.mem_append, List.mem_singleton] at hu
          rcases hu with hu | rfl
          · exact hall u hu
          · exact hc
      · rintro σ H2 ⟨v, rfl, rfl, hall⟩
        rw [List.length_map, List.take_length] at hall
        obtain ⟨z0, r, hs⟩ : ∃ z0 r, Txt.split (bare y) "/" = z0 :: r := by
          cases e : Txt.split (bare y) "/" with
          | nil => rw [e] at hsl; exact absurd hsl.1 (by decide)
          | cons a b => exact ⟨a, b, rfl⟩
        have c0 := hall z0 (by rw [hs]; exact List.mem_cons_self ..)
        have s0 := short z0 (by rw [hs]; exact List.mem_cons_self ..)
        rw [hs] at hpp
        refine ⟨_, rfl, p, _, 0, _, rfl, rfl, SqL.of hpp, at_head, z0, _, rfl, can_int c0 (by omega), by omega, ?_⟩
        refine ⟨fun σ' H3 => ∃ d : Nat, σ' = [some (.str y), some (.str (bare y)), some (.ref p), v, some (.int ((NumText.digitsVal (TL.tl z0) : Nat) : Int)), some (.int (d : Int))] ∧ H3 = H2 ∧ form y (NumText.digitsVal (TL.tl z0)) d, ?_, ?_⟩
        · refine ⟨_, rfl, p, _, rfl, .inl (SqL.of hpp), rfl, _, rfl, iteB (fun h2 => ?_) (fun h2 => ?_)⟩
          · have e2 := V.int.inj (of_decide_eq_true h2)
            rw [List.length_map] at e2
            obtain ⟨z1, hr⟩ : ∃ z1, r = [z1] := by
              match r, e2 with
              | [z1], _ => exact ⟨z1, rfl⟩
              | [], e2 => simp at e2
              | _ :: _ :: _, e2 => simp at e2; omega
            subst hr
            have m1 : z1 ∈ Txt.split (bare y) "/" := by rw [hs]; exact List.mem_cons_of_mem _ (List.mem_cons_self ..)
            have c1 := hall z1 m1
            have s1 := short z1 m1
            have l0 : z0.length = (TL.tl z0).length := TL.len_tl z0
            have l1 : z1.length = (TL.tl z1).length := TL.len_tl z1
            have v0 := dv_lt _ c0.2.1
            have v1 := dv_lt _ c1.2.1
            rw [hs, List.map_cons, List.map_cons, List.map_nil, List.sum_cons, List.sum_cons, List.sum_nil, List.length_cons, List.length_cons, List.length_nil] at hw
            have big : (10 : Nat) ^ 200 < 2 ^ 680 := by decide +kernel
            have pr : NumText.digitsVal (TL.tl z0) * NumText.digitsVal (TL.tl z1) < 2 ^ 680 := by
              have a1 := Nat.mul_le_mul (Nat.le_of_lt v0) (Nat.le_of_lt v1)
              rw [← Nat.pow_add] at a1
              have a2 : (10 : Nat) ^ ((TL.tl z0).length + (TL.tl z1).length) ≤ 10 ^ 200 := Nat.pow_le_pow_right (by decide) (by omega)
              omega
            refine ⟨_, rfl, p, _, 1, _, rfl, rfl, SqL.of hpp, at_snd, z1, _, rfl, can_int c1 (by omega), by omega, ?_⟩
            refine ⟨_, rfl, _, _, rfl, rfl, _, rfl, iteB (fun h3 => iteT (q2 (fun n d g => ?_) _ sp)) (fun h3 => ⟨_, rfl, _, rfl, _, _, rfl, by omega, by omega, pr, rfl, _, rfl, iteB (fun h4 => q2 (fun n d g => ?_) _ sp) (fun h4 => ?_)⟩)⟩
            · have := good_two g hs
              have := of_decide_eq_true h3
              omega
            · obtain ⟨g1, g2, _⟩ := good_two g hs
              have gg := g.2.1
              rw [← g1, ← g2] at gg
              have e : Nat.gcd (((NumText.digitsVal (TL.tl z0) : Nat) : Int)).natAbs (((NumText.digitsVal (TL.tl z1) : Nat) : Int)).natAbs = 1 := gg
              rw [e] at h4
              exact absurd h4 (by decide)
            · have k2 := of_decide_eq_false h3
              refine ⟨_, rfl, rfl, parts_two hs c0 c1 (by omega) ?_⟩
              have he := of_not_dec h4
              have he2 := V.int.inj he
              show Nat.gcd (((NumText.digitsVal (TL.tl z0) : Nat) : Int)).natAbs (((NumText.digitsVal (TL.tl z1) : Nat) : Int)).natAbs = 1
              omega
          · have hr : r = [] := by
              cases r with
              | nil => rfl
              | cons a b =>
                rw [hs, List.length_cons, List.length_cons] at hle
                have : b.length = 0 := by omega
                refine absurd ?_ (of_decide_eq_false h2)
                rw [List.length_map, List.length_cons, List.length_cons, this]
                rfl
            subst hr
            exact ⟨1, rfl, rfl, parts_one hs c0⟩
        · rintro σ' H3 ⟨d, rfl, rfl, fm⟩
          refine ⟨_, rfl, _, rfl, rfl, _, rfl, iteB (fun h5 => ?_) (fun h5 => ?_)⟩
          · have hh : (TL.tl y).head? = some 45 := by
              refine Classical.byContradiction fun z => ?_
              have e : bare y = y := by unfold bare; rw [if_neg z]
              rw [e, decide_eq_true rfl] at h5
              exact absurd h5 (by decide)
            refine ⟨_, rfl, rfl, _, rfl, iteB (fun h6 => ?_) (fun h6 => ?_)⟩
            · have e0 := V.int.inj (of_decide_eq_true h6)
              have e1 : NumText.digitsVal (TL.tl z0) = 0 := by omega
              rw [e1] at fm
              exact q2 (form_zero fm hh) _ sp
            · have n0 : NumText.digitsVal (TL.tl z0) ≠ 0 := fun z => of_decide_eq_false h6 (by rw [z]; rfl)
              have g := form_good fm (fun _ => n0)
              rw [if_pos hh, ← Int.zero_sub] at g
              exact ⟨_, rfl, _, _, rfl, rfl, _, rfl, _, rfl, (by show 2 ≤ sizeLine; decide), fun t ht => q1 _ _ g _ t (sp.trans (same_upd ht)) upd_same⟩
          · have hh : ¬ (TL.tl y).head? = some 45 := fun z => by
              have e := V.str.inj (of_not_dec h5)
              have b := congrArg List.length (bare_tl y)
              rw [e, if_pos z, List.length_append, List.length_singleton] at b
              omega
            have g := form_good fm (fun z => absurd z hh)
            rw [if_neg hh] at g
            exact ⟨_, rfl, _, rfl, (by show 2 ≤ sizeLine; decide), fun t ht => q1 _ _ g _ t (sp.trans (same_upd ht)) upd_same⟩
theorem ok_Lreads {f : Addr} {fd : FuncData} (F : Fun K "_law_reads" "_law_reads" s_Lreads f fd) (T : Txt P w K mg C_Ratio C_BadRatio C_CableError) (c_Ratio_parse : ClM (L2.CX P w) P w K mg base 5 C_Ratio "parse" (sp_parseR C_Ratio C_BadRatio)) (c_Lsame : Cal CX0 P w K mg base 3 "_law_same" (sp_Lsame K 2)) (c_Ratio_str : Met CX0 P w K mg base 1 C_Ratio "__str__" (sp_strR C_Ratio)) :
    FnOk P w K mg base CX0 8 f fd ["_law_text", "_law_due"] (sp_LreadsR K) := by
  refine F.ok sc_Lreads (fun vs H Q E h => ?_) (fun cdv A outer s H vs Q E hr h => ?_)
  · obtain ⟨y, v, rfl, _⟩ := h
    rfl
  · obtain ⟨y, v, rfl, hl, hv, q⟩ := h
    refine ⟨_, (pss_cons (ps_set (i := 2) sc_Lreads.nd rfl (Or.inl rfl) pe_bl)
      (pss_cons (ps_set (i := 3) sc_Lreads.nd rfl (Or.inl rfl) pe_non)
      (pss_cons (ps_try_as (i := 4) (Wout := fun _ _ _ _ => False) rfl rfl sc_Lreads.nd rfl rfl ⟨rfl, by decide, .inl T.g_BadRatio⟩ takes0 (fun W pn xe tk _ => (pss_one (ps_set (i := 3) sc_Lreads.nd rfl (Or.inl rfl) (pc_cmS c_Ratio_parse hr (by decide) (fun σ => passAt tk σ) (pe_glob (v := .ref C_Ratio) rfl T.g_Ratio rfl) (pa_cons (pv 0) pa_nil)))))
        (fun a oe cls d pn hz hf => (pss_one (ps_set (i := 2) sc_Lreads.nd rfl (Or.inl rfl) (pe_and (pe_callB (call_isE2 T.e_BadRatio hz hf) (by rfl) T.n_isinstance (by decide +kernel) (pa_cons (pv 4) (pa_cons (pe_glob (v := .ref C_CableError) rfl T.g_CableError rfl) pa_nil))) (pe_one (pe_callB (call_isE2 T.e_BadRatio hz hf) (by rfl) T.n_isinstance (by decide +kernel) (pa_cons (pv 4) (pa_cons (pe_bltn (v := .ty "ValueError") (by rfl) T.n_ValueError (by decide +kernel) rfl) pa_nil)))))))))
      (pss_cons (ps_if (pt_cmpR op_isN (pv 1) pe_non (nomark _)) (pss_one (ps_ret (pe_and (pv 2) (pe_one (pe_cmpR op_isN (pv 3) pe_non (nomark _)))))) pss_nil)
      (pss_cons (ps_if (PW.pt (pw_or (pt_val (pv 2)) (pw_or1 (pt_not (pt_val (pe_callB (C8.call_isC T.i_Ratio) (by rfl) T.n_isinstance (by decide +kernel) (pa_cons (pv 3) (pa_cons (pe_glob (v := .ref C_Ratio) rfl T.g_Ratio rfl) pa_nil)))))))) (pss_one (ps_ret pe_bl)) pss_nil)
      (pss_one (ps_ret (pc_c c_Lsame hr (by decide) rfl pass0 (pa_cons (pe_lst (pa_cons (pe_fld (pv 3) rfl) (pa_cons (pe_fld (pv 3) rfl) (pa_cons (pe_callTy (call_strO c_Ratio_str hr (by decide) pass0) (by rfl) T.n_str (by decide +kernel) (pa_cons (pv 3) pa_nil)) pa_nil)))) (pa_cons (pe_lst (pa_cons (pe_ix ix_tup (pv 1) pe_int (fun _ _ => rfl)) (pa_cons (pe_ix ix_tup (pv 1) pe_int (fun _ _ => rfl)) (pa_cons (pv 0) pa_nil)))) pa_nil)))))))))), ?_⟩
    rcases hv with ⟨rfl, hno⟩ | ⟨n, d, t, rfl, g, ht⟩
    · refine ⟨rfl, _, rfl, y, rfl, hl, .inr ⟨hno, fun H' s1 => ⟨true, exm_self T.b_BadRatio T.ic_BadRatio T.t_BadRatio T.s_BadRatio, fun _ a0 ha0 => ?_, fun z => absurd z (by decide)⟩⟩⟩
      refine ⟨_, rfl, rfl, rfl, _, _, true, rfl, fun u ru => ru, T.kt_cable, true, rfl, iteT ⟨_, rfl, rfl, rfl, _, _, true, rfl, fun u ru => ru, T.kt_value, ?_⟩⟩
      refine ⟨_, rfl, rfl, _, rfl, iteDT rfl ⟨_, rfl, true, rfl, iteT ⟨_, rfl, rfl, ?_⟩⟩⟩
      rw [decide_eq_true rfl]
      exact q _ s1
    · refine ⟨rfl, _, rfl, y, rfl, hl, .inl ⟨n, d, g, fun H' r s1 hr => ?_⟩⟩
      obtain ⟨b1, b2, b3, b4⟩ := good_small g hl
      have ht1 := sqt_same ht s1
      obtain ⟨dx, hrr⟩ := id hr
      refine ⟨_, rfl, rfl, _, rfl, iteDF (by intro z; cases z) ?_⟩
      refine ⟨_, rfl, false, rfl, iteF ⟨_, rfl, r, dx, _, rfl, hrr, true, rfl, iteF ?_⟩⟩
      refine ⟨_, rfl, r, C_Ratio, dx, _, _, rfl, hrr, T.cl_Ratio, T.nf_Ratio_num, rfs_num _ _, ?_⟩
      refine ⟨_, rfl, r, C_Ratio, dx, _, _, rfl, hrr, T.cl_Ratio, T.nf_Ratio_den, rfs_den _ _, ?_⟩
      refine ⟨_, rfl, r, dx, _, rfl, hrr, r, n, d, rfl, ⟨dx, hrr⟩, b1, b2, by omega, by omega, _, rfl, (by show 3 ≤ sizeLine; decide), fun l1 hl1 => ?_⟩
      have s2 := same_upd (o := .lst [.int n, .int d, .str (wr n d)]) hl1
      refine ⟨_, rfl, t, _, 0, _, rfl, rfl, sqt_same ht1 s2, at_head, _, rfl, t, _, 1, _, rfl, rfl, sqt_same ht1 s2, at_snd, _, rfl, (by show 3 ≤ sizeLine; decide), fun l2 hl2 => ?_⟩
      have s3 := same_upd (o := .lst [.int n, .int d, .str y]) hl2
      refine ⟨_, _, rfl, .inr (.inl ⟨l1, l2, [.int n, .int d, .str (wr n d)], [.int n, .int d, .str y], rfl, rfl, SqL.of (s3 _ _ upd_same), SqL.of upd_same, (by show 3 ≤ sizeLine; decide), ?_⟩), q _ ((s1.trans s2).trans s3)⟩
      rw [← g.2.2]
      refine Pairs.refl fun x hx => SameV.flat ?_
      rcases List.mem_cons.mp hx with rfl | hx
      · rfl
      · rcases List.mem_cons.mp hx with rfl | hx
        · rfl
        · rw [List.mem_singleton] at hx
          rw [hx]
          rfl
theorem ok_law {f : Addr} {fd : FuncData} (F : Fun K "law" "law" s_law f fd) (T : Txt P w K mg C_Ratio C_BadRatio C_CableError) (c_Lbig : Cal CX0 P w K mg base 3 "_law_big" sp_Lbig) (c_Lpool : Cal CX0 P w K mg base 1 "_law_pool" sp_Lpool) (c_Lcell : Cal CX0 P w K mg base 1 "_law_cell" (sp_Lcell K)) (c_Ldivisor : Cal CX0 P w K mg base 1 "_law_divisor" sp_LdivisorP) (c_Lwritten : Cal CX0 P w K mg base 1 "_law_written" sp_Lwr) (c_Lsame : Cal CX0 P w K mg base 3 "_law_same" (sp_Lsame K 2)) (c_Ratio_str : Met CX0 P w K mg base 1 C_Ratio "__str__" (sp_strR C_Ratio)) (c_Ratio : Mak (L2.CX P w) P w K mg base 1 "Ratio" C_Ratio (sp_Ratio_init C_Ratio C_BadRatio)) (c_Lreads : Cal CX0 P w K mg base 8 "_law_reads" (sp_LreadsR K)) (c_Lbent : Cal CX0 P w K mg base 2 "_law_bent" sp_LbentT) (c_Lsigns : Cal CX0 P w K mg base 1 "_law_signs" sp_Lsigns) (c_Ltake : Cal CX0 P w K mg base 1 "_law_take" sp_Ltake) (c_Lany : Cal CX0 P w K mg base 2 "_law_any" sp_Lany) (c_Lreading : Cal CX0 P w K mg base 2 "_law_reading" sp_LreadingR) :
    FnOk P w K mg base CX0 11 f fd ["_law_script"] (sp_law K) := by
  refine F.ok sc_law (fun vs H Q E h => ?_) (fun cdv A outer s H vs Q E hr h => ?_)
  · obtain ⟨a, ns, rfl, _⟩ := h
    rfl
  · obtain ⟨a, ns, rfl, hS, hlen, q⟩ := h
    refine ⟨_, (pss_cons (ps_set (i := 1) sc_law.nd rfl (Or.inl rfl) (pc_c c_Lbig hr (by decide) rfl pass0 (pa_cons (pc_c c_Lpool hr (by decide) rfl pass0 (pa_cons (pc_c c_Lcell hr (by decide) rfl pass0 (pa_cons (pv 0) (pa_cons pe_int pa_nil))) pa_nil)) pa_nil)))
      (pss_cons (ps_set (i := 2) sc_law.nd rfl (Or.inl rfl) (pe_callB call_abs (by rfl) T.n_abs (by decide +kernel) (pa_cons (pc_c c_Lbig hr (by decide) rfl pass0 (pa_cons (pc_c c_Lpool hr (by decide) rfl pass0 (pa_cons (pc_c c_Lcell hr (by decide) rfl pass0 (pa_cons (pv 0) (pa_cons pe_int pa_nil))) pa_nil)) pa_nil)) pa_nil)))
      (C8.pss_cut (ps_if (PW.pt (pw_or (pt_cmpR op_eq (pv 2) pe_int (nomark _)) (pw_or1 (pt_cmpR op_eq (pe_op op_mod (pe_callTy call_int1 (by rfl) T.n_int (by decide +kernel) (pa_cons (pc_c c_Lcell hr (by decide) rfl pass0 (pa_cons (pv 0) (pa_cons pe_int pa_nil))) pa_nil)) pe_int) pe_int (nomark _))))) (pss_one (ps_set (i := 2) sc_law.nd rfl (Or.inl rfl) pe_int)) pss_nil)
      (pss_cons (ps_set (i := 3) sc_law.nd rfl (Or.inl rfl) (pc_c c_Ldivisor hr (by decide) rfl pass0 (pa_cons (pe_callB call_abs (by rfl) T.n_abs (by decide +kernel) (pa_cons (pv 1) pa_nil)) (pa_cons (pv 2) pa_nil))))
      (pss_cons (ps_set (i := 4) sc_law.nd rfl (Or.inl rfl) (pe_op op_fdivW (pv 1) (pv 3)))
      (pss_cons (ps_set (i := 5) sc_law.nd rfl (Or.inl rfl) (pe_op op_fdivW (pv 2) (pv 3)))
      (pss_cons (ps_set (i := 6) sc_law.nd rfl (Or.inl rfl) (pc_c c_Lwritten hr (by decide) rfl pass0 (pa_cons (pv 4) (pa_cons (pv 5) pa_nil))))
      (pss_cons (ps_if (PW.pt (pw_or (pt_not (pt_val (pc_c c_Lsame hr (by decide) rfl pass0 (pa_cons (pe_callTy (call_strO c_Ratio_str hr (by decide) pass0) (by rfl) T.n_str (by decide +kernel) (pa_cons (pc_mk c_Ratio hr (by decide) rfl passL (pa_cons (pv 1) (pa_cons (pv 2) pa_nil))) pa_nil)) (pa_cons (pv 6) pa_nil))))) (pw_or1 (pt_not (pt_val (pc_c c_Lreads hr (by decide) rfl pass0 (pa_cons (pv 6) (pa_cons (pe_tup (pa_cons (pv 4) (pa_cons (pv 5) pa_nil))) pa_nil)))))))) (pss_one (ps_ret pe_bl)) pss_nil)
      (pss_cons (ps_set (i := 7) sc_law.nd rfl (Or.inl rfl) (pc_c c_Lpool hr (by decide) rfl pass0 (pa_cons (pc_c c_Lcell hr (by decide) rfl pass0 (pa_cons (pv 0) (pa_cons pe_int pa_nil))) pa_nil)))
      (pss_cons (ps_set (i := 8) sc_law.nd rfl (Or.inl rfl) (pe_op op_mod (pe_callTy call_int1 (by rfl) T.n_int (by decide +kernel) (pa_cons (pc_c c_Lcell hr (by decide) rfl pass0 (pa_cons (pv 0) (pa_cons pe_int pa_nil))) pa_nil)) pe_int))
      (C8.pss_cut (ps_if (pt_cmpR op_eq (pv 8) pe_int (nomark _)) (pss_one (ps_set (i := 6) sc_law.nd rfl (Or.inl rfl) (pc_c c_Lbent hr (by decide) rfl pass0 (pa_cons (pv 7) (pa_cons (pv 6) (pa_cons pe_str pa_nil)))))) (pss_one (ps_if (pt_cmpR op_eq (pv 8) pe_int (nomark _)) (pss_one (ps_set (i := 6) sc_law.nd rfl (Or.inl rfl) (pc_c c_Lbent hr (by decide) rfl pass0 (pa_cons (pv 7) (pa_cons (pv 6) (pa_cons (pc_c0 c_Lsigns hr (by decide) rfl pass0) pa_nil)))))) (pss_one (ps_if (pt_cmpR op_eq (pv 8) pe_int (nomark _)) (pss_one (ps_set (i := 6) sc_law.nd rfl (Or.inl rfl) (pe_op op_add_str (pv 6) pe_str))) (pss_one (ps_if (pt_cmpR op_eq (pv 8) pe_int (nomark _)) (pss_cons (ps_set (i := 9) sc_law.nd rfl (Or.inl rfl) (pe_op op_add pe_int (pc_c c_Ltake hr (by decide) rfl pass0 (pa_cons (pv 7) (pa_cons pe_int pa_nil)))))
      (pss_one (ps_set (i := 6) sc_law.nd rfl (Or.inl rfl) (pe_op op_add_str (pe_op op_add_str (pe_callTy call_str_int (by rfl) T.n_str (by decide +kernel) (pa_cons (pe_op op_mulA (pv 4) (pv 9)) pa_nil)) pe_str) (pe_callTy call_str_int (by rfl) T.n_str (by decide +kernel) (pa_cons (pe_op op_mulA (pv 5) (pv 9)) pa_nil)))))) (pss_one (ps_if (pt_cmpR op_eq (pv 8) pe_int (nomark _)) (pss_one (ps_set (i := 6) sc_law.nd rfl (Or.inl rfl) (pe_op op_add_str (pe_callTy call_str_int (by rfl) T.n_str (by decide +kernel) (pa_cons (pv 4) pa_nil)) pe_str))) (pss_one (ps_if (pt_cmpR op_eq (pv 8) pe_int (nomark _)) (pss_one (ps_set (i := 6) sc_law.nd rfl (Or.inl rfl) (pc_c c_Lany hr (by decide) rfl pass0 (pa_cons (pv 7) (pa_cons pe_str pa_nil))))) (pss_one (ps_if (pt_cmpR op_eq (pv 8) pe_int (nomark _)) (pss_one (ps_set (i := 6) sc_law.nd rfl (Or.inl rfl) (pc_c c_Lany hr (by decide) rfl pass0 (pa_cons (pv 7) (pa_cons (pc_c0 c_Lsigns hr (by decide) rfl pass0) pa_nil))))) pss_nil)))))))))))))
      (C8.pss_cut (ps_if (pt_not (pt_val (pc_c c_Lreads hr (by decide) rfl pass0 (pa_cons (pv 6) (pa_cons (pc_c c_Lreading hr (by decide) rfl pass0 (pa_cons (pv 6) pa_nil)) pa_nil))))) (pss_one (ps_ret pe_bl)) pss_nil)
      (pss_cons (ps_set (i := 10) sc_law.nd rfl (Or.inl rfl) (pc_c c_Lpool hr (by decide) rfl pass0 (pa_cons (pc_c c_Lcell hr (by decide) rfl pass0 (pa_cons (pv 0) (pa_cons pe_int pa_nil))) pa_nil)))
      (pss_cons (ps_set (i := 1) sc_law.nd rfl (Or.inl rfl) (pe_op op_add (pe_op op_mulA (pe_op op_sub (pc_c c_Ltake hr (by decide) rfl pass0 (pa_cons (pv 10) (pa_cons (pe_op op_pow pe_int pe_int) pa_nil))) (pe_op op_mulA (pc_c c_Ltake hr (by decide) rfl pass0 (pa_cons (pv 10) (pa_cons pe_int pa_nil))) (pe_op op_pow pe_int pe_int))) (pe_op op_pow pe_int pe_int)) (pc_c c_Ltake hr (by decide) rfl pass0 (pa_cons (pv 10) (pa_cons (pe_op op_pow pe_int pe_int) pa_nil)))))
      (pss_cons (ps_set (i := 2) sc_law.nd rfl (Or.inl rfl) (pe_op op_add (pe_op op_add pe_int (pe_op op_mulA (pc_c c_Ltake hr (by decide) rfl pass0 (pa_cons (pv 10) (pa_cons (pe_op op_pow pe_int pe_int) pa_nil))) (pe_op op_pow pe_int pe_int))) (pc_c c_Ltake hr (by decide) rfl pass0 (pa_cons (pv 10) (pa_cons (pe_op op_pow pe_int pe_int) pa_nil)))))
      (pss_cons (ps_set (i := 3) sc_law.nd rfl (Or.inl rfl) (pc_c c_Ldivisor hr (by decide) rfl pass0 (pa_cons (pe_callB call_abs (by rfl) T.n_abs (by decide +kernel) (pa_cons (pv 1) pa_nil)) (pa_cons (pv 2) pa_nil))))
      (pss_cons (ps_set (i := 6) sc_law.nd rfl (Or.inl rfl) (pc_c c_Lwritten hr (by decide) rfl pass0 (pa_cons (pe_op op_fdivW (pv 1) (pv 3)) (pa_cons (pe_op op_fdivW (pv 2) (pv 3)) pa_nil))))
      (pss_one (ps_ret (pc_c c_Lreads hr (by decide) rfl pass0 (pa_cons (pv 6) (pa_cons (pe_tup (pa_cons (pe_op op_fdivW (pv 1) (pv 3)) (pa_cons (pe_op op_fdivW (pv 2) (pv 3)) pa_nil))) pa_nil)))))))))))))))))))))), ?_⟩
    refine ⟨_, rfl, a, ns, 0, rfl, hS, fun c0 _ => ⟨c0, rfl, fun z0 Ha m0 u0 P0 => ⟨z0, rfl, P0, fun Hb top k0 btop => ?_⟩⟩⟩
    have S0 : Same H Hb := Kp.same u0 k0 m0
    refine ⟨_, rfl, a, ns, 1, rfl, S0.seq hS, fun c1 _ => ⟨c1, rfl, fun z1 Ha1 m1 u1 P1 => ⟨z1, rfl, P1, fun Hb1 bot k1 bbot => ⟨bot, rfl, ?_⟩⟩⟩⟩
    have S1 : Same H Hb1 := S0.trans (Kp.same u1 k1 m1)
    have babs : (if bot < 0 then -bot else bot).natAbs < 10 ^ 60 ∧ 0 ≤ (if bot < 0 then -bot else bot) := by
      split <;> constructor <;> omega
    generalize (if bot < 0 then -bot else bot) = b0 at babs ⊢
    refine ⟨fun σ' H' => ∃ b : Int, σ' = [some (.ref a), some (.int top), some (.int b), none, none, none, none, none, none, none, none] ∧ H' = Hb1 ∧ 1 ≤ b ∧ b.natAbs < 10 ^ 60, ?_, ?_⟩
    · refine ⟨_, rfl, rfl, _, rfl, iteB (fun h1 => iteT ⟨1, rfl, rfl, by decide, by decide⟩) (fun h1 => ⟨_, rfl, a, ns, 3, rfl, S1.seq hS, fun c3 _ => .inl ⟨_, rfl, _, _, rfl, rfl, (by show (0 : Int) < 3; decide), rfl, _, rfl, iteB (fun _ => ⟨1, rfl, rfl, by decide, by decide⟩) (fun _ => ?_)⟩⟩)⟩
      refine ⟨b0, rfl, rfl, ?_, babs.1⟩
      have : b0 ≠ 0 := fun z => of_decide_eq_false h1 (by rw [z])
      omega
    rintro σ' H' ⟨b, rfl, rfl, b1, bb⟩
    have big : (10 : Nat) ^ 60 < 10 ^ 100 := by decide +kernel
    have big2 : (10 : Nat) ^ 100 < 10 ^ 500 := by decide +kernel
    have big3 : (10 : Nat) ^ 100 < 2 ^ 8000 := by decide +kernel
    obtain ⟨hN, hD, cd⟩ := gcd_facts top b b1 (by omega)
    refine ⟨_, rfl, top, rfl, _, rfl, _, _, rfl, abs_0 _, by omega, (by rw [abs_n]; exact prod_lt btop bb (by decide)), ?_⟩
    rw [abs_n]
    refine ⟨_, rfl, _, rfl, _, _, rfl, rfl, cd _, _, rfl, _, rfl, _, _, rfl, rfl, cd _, ?_⟩
    dsimp only
    rw [hN, hD]
    have hb0 : b ≠ 0 := by omega
    have bN := rN_le (n := top) hb0
    have bD := rD_le (n := top) hb0
    have gw := good_r (n := top) hb0
    have lw := wr_len (n := rN top b) (d := rD top b) (k := 60) (by decide) (by omega) (by omega)
    have lN := SI_len (n := rN top b) (k := 60) (by decide) (by omega)
    have lD := SI_len (n := rD top b) (k := 60) (by decide) (by omega)
    refine ⟨_, rfl, _, rfl, _, _, rfl, by omega, by omega, ?_⟩
    refine ⟨_, rfl, _, rfl, fun x dx nx ndx ne => ⟨x, dx, top, b, rfl, upd_same, by omega, fun z => absurd z hb0, fun _ H3 hx kx => ⟨rfl, ?_⟩⟩⟩
    have s3 := S1.trans (mk_same nx ndx kx)
    refine ⟨x, dx, _, rfl, hx, x, _, _, rfl, ⟨dx, hx⟩, by omega, by omega, by omega, by omega, _, rfl, _, rfl, _, _, rfl, SameV.flat rfl, true, rfl, iteF ?_⟩
    refine ⟨_, rfl, _, rfl, _, rfl, (by show 2 ≤ sizeLine; decide), fun t ht => ?_⟩
    have s4 := s3.trans (same_upd (o := .tup [.int (rN top b), .int (rD top b)]) ht)
    refine ⟨_, _, rfl, by omega, .inr ⟨_, _, t, rfl, gw, SqT.of upd_same⟩, fun H4 s5 => ⟨true, rfl, iteF ?_⟩⟩
    have S4 := s4.trans s5
    refine ⟨_, rfl, a, ns, 4, rfl, S4.seq hS, fun c4 _ => ⟨c4, rfl, fun p H5 np sp hp => ?_⟩⟩
    refine ⟨_, rfl, a, ns, 2, rfl, (S4.trans sp).seq hS, fun c2 _ => .inl ⟨_, rfl, _, _, rfl, rfl, (by show (0 : Int) < 8; decide), ?_⟩⟩
    clear gw
    generalize wr (rN top b) (rD top b) = y0 at lw ⊢
    have keep : ∀ H6, Kp p H5 H6 → Same H H6 := fun H6 k => S4.trans (Kp.same sp k np)
    have e1 : ("/" : Str).length = 1 := by decide +kernel
    have e2 : ("/1" : Str).length = 2 := by decide +kernel
    have e3 : ("/0" : Str).length = 2 := by decide +kernel
    generalize rN top b = N at bN lN ⊢
    generalize rD top b = D at bD lD ⊢
    refine ⟨fun σ' H' => ∃ (y : Str) (v : Option V), σ' = [some (.ref a), some (.int top), some (.int b), some (.int ((Nat.gcd top.natAbs b.natAbs : Nat) : Int)), some (.int N), some (.int D), some (.str y), some (.ref p), some (.int (c2 % 8)), v, none] ∧ Same H H' ∧ y.length ≤ 200, ?_, ?_⟩
    · refine ⟨_, rfl, rfl, _, rfl, iteB (fun _ => ?_) (fun _ => ⟨_, rfl, rfl, _, rfl, iteB (fun _ => ?_) (fun _ => ⟨_, rfl, rfl, _, rfl, iteB (fun _ => ?_) (fun _ => ⟨_, rfl, rfl, _, rfl, iteB (fun _ => ?_) (fun _ => ⟨_, rfl, rfl, _, rfl, iteB (fun _ => ?_) (fun _ => ⟨_, rfl, rfl, _, rfl, iteB (fun _ => ?_) (fun _ => ⟨_, rfl, rfl, _, rfl, iteB (fun _ => ?_) (fun _ => ?_)⟩)⟩)⟩)⟩)⟩)⟩)⟩
      · exact ⟨_, rfl, _, rfl, p, _, _, rfl, hp, by decide +kernel, by decide +kernel, by omega, fun H6 z k p6 lz => ⟨z, _, rfl, keep _ k, by omega⟩⟩
      · exact ⟨_, rfl, _, rfl, rfl, p, _, _, rfl, hp, by rw [sgns_len]; decide, by rw [sgns_len]; decide, by omega, fun H6 z k p6 lz => ⟨z, _, rfl, keep _ k, by omega⟩⟩
      · exact ⟨_, rfl, _, _, rfl, rfl, small_line (by omega), _, _, rfl, keep _ Kp.refl, by rw [Str.length_append]; omega⟩
      · refine ⟨_, rfl, p, 8, rfl, hp, by decide, by decide, fun H6 r k p6 r0 r1 => ⟨_, _, rfl, rfl, ?_⟩⟩
        have m1 : (N * (2 + r)).natAbs < 10 ^ 62 := by
          rw [Int.natAbs_mul]
          exact nine (by omega) (by omega)
        have m2 : (D * (2 + r)).natAbs < 10 ^ 62 := by
          rw [Int.natAbs_mul]
          exact nine (by omega) (by omega)
        have n1 := SI_len (k := 62) (by decide) m1
        have n2 := SI_len (k := 62) (by decide) m2
        have c : ∀ i : Int, CMulA i (2 + r) := fun i => .inl (.inr ⟨by omega, by omega⟩)
        have lg : ∀ i : Int, i.natAbs < 10 ^ 62 → i.natAbs.log2 < 1920 := fun i h => log_small (Nat.lt_trans h (by decide +kernel))
        exact ⟨_, rfl, _, rfl, _, _, rfl, rfl, c _, _, rfl, lg _ m1, _, _, rfl, rfl, small_line (by show (SI _).length + _ ≤ _; omega), _, rfl, _, rfl, _, _, rfl, rfl, c _, _, rfl, lg _ m2, _, _, rfl, rfl, small_line (by rw [Str.length_append]; show (SI _).length + _ + (SI _).length ≤ _; omega), _, _, rfl, keep _ k, by rw [Str.length_append, Str.length_append]; show (SI _).length + _ + (SI _).length ≤ _; omega⟩
      · exact ⟨_, rfl, _, rfl, log_small (by omega), _, _, rfl, rfl, small_line (by show (SI _).length + _ ≤ _; omega), _, _, rfl, keep _ Kp.refl, by rw [Str.length_append]; show (SI _).length + _ ≤ _; omega⟩
      · exact ⟨_, rfl, p, _, rfl, hp, by decide +kernel, by decide +kernel, fun H6 z k lz => ⟨z, _, rfl, keep _ k, by omega⟩⟩
      · exact ⟨_, rfl, rfl, p, _, rfl, hp, by rw [sgns_len]; decide, by rw [sgns_len]; decide, fun H6 z k lz => ⟨z, _, rfl, keep _ k, by omega⟩⟩
      · exact ⟨y0, _, rfl, keep _ Kp.refl, by omega⟩
    rintro σ' H6 ⟨y, v, rfl, s6, ly⟩
    refine ⟨fun σ' H' => σ' = [some (.ref a), some (.int top), some (.int b), some (.int ((Nat.gcd top.natAbs b.natAbs : Nat) : Int)), some (.int N), some (.int D), some (.str y), some (.ref p), some (.int (c2 % 8)), v, none] ∧ Same H H', ?_, ?_⟩
    · refine ⟨_, rfl, _, rfl, y, rfl, by omega, fun n d g H7 t s7 ht => ⟨y, _, rfl, by omega, .inr ⟨n, d, t, rfl, g, SqT.of ht⟩, fun H8 s8 => ⟨true, rfl, iteF ⟨rfl, (s6.trans s7).trans s8⟩⟩⟩, fun hno H7 s7 => ⟨y, _, rfl, by omega, .inl ⟨rfl, hno⟩, fun H8 s8 => ⟨true, rfl, iteF ⟨rfl, (s6.trans s7).trans s8⟩⟩⟩⟩
    rintro σ' H7 ⟨rfl, s7⟩
    refine ⟨_, rfl, a, ns, 5, rfl, s7.seq hS, fun c5 _ => ⟨c5, rfl, fun p2 H8 np2 sp2 hp2 => ?_⟩⟩
    have cp : ∀ k : Int, 0 ≤ k → k ≤ 100 → CPow 10 k := fun k h0 h1 => ⟨h0, by omega, by decide⟩
    have e48 : (10 : Int) ^ (48 : Int).toNat = 10 ^ 48 := rfl
    have e47 : (10 : Int) ^ (47 : Int).toNat = 10 ^ 47 := rfl
    refine ⟨_, rfl, _, _, rfl, rfl, cp _ (by decide) (by decide), p2, _, rfl, hp2, by decide, by decide, fun H9 r1 k1 q1 a0 a1 => ?_⟩
    refine ⟨_, rfl, p2, 2, rfl, q1, by decide, by decide, fun H10 r2 k2 q2 b20 b21 => ?_⟩
    rw [e48] at a1
    refine ⟨_, _, rfl, rfl, cp _ (by decide) (by decide), _, _, rfl, rfl, .inl (.inl ⟨by omega, by omega⟩), _, _, rfl, rfl, ?_⟩
    rw [e47]
    refine ⟨_, _, rfl, rfl, cp _ (by decide) (by decide), _, _, rfl, rfl, .inr (wide_mul (a := 200) (b := 200) (by omega) (by decide +kernel) (by decide) (by decide) (by decide)), ?_⟩
    refine ⟨_, rfl, _, _, rfl, rfl, cp _ (by decide) (by decide), p2, _, rfl, q2, by decide, by decide, fun H11 r3 k3 q3 d0 d1 => ⟨_, _, rfl, rfl, ?_⟩⟩
    rw [e47] at d1
    refine ⟨_, rfl, _, _, rfl, rfl, cp _ (by decide) (by decide), p2, _, rfl, q3, by decide, by decide, fun H12 r4 k4 q4 f0 f1 => ?_⟩
    rw [e48] at f1
    refine ⟨_, _, rfl, rfl, cp _ (by decide) (by decide), _, _, rfl, rfl, .inr (wide_mul (a := 200) (b := 200) (by omega) (by decide +kernel) (by decide) (by decide) (by decide)), _, _, rfl, rfl, ?_⟩
    refine ⟨_, rfl, _, _, rfl, rfl, cp _ (by decide) (by decide), p2, _, rfl, q4, by decide, by decide, fun H13 r5 k5 q5 g0 g1 => ⟨_, _, rfl, rfl, ?_⟩⟩
    rw [e47] at g1
    dsimp only
    rw [e47]
    have hT : ((r1 - r2 * 10 ^ 47) * 10 ^ 47 + r3).natAbs < 10 ^ 96 := by omega
    have hB : (1 + r4 * 10 ^ 47 + r5).natAbs < 10 ^ 96 := by omega
    have hB1 : 1 ≤ 1 + r4 * 10 ^ 47 + r5 := by omega
    generalize (r1 - r2 * 10 ^ 47) * 10 ^ 47 + r3 = T2 at hT ⊢
    generalize 1 + r4 * 10 ^ 47 + r5 = B2 at hB hB1 ⊢
    have big4 : (10 : Nat) ^ 96 < 10 ^ 100 := by decide +kernel
    obtain ⟨hN2, hD2, cd2⟩ := gcd_facts T2 B2 hB1 (by omega)
    have hb2 : B2 ≠ 0 := by omega
    have bN2 := rN_le (n := T2) hb2
    have bD2 := rD_le (n := T2) hb2
    have lw2 := wr_len (n := rN T2 B2) (d := rD T2 B2) (k := 96) (by decide) (by omega) (by omega)
    refine ⟨_, rfl, _, rfl, _, rfl, _, _, rfl, abs_0 _, by omega, (by rw [abs_n]; exact prod_lt hT hB (by decide)), ?_⟩
    rw [abs_n]
    refine ⟨_, rfl, _, rfl, _, _, rfl, rfl, cd2 _, _, rfl, _, rfl, _, _, rfl, rfl, cd2 _, _, _, rfl, by rw [hN2]; omega, by rw [hD2]; omega, ?_⟩
    rw [hN2, hD2]
    refine ⟨_, rfl, _, rfl, _, rfl, _, _, rfl, rfl, cd2 _, _, rfl, _, rfl, _, _, rfl, rfl, cd2 _, (by show 2 ≤ sizeLine; decide), fun t ht => ?_⟩
    dsimp only
    rw [hN2, hD2]
    exact ⟨_, _, rfl, by omega, .inr ⟨_, _, t, rfl, good_r hb2, SqT.of upd_same⟩, fun H' _ => q H'⟩
end
theorem all_mk {l : PySem.W.OpenLaw} {w : World} {K : PySem.W.Frag} {h : Heap} {mg : Str → Option Value} {fa C_Ratio C_BadRatio C_CableError : Addr} {f_uhas_digits_only : Addr} {od_uhas_digits_only an_uhas_digits_only : Option Addr} {sl_uhas_digits_only : Array (Option Value)} {oc_uhas_digits_only kV_uhas_digits_only dc_uhas_digits_only pm_uhas_digits_only cd_uhas_digits_only ct_uhas_digits_only : Value} {f_Ratio_init : Addr} {od_Ratio_init an_Ratio_init : Option Addr} {sl_Ratio_init : Array (Option Value)} {oc_Ratio_init kV_Ratio_init dc_Ratio_init pm_Ratio_init cd_Ratio_init ct_Ratio_init : Value} {f_Ratio_str : Addr} {od_Ratio_str an_Ratio_str : Option Addr} {sl_Ratio_str : Array (Option Value)} {oc_Ratio_str kV_Ratio_str dc_Ratio_str pm_Ratio_str cd_Ratio_str ct_Ratio_str : Value} {f_Ratio_parse : Addr} {od_Ratio_parse an_Ratio_parse : Option Addr} {sl_Ratio_parse : Array (Option Value)} {oc_Ratio_parse kV_Ratio_parse dc_Ratio_parse pm_Ratio_parse cd_Ratio_parse ct_Ratio_parse : Value} {p_Ratio_parse : Addr} {rp_Ratio_parse : List Value} {f_Lcell : Addr} {od_Lcell an_Lcell : Option Addr} {sl_Lcell : Array (Option Value)} {oc_Lcell kV_Lcell dc_Lcell pm_Lcell cd_Lcell ct_Lcell : Value} {f_Lpool : Addr} {od_Lpool an_Lpool : Option Addr} {sl_Lpool : Array (Option Value)} {oc_Lpool kV_Lpool dc_Lpool pm_Lpool cd_Lpool ct_Lpool : Value} {f_Ltake : Addr} {od_Ltake an_Ltake : Option Addr} {sl_Ltake : Array (Option Value)} {oc_Ltake kV_Ltake dc_Ltake pm_Ltake cd_Ltake ct_Ltake : Value} {f_Lsame : Addr} {od_Lsame an_Lsame : Option Addr} {sl_Lsame : Array (Option Value)} {oc_Lsame kV_Lsame dc_Lsame pm_Lsame cd_Lsame ct_Lsame : Value} {f_Lnumber : Addr} {od_Lnumber an_Lnumber : Option Addr} {sl_Lnumber : Array (Option Value)} {oc_Lnumber kV_Lnumber dc_Lnumber pm_Lnumber cd_Lnumber ct_Lnumber : Value} {f_Ldivisor : Addr} {od_Ldivisor an_Ldivisor : Option Addr} {sl_Ldivisor : Array (Option Value)} {oc_Ldivisor kV_Ldivisor dc_Ldivisor pm_Ldivisor cd_Ldivisor ct_Ldivisor : Value} {f_Lbig : Addr} {od_Lbig an_Lbig : Option Addr} {sl_Lbig : Array (Option Value)} {oc_Lbig kV_Lbig dc_Lbig pm_Lbig cd_Lbig ct_Lbig : Value} {f_Lsigns : Addr} {od_Lsigns an_Lsigns : Option Addr} {sl_Lsigns : Array (Option Value)} {oc_Lsigns kV_Lsigns dc_Lsigns pm_Lsigns cd_Lsigns ct_Lsigns : Value} {f_Lwritten : Addr} {od_Lwritten an_Lwritten : Option Addr} {sl_Lwritten : Array (Option Value)} {oc_Lwritten kV_Lwritten dc_Lwritten pm_Lwritten cd_Lwritten ct_Lwritten : Value} {f_Ldigits : Addr} {od_Ldigits an_Ldigits : Option Addr} {sl_Ldigits : Array (Option Value)} {oc_Ldigits kV_Ldigits dc_Ldigits pm_Ldigits cd_Ldigits ct_Ldigits : Value} {f_Lreading : Addr} {od_Lreading an_Lreading : Option Addr} {sl_Lreading : Array (Option Value)} {oc_Lreading kV_Lreading dc_Lreading pm_Lreading cd_Lreading ct_Lreading : Value} {f_Lbent : Addr} {od_Lbent an_Lbent : Option Addr} {sl_Lbent : Array (Option Value)} {oc_Lbent kV_Lbent dc_Lbent pm_Lbent cd_Lbent ct_Lbent : Value} {f_Lany : Addr} {od_Lany an_Lany : Option Addr} {sl_Lany : Array (Option Value)} {oc_Lany kV_Lany dc_Lany pm_Lany cd_Lany ct_Lany : Value} {f_Lreads : Addr} {od_Lreads an_Lreads : Option Addr} {sl_Lreads : Array (Option Value)} {oc_Lreads kV_Lreads dc_Lreads pm_Lreads cd_Lreads ct_Lreads : Value} {f_law : Addr} {od_law an_law : Option Addr} {sl_law : Array (Option Value)} {oc_law kV_law dc_law pm_law cd_law ct_law : Value}
    (X : K.In h) (G : h.Ns mainGlobals mg) (hfa : mg "law" = some (.ref fa))
    (g_Ratio : PySem.W.nsIn K mainGlobals "Ratio" = some (some (.ref C_Ratio)))
    (pg_Ratio : PySem.W.plainGet K C_Ratio Str.empty = true)
    (hd_Ratio : PySem.W.hasDictIn K C_Ratio = true)
    (po_Ratio : PySem.W.plainOver K C_Ratio = true)
    (sa_Ratio : PySem.W.findIn K (.ref C_Ratio) "__setattr__" = some (some (.builtin "object.__setattr__")))
    (nf_Ratio_num : PySem.W.findIn K (.ref C_Ratio) "num" = some none)
    (nf_Ratio_den : PySem.W.findIn K (.ref C_Ratio) "den" = some none)
    (racr_Ratio : PySem.W.nsIn K PySem.cStatics "thirdparty.any" = some none)
    (rbcr_Ratio : PySem.W.typeIn K (.ref C_Ratio) = some (.type "type"))
    (rccr_Ratio : PySem.W.findIn K (.type "type") "__getattribute__" = some (some (.builtin "type.__getattribute__")))
    (rdcr_Ratio : PySem.W.subIn K (.type "type") (.type "type") = some true)
    (recr_Ratio : PySem.W.specialIn K (.ref C_Ratio) "__getattribute__" = some (some (.builtin "type.__getattribute__")))
    (ha_Ratio : PySem.W.findIn K (.ref C_Ratio) "__class__" = some (some (.builtin "object.__class__")))
    (hn_Ratio : PySem.W.specialIn K (.builtin "object.__class__") "__get__" = some (some (.builtin "getset_descriptor.__get__")))
    (ht_Ratio : PySem.W.takesIn K (.builtin "object.__class__") = some true)
    (hm_Ratio : PySem.W.mroIn K C_Ratio (.type "object") = some true)
    (me_Ratio : PySem.W.kitOne K (.ref C_Ratio) (.ref C_Ratio) = some true)
    (g_BadRatio : PySem.W.nsIn K mainGlobals "BadRatio" = some (some (.ref C_BadRatio)))
    (x_BadRatio : PySem.W.excIn K C_BadRatio [.type "ValueError", .type "Exception", .type "BaseException", .type "object"] "ValueError.__new__" = true)
    (k_BadRatio : PySem.W.keepIn K (.ref C_BadRatio) = true)
    (b_BadRatio : PySem.W.subIn K (.ref C_BadRatio) (.type "BaseException") = some true)
    (t_BadRatio : PySem.W.typeIn K (.ref C_BadRatio) = some (.type "type"))
    (ic_BadRatio : PySem.W.isClsIn K C_BadRatio = true)
    (s_BadRatio : PySem.W.subIn K (.ref C_BadRatio) (.ref C_BadRatio) = some true)
    (eg_BadRatio : PySem.W.findIn K (.ref C_BadRatio) "__getattribute__" = some (some (.builtin "BaseException.__getattribute__")))
    (ek_BadRatio : PySem.W.findIn K (.ref C_BadRatio) "__getattr__" = some none)
    (ed_BadRatio : PySem.W.hasDictIn K C_BadRatio = true)
    (ea_BadRatio : PySem.W.findIn K (.ref C_BadRatio) "__class__" = some (some (.builtin "object.__class__")))
    (en_BadRatio : PySem.W.specialIn K (.builtin "object.__class__") "__get__" = some (some (.builtin "getset_descriptor.__get__")))
    (et_BadRatio : PySem.W.takesIn K (.builtin "object.__class__") = some true)
    (em_BadRatio : PySem.W.mroIn K C_BadRatio (.type "object") = some true)
    (g_CableError : PySem.W.nsIn K mainGlobals "CableError" = some (some (.ref C_CableError)))
    (n_str : PySem.W.nsIn K mainGlobals "str" = some none)
    (n_int : PySem.W.nsIn K mainGlobals "int" = some none)
    (n_len : PySem.W.nsIn K mainGlobals "len" = some none)
    (n_abs : PySem.W.nsIn K mainGlobals "abs" = some none)
    (n_isinstance : PySem.W.nsIn K mainGlobals "isinstance" = some none)
    (n_bool : PySem.W.nsIn K mainGlobals "bool" = some none)
    (n_tuple : PySem.W.nsIn K mainGlobals "tuple" = some none)
    (n_list : PySem.W.nsIn K mainGlobals "list" = some none)
    (n_range : PySem.W.nsIn K mainGlobals "range" = some none)
    (n_ValueError : PySem.W.nsIn K mainGlobals "ValueError" = some none)
    (gi_gcd : PySem.W.nsIn K mainGlobals "gcd" = some (some (.builtin "math.gcd")))
    (kt_cable : PySem.W.kitOne K (.ref C_BadRatio) (.ref C_CableError) = some true)
    (kt_value : PySem.W.kitOne K (.ref C_BadRatio) (.type "ValueError") = some true)
    (mk_Ratio : PySem.W.makesIn K C_Ratio = true)
    (mkk_Ratio : PySem.W.keepIn K (.ref C_Ratio) = true)
    (a_uhas_digits_only : PySem.W.nsIn K mainGlobals "_has_digits_only" = some (some (.ref f_uhas_digits_only)))
    (l_uhas_digits_only : K.lookup f_uhas_digits_only = some ⟨oc_uhas_digits_only, od_uhas_digits_only, .func (PySem.W.fnOf "_has_digits_only" "_has_digits_only" (defArgs s_uhas_digits_only) (defBody s_uhas_digits_only) (defScope s_uhas_digits_only) .none kV_uhas_digits_only dc_uhas_digits_only pm_uhas_digits_only an_uhas_digits_only cd_uhas_digits_only ct_uhas_digits_only), sl_uhas_digits_only⟩)
    (q_uhas_digits_only : PySem.W.codeIn K cd_uhas_digits_only "_has_digits_only" = true)
    (k_uhas_digits_only : PySem.W.keepIn K (.ref f_uhas_digits_only) = true)
    (a_Ratio_init : PySem.W.findIn K (.ref C_Ratio) "__init__" = some (some (.ref f_Ratio_init)))
    (j_Ratio_init : PySem.W.isFn K (.ref f_Ratio_init) = true)
    (l_Ratio_init : K.lookup f_Ratio_init = some ⟨oc_Ratio_init, od_Ratio_init, .func (PySem.W.fnOf "__init__" "Ratio.__init__" (defArgs s_Ratio_init) (defBody s_Ratio_init) (defScope s_Ratio_init) .none kV_Ratio_init dc_Ratio_init pm_Ratio_init an_Ratio_init cd_Ratio_init ct_Ratio_init), sl_Ratio_init⟩)
    (q_Ratio_init : PySem.W.codeIn K cd_Ratio_init "Ratio.__init__" = true)
    (k_Ratio_init : PySem.W.keepIn K (.ref f_Ratio_init) = true)
    (a_Ratio_str : PySem.W.findIn K (.ref C_Ratio) "__str__" = some (some (.ref f_Ratio_str)))
    (j_Ratio_str : PySem.W.isFn K (.ref f_Ratio_str) = true)
    (l_Ratio_str : K.lookup f_Ratio_str = some ⟨oc_Ratio_str, od_Ratio_str, .func (PySem.W.fnOf "__str__" "Ratio.__str__" (defArgs s_Ratio_str) (defBody s_Ratio_str) (defScope s_Ratio_str) .none kV_Ratio_str dc_Ratio_str pm_Ratio_str an_Ratio_str cd_Ratio_str ct_Ratio_str), sl_Ratio_str⟩)
    (q_Ratio_str : PySem.W.codeIn K cd_Ratio_str "Ratio.__str__" = true)
    (k_Ratio_str : PySem.W.keepIn K (.ref f_Ratio_str) = true)
    (pt_Ratio_parse : PySem.W.findIn K (.type "type") "parse" = some none)
    (pa_Ratio_parse : PySem.W.findIn K (.ref C_Ratio) "parse" = some (some (.ref p_Ratio_parse)))
    (pty_Ratio_parse : PySem.W.typeIn K (.ref p_Ratio_parse) = some (.type "classmethod"))
    (pgt_Ratio_parse : PySem.W.specialIn K (.ref p_Ratio_parse) "__get__" = some (some (.builtin "classmethod.__get__")))
    (prc_Ratio_parse : PySem.W.recIn K p_Ratio_parse "classmethod" = some (.ref f_Ratio_parse :: rp_Ratio_parse))
    (l_Ratio_parse : K.lookup f_Ratio_parse = some ⟨oc_Ratio_parse, od_Ratio_parse, .func (PySem.W.fnOf "parse" "Ratio.parse" (defArgs s_Ratio_parse) (defBody s_Ratio_parse) (defScope s_Ratio_parse) .none kV_Ratio_parse dc_Ratio_parse pm_Ratio_parse an_Ratio_parse cd_Ratio_parse ct_Ratio_parse), sl_Ratio_parse⟩)
    (q_Ratio_parse : PySem.W.codeIn K cd_Ratio_parse "Ratio.parse" = true)
    (k_Ratio_parse : PySem.W.keepIn K (.ref f_Ratio_parse) = true)
    (a_Lcell : PySem.W.nsIn K mainGlobals "_law_cell" = some (some (.ref f_Lcell)))
    (l_Lcell : K.lookup f_Lcell = some ⟨oc_Lcell, od_Lcell, .func (PySem.W.fnOf "_law_cell" "_law_cell" (defArgs s_Lcell) (defBody s_Lcell) (defScope s_Lcell) .none kV_Lcell dc_Lcell pm_Lcell an_Lcell cd_Lcell ct_Lcell), sl_Lcell⟩)
    (q_Lcell : PySem.W.codeIn K cd_Lcell "_law_cell" = true)
    (k_Lcell : PySem.W.keepIn K (.ref f_Lcell) = true)
    (a_Lpool : PySem.W.nsIn K mainGlobals "_law_pool" = some (some (.ref f_Lpool)))
    (l_Lpool : K.lookup f_Lpool = some ⟨oc_Lpool, od_Lpool, .func (PySem.W.fnOf "_law_pool" "_law_pool" (defArgs s_Lpool) (defBody s_Lpool) (defScope s_Lpool) .none kV_Lpool dc_Lpool pm_Lpool an_Lpool cd_Lpool ct_Lpool), sl_Lpool⟩)
    (q_Lpool : PySem.W.codeIn K cd_Lpool "_law_pool" = true)
    (k_Lpool : PySem.W.keepIn K (.ref f_Lpool) = true)
    (a_Ltake : PySem.W.nsIn K mainGlobals "_law_take" = some (some (.ref f_Ltake)))
    (l_Ltake : K.lookup f_Ltake = some ⟨oc_Ltake, od_Ltake, .func (PySem.W.fnOf "_law_take" "_law_take" (defArgs s_Ltake) (defBody s_Ltake) (defScope s_Ltake) .none kV_Ltake dc_Ltake pm_Ltake an_Ltake cd_Ltake ct_Ltake), sl_Ltake⟩)
    (q_Ltake : PySem.W.codeIn K cd_Ltake "_law_take" = true)
    (k_Ltake : PySem.W.keepIn K (.ref f_Ltake) = true)
    (a_Lsame : PySem.W.nsIn K mainGlobals "_law_same" = some (some (.ref f_Lsame)))
    (l_Lsame : K.lookup f_Lsame = some ⟨oc_Lsame, od_Lsame, .func (PySem.W.fnOf "_law_same" "_law_same" (defArgs s_Lsame) (defBody s_Lsame) (defScope s_Lsame) .none kV_Lsame dc_Lsame pm_Lsame an_Lsame cd_Lsame ct_Lsame), sl_Lsame⟩)
    (q_Lsame : PySem.W.codeIn K cd_Lsame "_law_same" = true)
    (k_Lsame : PySem.W.keepIn K (.ref f_Lsame) = true)
    (a_Lnumber : PySem.W.nsIn K mainGlobals "_law_number" = some (some (.ref f_Lnumber)))
    (l_Lnumber : K.lookup f_Lnumber = some ⟨oc_Lnumber, od_Lnumber, .func (PySem.W.fnOf "_law_number" "_law_number" (defArgs s_Lnumber) (defBody s_Lnumber) (defScope s_Lnumber) .none kV_Lnumber dc_Lnumber pm_Lnumber an_Lnumber cd_Lnumber ct_Lnumber), sl_Lnumber⟩)
    (q_Lnumber : PySem.W.codeIn K cd_Lnumber "_law_number" = true)
    (k_Lnumber : PySem.W.keepIn K (.ref f_Lnumber) = true)
    (a_Ldivisor : PySem.W.nsIn K mainGlobals "_law_divisor" = some (some (.ref f_Ldivisor)))
    (l_Ldivisor : K.lookup f_Ldivisor = some ⟨oc_Ldivisor, od_Ldivisor, .func (PySem.W.fnOf "_law_divisor" "_law_divisor" (defArgs s_Ldivisor) (defBody s_Ldivisor) (defScope s_Ldivisor) .none kV_Ldivisor dc_Ldivisor pm_Ldivisor an_Ldivisor cd_Ldivisor ct_Ldivisor), sl_Ldivisor⟩)
    (q_Ldivisor : PySem.W.codeIn K cd_Ldivisor "_law_divisor" = true)
    (k_Ldivisor : PySem.W.keepIn K (.ref f_Ldivisor) = true)
    (a_Lbig : PySem.W.nsIn K mainGlobals "_law_big" = some (some (.ref f_Lbig)))
    (l_Lbig : K.lookup f_Lbig = some ⟨oc_Lbig, od_Lbig, .func (PySem.W.fnOf "_law_big" "_law_big" (defArgs s_Lbig) (defBody s_Lbig) (defScope s_Lbig) .none kV_Lbig dc_Lbig pm_Lbig an_Lbig cd_Lbig ct_Lbig), sl_Lbig⟩)
    (q_Lbig : PySem.W.codeIn K cd_Lbig "_law_big" = true)
    (k_Lbig : PySem.W.keepIn K (.ref f_Lbig) = true)
    (a_Lsigns : PySem.W.nsIn K mainGlobals "_law_signs" = some (some (.ref f_Lsigns)))
    (l_Lsigns : K.lookup f_Lsigns = some ⟨oc_Lsigns, od_Lsigns, .func (PySem.W.fnOf "_law_signs" "_law_signs" (defArgs s_Lsigns) (defBody s_Lsigns) (defScope s_Lsigns) .none kV_Lsigns dc_Lsigns pm_Lsigns an_Lsigns cd_Lsigns ct_Lsigns), sl_Lsigns⟩)
    (q_Lsigns : PySem.W.codeIn K cd_Lsigns "_law_signs" = true)
    (k_Lsigns : PySem.W.keepIn K (.ref f_Lsigns) = true)
    (a_Lwritten : PySem.W.nsIn K mainGlobals "_law_written" = some (some (.ref f_Lwritten)))
    (l_Lwritten : K.lookup f_Lwritten = some ⟨oc_Lwritten, od_Lwritten, .func (PySem.W.fnOf "_law_written" "_law_written" (defArgs s_Lwritten) (defBody s_Lwritten) (defScope s_Lwritten) .none kV_Lwritten dc_Lwritten pm_Lwritten an_Lwritten cd_Lwritten ct_Lwritten), sl_Lwritten⟩)
    (q_Lwritten : PySem.W.codeIn K cd_Lwritten "_law_written" = true)
    (k_Lwritten : PySem.W.keepIn K (.ref f_Lwritten) = true)
    (a_Ldigits : PySem.W.nsIn K mainGlobals "_law_digits" = some (some (.ref f_Ldigits)))
    (l_Ldigits : K.lookup f_Ldigits = some ⟨oc_Ldigits, od_Ldigits, .func (PySem.W.fnOf "_law_digits" "_law_digits" (defArgs s_Ldigits) (defBody s_Ldigits) (defScope s_Ldigits) .none kV_Ldigits dc_Ldigits pm_Ldigits an_Ldigits cd_Ldigits ct_Ldigits), sl_Ldigits⟩)
    (q_Ldigits : PySem.W.codeIn K cd_Ldigits "_law_digits" = true)
    (k_Ldigits : PySem.W.keepIn K (.ref f_Ldigits) = true)
    (a_Lreading : PySem.W.nsIn K mainGlobals "_law_reading" = some (some (.ref f_Lreading)))
    (l_Lreading : K.lookup f_Lreading = some ⟨oc_Lreading, od_Lreading, .func (PySem.W.fnOf "_law_reading" "_law_reading" (defArgs s_Lreading) (defBody s_Lreading) (defScope s_Lreading) .none kV_Lreading dc_Lreading pm_Lreading an_Lreading cd_Lreading ct_Lreading), sl_Lreading⟩)
    (q_Lreading : PySem.W.codeIn K cd_Lreading "_law_reading" = true)
    (k_Lreading : PySem.W.keepIn K (.ref f_Lreading) = true)
    (a_Lbent : PySem.W.nsIn K mainGlobals "_law_bent" = some (some (.ref f_Lbent)))
    (l_Lbent : K.lookup f_Lbent = some ⟨oc_Lbent, od_Lbent, .func (PySem.W.fnOf "_law_bent" "_law_bent" (defArgs s_Lbent) (defBody s_Lbent) (defScope s_Lbent) .none kV_Lbent dc_Lbent pm_Lbent an_Lbent cd_Lbent ct_Lbent), sl_Lbent⟩)
    (q_Lbent : PySem.W.codeIn K cd_Lbent "_law_bent" = true)
    (k_Lbent : PySem.W.keepIn K (.ref f_Lbent) = true)
    (a_Lany : PySem.W.nsIn K mainGlobals "_law_any" = some (some (.ref f_Lany)))
    (l_Lany : K.lookup f_Lany = some ⟨oc_Lany, od_Lany, .func (PySem.W.fnOf "_law_any" "_law_any" (defArgs s_Lany) (defBody s_Lany) (defScope s_Lany) .none kV_Lany dc_Lany pm_Lany an_Lany cd_Lany ct_Lany), sl_Lany⟩)
    (q_Lany : PySem.W.codeIn K cd_Lany "_law_any" = true)
    (k_Lany : PySem.W.keepIn K (.ref f_Lany) = true)
    (a_Lreads : PySem.W.nsIn K mainGlobals "_law_reads" = some (some (.ref f_Lreads)))
    (l_Lreads : K.lookup f_Lreads = some ⟨oc_Lreads, od_Lreads, .func (PySem.W.fnOf "_law_reads" "_law_reads" (defArgs s_Lreads) (defBody s_Lreads) (defScope s_Lreads) .none kV_Lreads dc_Lreads pm_Lreads an_Lreads cd_Lreads ct_Lreads), sl_Lreads⟩)
    (q_Lreads : PySem.W.codeIn K cd_Lreads "_law_reads" = true)
    (k_Lreads : PySem.W.keepIn K (.ref f_Lreads) = true)
    (a_law : PySem.W.nsIn K mainGlobals "law" = some (some (.ref f_law)))
    (l_law : K.lookup f_law = some ⟨oc_law, od_law, .func (PySem.W.fnOf "law" "law" (defArgs s_law) (defBody s_law) (defScope s_law) .none kV_law dc_law pm_law an_law cd_law ct_law), sl_law⟩)
    (q_law : PySem.W.codeIn K cd_law "law" = true)
    (k_law : PySem.W.keepIn K (.ref f_law) = true) :
    ∃ fd : FuncData, (∀ (s : Shared) (v : Value), BindsTo s fd ⟨[v], []⟩ [("_law_script", v)]) ∧ ∀ base : Heap, K.In base → base.Ns mainGlobals mg → FnOk l.prog w K mg base CX0 11 fa fd ["_law_script"] (sp_law K) := by
  have e := hfa.symm.trans (PySem.W.mg_of X G a_law)
  cases e
  have T : Txt l.prog w K mg C_Ratio C_BadRatio C_CableError := ⟨PySem.W.mg_of X G g_Ratio, ⟨pg_Ratio, hd_Ratio, po_Ratio, sa_Ratio⟩, nf_Ratio_num, nf_Ratio_den, clm_rd racr_Ratio rbcr_Ratio rccr_Ratio rdcr_Ratio recr_Ratio, ⟨⟨pg_Ratio, hd_Ratio, po_Ratio, sa_Ratio⟩, ha_Ratio, hn_Ratio, ht_Ratio, hm_Ratio, me_Ratio⟩, PySem.W.mg_of X G g_BadRatio, x_BadRatio, k_BadRatio, b_BadRatio, t_BadRatio, ic_BadRatio, s_BadRatio, ⟨eg_BadRatio, ek_BadRatio, b_BadRatio, ed_BadRatio, ea_BadRatio, en_BadRatio, et_BadRatio, em_BadRatio⟩, PySem.W.mg_of X G g_CableError, PySem.W.mg_none_of X G n_str, PySem.W.mg_none_of X G n_int, PySem.W.mg_none_of X G n_len, PySem.W.mg_none_of X G n_abs, PySem.W.mg_none_of X G n_isinstance, PySem.W.mg_none_of X G n_bool, PySem.W.mg_none_of X G n_tuple, PySem.W.mg_none_of X G n_list, PySem.W.mg_none_of X G n_range, PySem.W.mg_none_of X G n_ValueError, PySem.W.mg_of X G gi_gcd, kt_cable, kt_value⟩
  have F_uhas_digits_only := fun_mk (st := s_uhas_digits_only) l_uhas_digits_only q_uhas_digits_only k_uhas_digits_only
  have b_uhas_digits_only := F_uhas_digits_only.binds (ps := ["text"]) fun _ _ _ _ _ _ us hl => match us, hl with | [_], _ => rfl
  have F_Ratio_init := fun_mk (st := s_Ratio_init) l_Ratio_init q_Ratio_init k_Ratio_init
  have b_Ratio_init := F_Ratio_init.binds (ps := ["self", "num", "den"]) fun _ _ _ _ _ _ us hl => match us, hl with | [_, _, _], _ => rfl
  have F_Ratio_str := fun_mk (st := s_Ratio_str) l_Ratio_str q_Ratio_str k_Ratio_str
  have b_Ratio_str := F_Ratio_str.binds (ps := ["self"]) fun _ _ _ _ _ _ us hl => match us, hl with | [_], _ => rfl
  have F_Ratio_parse := fun_mk (st := s_Ratio_parse) l_Ratio_parse q_Ratio_parse k_Ratio_parse
  have b_Ratio_parse := F_Ratio_parse.binds (ps := ["cls", "text"]) fun _ _ _ _ _ _ us hl => match us, hl with | [_, _], _ => rfl
  have F_Lcell := fun_mk (st := s_Lcell) l_Lcell q_Lcell k_Lcell
  have b_Lcell := F_Lcell.binds (ps := ["_law_script", "_law_at"]) fun _ _ _ _ _ _ us hl => match us, hl with | [_, _], _ => rfl
  have F_Lpool := fun_mk (st := s_Lpool) l_Lpool q_Lpool k_Lpool
  have b_Lpool := F_Lpool.binds (ps := ["_law_cell_here"]) fun _ _ _ _ _ _ us hl => match us, hl with | [_], _ => rfl
  have F_Ltake := fun_mk (st := s_Ltake) l_Ltake q_Ltake k_Ltake
  have b_Ltake := F_Ltake.binds (ps := ["_law_pool_here", "_law_many"]) fun _ _ _ _ _ _ us hl => match us, hl with | [_, _], _ => rfl
  have F_Lsame := fun_mk (st := s_Lsame) l_Lsame q_Lsame k_Lsame
  have b_Lsame := F_Lsame.binds (ps := ["_law_told", "_law_due"]) fun _ _ _ _ _ _ us hl => match us, hl with | [_, _], _ => rfl
  have F_Lnumber := fun_mk (st := s_Lnumber) l_Lnumber q_Lnumber k_Lnumber
  have b_Lnumber := F_Lnumber.binds (ps := ["_law_pool_here", "_law_blocks"]) fun _ _ _ _ _ _ us hl => match us, hl with | [_, _], _ => rfl
  have F_Ldivisor := fun_mk (st := s_Ldivisor) l_Ldivisor q_Ldivisor k_Ldivisor
  have b_Ldivisor := F_Ldivisor.binds (ps := ["_law_one", "_law_two"]) fun _ _ _ _ _ _ us hl => match us, hl with | [_, _], _ => rfl
  have F_Lbig := fun_mk (st := s_Lbig) l_Lbig q_Lbig k_Lbig
  have b_Lbig := F_Lbig.binds (ps := ["_law_pool_here"]) fun _ _ _ _ _ _ us hl => match us, hl with | [_], _ => rfl
  have F_Lsigns := fun_mk (st := s_Lsigns) l_Lsigns q_Lsigns k_Lsigns
  have b_Lsigns := F_Lsigns.binds (ps := []) fun _ _ _ _ _ _ us hl => match us, hl with | [], _ => rfl
  have F_Lwritten := fun_mk (st := s_Lwritten) l_Lwritten q_Lwritten k_Lwritten
  have b_Lwritten := F_Lwritten.binds (ps := ["_law_num", "_law_den"]) fun _ _ _ _ _ _ us hl => match us, hl with | [_, _], _ => rfl
  have F_Ldigits := fun_mk (st := s_Ldigits) l_Ldigits q_Ldigits k_Ldigits
  have b_Ldigits := F_Ldigits.binds (ps := ["_law_part"]) fun _ _ _ _ _ _ us hl => match us, hl with | [_], _ => rfl
  have F_Lreading := fun_mk (st := s_Lreading) l_Lreading q_Lreading k_Lreading
  have b_Lreading := F_Lreading.binds (ps := ["_law_text"]) fun _ _ _ _ _ _ us hl => match us, hl with | [_], _ => rfl
  have F_Lbent := fun_mk (st := s_Lbent) l_Lbent q_Lbent k_Lbent
  have b_Lbent := F_Lbent.binds (ps := ["_law_pool_here", "_law_text", "_law_signs_here"]) fun _ _ _ _ _ _ us hl => match us, hl with | [_, _, _], _ => rfl
  have F_Lany := fun_mk (st := s_Lany) l_Lany q_Lany k_Lany
  have b_Lany := F_Lany.binds (ps := ["_law_pool_here", "_law_signs_here"]) fun _ _ _ _ _ _ us hl => match us, hl with | [_, _], _ => rfl
  have F_Lreads := fun_mk (st := s_Lreads) l_Lreads q_Lreads k_Lreads
  have b_Lreads := F_Lreads.binds (ps := ["_law_text", "_law_due"]) fun _ _ _ _ _ _ us hl => match us, hl with | [_, _], _ => rfl
  refine ⟨PySem.W.fnOf "law" "law" (defArgs s_law) (defBody s_law) (defScope s_law) .none kV_law dc_law pm_law an_law cd_law ct_law, fun s v => .of_eq rfl, fun base _ _ => ?_⟩
  have c_uhas_digits_only := cal_mk (ok_uhas_digits_only (P := l.prog) (w := w) (base := base) F_uhas_digits_only T ) (PySem.W.mg_of X G a_uhas_digits_only) k_uhas_digits_only b_uhas_digits_only
  have c_Ratio := mak_mk (ok_Ratio_init (P := l.prog) (w := w) (base := base) F_Ratio_init T ) (T.g_Ratio) ⟨mk_Ratio, a_Ratio_init, j_Ratio_init, mkk_Ratio⟩ b_Ratio_init
  have c_Ratio_str := met_mk (ok_Ratio_str (P := l.prog) (w := w) (base := base) F_Ratio_str T ) T.cl_Ratio ⟨a_Ratio_str, j_Ratio_str, k_Ratio_str⟩ b_Ratio_str (fn_in l_Ratio_str)
  have c_Ratio_parse := clm_mk (ok_Ratio_parse (P := l.prog) (w := w) (base := base) F_Ratio_parse T c_uhas_digits_only c_Ratio c_Ratio_str) T.cr_Ratio (clm_at pt_Ratio_parse pa_Ratio_parse pty_Ratio_parse pgt_Ratio_parse prc_Ratio_parse (fn_in l_Ratio_parse)) b_Ratio_parse
  have c_Lcell := cal_mk (ok_Lcell (P := l.prog) (w := w) (base := base) F_Lcell T ) (PySem.W.mg_of X G a_Lcell) k_Lcell b_Lcell
  have c_Lpool := cal_mk (ok_Lpool (P := l.prog) (w := w) (base := base) F_Lpool T ) (PySem.W.mg_of X G a_Lpool) k_Lpool b_Lpool
  have c_Ltake := cal_mk (ok_Ltake (P := l.prog) (w := w) (base := base) F_Ltake T ) (PySem.W.mg_of X G a_Ltake) k_Ltake b_Ltake
  have c_Lsame := cal_mk (ok_Lsame (P := l.prog) (w := w) (base := base) F_Lsame T (PySem.W.mg_of X G a_Lsame) k_Lsame b_Lsame 2) (PySem.W.mg_of X G a_Lsame) k_Lsame b_Lsame
  have c_Lnumber := cal_mk (ok_Lnumber (P := l.prog) (w := w) (base := base) F_Lnumber T c_Ltake) (PySem.W.mg_of X G a_Lnumber) k_Lnumber b_Lnumber
  have c_Ldivisor := cal_mk (ok_Ldivisor (P := l.prog) (w := w) (base := base) F_Ldivisor T ) (PySem.W.mg_of X G a_Ldivisor) k_Ldivisor b_Ldivisor
  have c_Lbig := cal_mk (ok_Lbig (P := l.prog) (w := w) (base := base) F_Lbig T c_Lnumber c_Ltake) (PySem.W.mg_of X G a_Lbig) k_Lbig b_Lbig
  have c_Lsigns := cal_mk (ok_Lsigns (P := l.prog) (w := w) (base := base) F_Lsigns T ) (PySem.W.mg_of X G a_Lsigns) k_Lsigns b_Lsigns
  have c_Lwritten := cal_mk (ok_Lwritten (P := l.prog) (w := w) (base := base) F_Lwritten T ) (PySem.W.mg_of X G a_Lwritten) k_Lwritten b_Lwritten
  have c_Ldigits := cal_mk (ok_Ldigits (P := l.prog) (w := w) (base := base) F_Ldigits T ) (PySem.W.mg_of X G a_Ldigits) k_Ldigits b_Ldigits
  have c_Lreading := cal_mk (ok_Lreading (P := l.prog) (w := w) (base := base) F_Lreading T c_Ldigits c_Ldivisor) (PySem.W.mg_of X G a_Lreading) k_Lreading b_Lreading
  have c_Lbent := cal_mk (ok_Lbent (P := l.prog) (w := w) (base := base) F_Lbent T c_Ltake) (PySem.W.mg_of X G a_Lbent) k_Lbent b_Lbent
  have c_Lany := cal_mk (ok_Lany (P := l.prog) (w := w) (base := base) F_Lany T c_Ltake) (PySem.W.mg_of X G a_Lany) k_Lany b_Lany
  have c_Lreads := cal_mk (ok_Lreads (P := l.prog) (w := w) (base := base) F_Lreads T c_Ratio_parse c_Lsame c_Ratio_str) (PySem.W.mg_of X G a_Lreads) k_Lreads b_Lreads
  exact ok_law (fun_mk (st := s_law) l_law q_law k_law) T c_Lbig c_Lpool c_Lcell c_Ldivisor c_Lwritten c_Lsame c_Ratio_str c_Ratio c_Lreads c_Lbent c_Lsigns c_Ltake c_Lany c_Lreading

theorem walk {l : PySem.W.OpenLaw} {q : Program} {loose : List Str} {XP : (Str → Option Value) → Heap → Prop} {YP : World → Heap → Prop} {d : DefRec} {K : Params → PySem.W.Frag} (hn : l.most = some 63) (hdf : d.params.defaults = [])
    (hY : ∀ (w : World) (h : Heap), YP w h → (K w.params).In h)
    (F : ∀ (w : World) (mg : Str → Option Value) (fa : Addr) (h : Heap), (K w.params).In h → h.Ns mainGlobals mg → mg d.name = some (.ref fa) →
      ∃ fd : FuncData, (∀ (s : Shared) (u : Value), BindsTo s fd ⟨[u], []⟩ [("_law_script", u)]) ∧ ∀ base : Heap, (K w.params).In base → base.Ns mainGlobals mg → FnOk l.prog w (K w.params) mg base CX0 11 fa fd ["_law_script"] (sp_law (K w.params))) :
    PySem.W.WalkO q loose XP YP l.row.toRowW d [] (fun f vs => PySem.call f vs) :=
  L2.walk_of (n := 63) (k := 11) (x := "_law_script") (CX := fun _ => CX0) (sp := fun w => sp_law (K w.params)) hn (by decide) hdf ⟨rfl, by decide, by decide⟩ hY F (fun _ _ a ns hl _ hS => ⟨a, ns, rfl, hS, hl, fun _ => rfl⟩) fun _ _ _ _ _ z => z
end My

open PySem PySem.W PyProof.Rows in
set_option maxRecDepth 100000 in
set_option maxHeartbeats 0 in
theorem PySem.Challenge.cw_onecable_k04_ratio_text_there_and_back_holds : PySem.Challenge.rw_onecable_k04_ratio_text_there_and_back.Holds := by
  w_on; o_law; k_head; (case hw => w_witness2)
  k_fill
  refine My.walk (l := PySem.Challenge.rw_onecable_k04_ratio_text_there_and_back) rfl rfl (fun w h Y => PySem.W.kIn_of Y) ?F
  case F =>
    intro w mg fa h KX G hmg
    refine' My.all_mk KX G hmg ?g_Ratio ?pg_Ratio ?hd_Ratio ?po_Ratio ?sa_Ratio ?nf_Ratio_num ?nf_Ratio_den ?racr_Ratio ?rbcr_Ratio ?rccr_Ratio ?rdcr_Ratio ?recr_Ratio ?ha_Ratio ?hn_Ratio ?ht_Ratio ?hm_Ratio ?me_Ratio ?g_BadRatio ?x_BadRatio ?k_BadRatio ?b_BadRatio ?t_BadRatio ?ic_BadRatio ?s_BadRatio ?eg_BadRatio ?ek_BadRatio ?ed_BadRatio ?ea_BadRatio ?en_BadRatio ?et_BadRatio ?em_BadRatio ?g_CableError ?n_str ?n_int ?n_len ?n_abs ?n_isinstance ?n_bool ?n_tuple ?n_list ?n_range ?n_ValueError ?gi_gcd ?kt_cable ?kt_value ?mk_Ratio ?mkk_Ratio ?a_uhas_digits_only ?l_uhas_digits_only ?q_uhas_digits_only ?k_uhas_digits_only ?a_Ratio_init ?j_Ratio_init ?l_Ratio_init ?q_Ratio_init ?k_Ratio_init ?a_Ratio_str ?j_Ratio_str ?l_Ratio_str ?q_Ratio_str ?k_Ratio_str ?pt_Ratio_parse ?pa_Ratio_parse ?pty_Ratio_parse ?pgt_Ratio_parse ?prc_Ratio_parse ?l_Ratio_parse ?q_Ratio_parse ?k_Ratio_parse ?a_Lcell ?l_Lcell ?q_Lcell ?k_Lcell ?a_Lpool ?l_Lpool ?q_Lpool ?k_Lpool ?a_Ltake ?l_Ltake ?q_Ltake ?k_Ltake ?a_Lsame ?l_Lsame ?q_Lsame ?k_Lsame ?a_Lnumber ?l_Lnumber ?q_Lnumber ?k_Lnumber ?a_Ldivisor ?l_Ldivisor ?q_Ldivisor ?k_Ldivisor ?a_Lbig ?l_Lbig ?q_Lbig ?k_Lbig ?a_Lsigns ?l_Lsigns ?q_Lsigns ?k_Lsigns ?a_Lwritten ?l_Lwritten ?q_Lwritten ?k_Lwritten ?a_Ldigits ?l_Ldigits ?q_Ldigits ?k_Ldigits ?a_Lreading ?l_Lreading ?q_Lreading ?k_Lreading ?a_Lbent ?l_Lbent ?q_Lbent ?k_Lbent ?a_Lany ?l_Lany ?q_Lany ?k_Lany ?a_Lreads ?l_Lreads ?q_Lreads ?k_Lreads ?a_law ?l_law ?q_law ?k_law
    (case g_Ratio => k_is)
    (case pg_Ratio => k_is)
    (case hd_Ratio => k_is)
    (case po_Ratio => k_is)
    (case sa_Ratio => k_is)
    (case nf_Ratio_num => k_is)
    (case nf_Ratio_den => k_is)
    (case racr_Ratio => k_is)
    (case rbcr_Ratio => k_is)
    (case rccr_Ratio => k_is)
    (case rdcr_Ratio => k_is)
    (case recr_Ratio => k_is)
    (case ha_Ratio => k_is)
    (case hn_Ratio => k_is)
    (case ht_Ratio => k_is)
    (case hm_Ratio => k_is)
    (case me_Ratio => kit_is)
    (case g_BadRatio => k_is)
    (case x_BadRatio => k_exc)
    (case k_BadRatio => k_is)
    (case b_BadRatio => k_is)
    (case t_BadRatio => k_is)
    (case ic_BadRatio => k_is)
    (case s_BadRatio => first | rfl | decide | k_is)
    (case eg_BadRatio => k_is)
    (case ek_BadRatio => k_is)
    (case ed_BadRatio => k_is)
    (case ea_BadRatio => k_is)
    (case en_BadRatio => k_is)
    (case et_BadRatio => k_is)
    (case em_BadRatio => k_is)
    (case g_CableError => k_is)
    (case n_str => k_is)
    (case n_int => k_is)
    (case n_len => k_is)
    (case n_abs => k_is)
    (case n_isinstance => k_is)
    (case n_bool => k_is)
    (case n_tuple => k_is)
    (case n_list => k_is)
    (case n_range => k_is)
    (case n_ValueError => k_is)
    (case gi_gcd => k_is)
    (case kt_cable => kit_is)
    (case kt_value => kit_is)
    (case mk_Ratio => k_is)
    (case mkk_Ratio => k_is)
    (case a_uhas_digits_only => k_is)
    (case l_uhas_digits_only => k_is)
    (case q_uhas_digits_only => k_is)
    (case k_uhas_digits_only => k_is)
    (case a_Ratio_init => k_is)
    (case j_Ratio_init => k_is)
    (case l_Ratio_init => k_is)
    (case q_Ratio_init => k_is)
    (case k_Ratio_init => k_is)
    (case a_Ratio_str => k_is)
    (case j_Ratio_str => k_is)
    (case l_Ratio_str => k_is)
    (case q_Ratio_str => k_is)
    (case k_Ratio_str => k_is)
    (case pt_Ratio_parse => k_is)
    (case pa_Ratio_parse => k_is)
    (case pty_Ratio_parse => k_is)
    (case pgt_Ratio_parse => k_is)
    (case prc_Ratio_parse => k_is)
    (case l_Ratio_parse => k_is)
    (case q_Ratio_parse => k_is)
    (case k_Ratio_parse => k_is)
    (case a_Lcell => k_is)
    (case l_Lcell => k_is)
    (case q_Lcell => k_is)
    (case k_Lcell => k_is)
    (case a_Lpool => k_is)
    (case l_Lpool => k_is)
    (case q_Lpool => k_is)
    (case k_Lpool => k_is)
    (case a_Ltake => k_is)
    (case l_Ltake => k_is)
    (case q_Ltake => k_is)
    (case k_Ltake => k_is)
    (case a_Lsame => k_is)
    (case l_Lsame => k_is)
    (case q_Lsame => k_is)
    (case k_Lsame => k_is)
    (case a_Lnumber => k_is)
    (case l_Lnumber => k_is)
    (case q_Lnumber => k_is)
    (case k_Lnumber => k_is)
    (case a_Ldivisor => k_is)
    (case l_Ldivisor => k_is)
    (case q_Ldivisor => k_is)
    (case k_Ldivisor => k_is)
    (case a_Lbig => k_is)
    (case l_Lbig => k_is)
    (case q_Lbig => k_is)
    (case k_Lbig => k_is)
    (case a_Lsigns => k_is)
    (case l_Lsigns => k_is)
    (case q_Lsigns => k_is)
    (case k_Lsigns => k_is)
    (case a_Lwritten => k_is)
    (case l_Lwritten => k_is)
    (case q_Lwritten => k_is)
    (case k_Lwritten => k_is)
    (case a_Ldigits => k_is)
    (case l_Ldigits => k_is)
    (case q_Ldigits => k_is)
    (case k_Ldigits => k_is)
    (case a_Lreading => k_is)
    (case l_Lreading => k_is)
    (case q_Lreading => k_is)
    (case k_Lreading => k_is)
    (case a_Lbent => k_is)
    (case l_Lbent => k_is)
    (case q_Lbent => k_is)
    (case k_Lbent => k_is)
    (case a_Lany => k_is)
    (case l_Lany => k_is)
    (case q_Lany => k_is)
    (case k_Lany => k_is)
    (case a_Lreads => k_is)
    (case l_Lreads => k_is)
    (case q_Lreads => k_is)
    (case k_Lreads => k_is)
    (case a_law => k_is)
    (case l_law => k_is)
    (case q_law => k_is)
    (case k_law => k_is)

