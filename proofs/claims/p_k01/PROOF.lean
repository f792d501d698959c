import PyProof.Rows.All
import Wide.All
import OpenK.AllK
import Wide.FinOn
import HandS.ForExc
import HandS.Wide
import HandS.Gcd
import HandS.Codes
import HandS.IsInst
import HandS.ExcIs
import KE.RegKIsAll
import PySem.Challenge.RW_onecable_k01_ratio_in_lowest_terms
set_option Elab.async false
set_option maxRecDepth 100000
set_option maxHeartbeats 4000000
set_option linter.all false
namespace My
open PySem PySem.Spec PyProof.Rows L2
/-! ### callables of the text: a def by its name, a method, a class -/
structure Cal (CX : CXT) (P : Program) (w : World) (K : PySem.W.Frag) (mg : Str → Option Value) (base : Heap) (k : Nat) (x : Str) (sp : Sp) : Prop where
  ex : ∃ (f : Addr) (fd : FuncData) (ps : List Str), FnOk P w K mg base CX k f fd ps sp ∧ mg x = some (.ref f) ∧ PySem.W.keepIn K (.ref f) = true ∧ Binds K fd ps []
structure Met (CX : CXT) (P : Program) (w : World) (K : PySem.W.Frag) (mg : Str → Option Value) (base : Heap) (k : Nat) (C : Addr) (m : Str) (sp : Sp) : Prop where
  ex : ∃ (f : Addr) (fd : FuncData) (ps : List Str), Cls K C ∧ Meth K C m f ∧ FnOk P w K mg base CX k f fd ps sp ∧ Binds K fd ps []
structure Mak (CX : CXT) (P : Program) (w : World) (K : PySem.W.Frag) (mg : Str → Option Value) (base : Heap) (k : Nat) (x : Str) (C : Addr) (sp : Sp) : Prop where
  ex : ∃ (f : Addr) (fd : FuncData) (ps : List Str), Mk K C f ∧ FnOk P w K mg base CX k f fd ps sp ∧ mg x = some (.ref C) ∧ Binds K fd ps []
section
variable {CX : CXT} {P : Program} {w : World} {K : PySem.W.Frag} {mg : Str → Option Value} {base : Heap} {k : Nat} {x m : Str} {f C : Addr} {fd : FuncData} {ps : List Str} {sp : Sp}
theorem cal_mk (F : FnOk P w K mg base CX k f fd ps sp) (m : mg x = some (.ref f)) (kp : PySem.W.keepIn K (.ref f) = true) (b : Binds K fd ps []) : Cal CX P w K mg base k x sp := ⟨f, fd, ps, F, m, kp, b⟩
theorem met_mk (F : FnOk P w K mg base CX k f fd ps sp) (c : Cls K C) (me : Meth K C m f) (b : Binds K fd ps []) : Met CX P w K mg base k C m sp := ⟨f, fd, ps, c, me, F, b⟩
theorem mak_mk (F : FnOk P w K mg base CX k f fd ps sp) (m : mg x = some (.ref C)) (M : Mk K C f) (b : Binds K fd ps []) : Mak CX P w K mg base k x C sp := ⟨f, fd, ps, M, F, m, b⟩
end
section
variable {X : Cx} {CX : CXT} {k j : Nat} {C : Addr} {x m : Str} {sp : Sp} {E : XK} {p pos apos : Pos} {e o : Expr} {es : List Expr} {ta : TE} {t : TA}
theorem pc_c (c : Cal CX X.prog X.w X.K X.mg X.base k x sp) (hr : Room j X.A) (hk : k ≤ j) (hg : Gl X x) (hx : Passes CX X E) (ha : PA X (e :: es) t)
    (hdb : (x == ("__debug__" : Str)) = false := by decide) (he : starEach (e :: es) X.env = (false, eval e X.env) :: starEach es X.env := by rfl) (hpl : (backTo pos (starEach es X.env)).any (·.1) = false := by rfl) :
    PE X (.Call (.Name x p) (e :: es) [] pos) (tCall sp [] E t) := by
  obtain ⟨f, fd, ps, F, hm, kp, b⟩ := c.ex
  exact pe_call F (hr.mono hk) hg hm kp b .nil hx ha hdb he hpl
theorem pc_cS {E : L2.St → XK} (c : Cal CX X.prog X.w X.K X.mg X.base k x sp) (hr : Room j X.A) (hk : k ≤ j) (hg : Gl X x) (hx : ∀ σ, PassesAt CX X σ (E σ)) (ha : PA X (e :: es) t)
    (hdb : (x == ("__debug__" : Str)) = false := by decide) (he : starEach (e :: es) X.env = (false, eval e X.env) :: starEach es X.env := by rfl) (hpl : (backTo pos (starEach es X.env)).any (·.1) = false := by rfl) :
    PE X (.Call (.Name x p) (e :: es) [] pos) (tCallS sp E t) := by
  obtain ⟨f, fd, ps, F, hm, kp, b⟩ := c.ex
  exact pe_callS F (hr.mono hk) hg hm kp b hx ha hdb he hpl
theorem pc_mk (c : Mak CX X.prog X.w X.K X.mg X.base k x C sp) (hr : Room j X.A) (hk : k + 1 ≤ j) (hg : Gl X x) (hx : Passes CX X E) (ha : PA X (e :: es) t)
    (hdb : (x == ("__debug__" : Str)) = false := by decide) (he : starEach (e :: es) X.env = (false, eval e X.env) :: starEach es X.env := by rfl) (hpl : (backTo pos (starEach es X.env)).any (·.1) = false := by rfl) :
    PE X (.Call (.Name x p) (e :: es) [] pos) (tMake C sp [] E t) := by
  obtain ⟨f, fd, ps, M, F, hm, b⟩ := c.ex
  exact pe_make M F (hr.mono hk) hg hm b .nil hx ha hdb he hpl
/-- a class made where a try stands around: what is raised is wished for at the slots -/
def tMakeS (C : Addr) (sp : Sp) (E : L2.St → XK) (t : TA) : TE := fun σ H Q => t σ H fun vs H1 => ∀ x dx, H1 x = none → H1 dx = none → dx ≠ x →
  sp (.ref x :: (vs ++ [])) (upd (upd H1 dx (.own x)) x (.ins C dx [])) (fun v H2 => v = .non ∧ Q (.ref x) H2) (E σ)
theorem run_mkS {f : Addr} {fd : FuncData} {ps : List Str} {ds : List Value} {dvs : List V} {pins : List (Addr × Obj)} {σ : L2.St} {H : Hp} {s : Shared} {Q : VK} {us : List Value} {vs : List V} (M : Mk X.K C f) (F : FnOk X.prog X.w X.K X.mg X.base CX k f fd ps sp) (hr : Room (k + 1) X.A) (hb : Binds X.K fd ps ds) (hd : Vals dvs ds)
    (hx : PassesAt CX X σ E) (I : Inv X pins σ H s) (r : Vals vs us)
    (h : ∀ x dx, H x = none → H dx = none → dx ≠ x → sp (.ref x :: (vs ++ dvs)) (upd (upd H dx (.own x)) x (.ins C dx [])) (fun v H2 => v = .non ∧ Q (.ref x) H2) E) :
    wpAny (model X.prog X.w) X.A (call (.ref C) us) (EP X pins σ Q) X.xe s := by
  have hq := h (s.heap.objs.size + 1) s.heap.objs.size (I.hok.fresh (Nat.le_succ _)) (I.hok.fresh (Nat.le_refl _)) (Nat.ne_of_lt (Nat.lt_succ_self _))
  have I2 := Inv.made (C := C) I
  have r2 : Vals (V.ref (s.heap.objs.size + 1) :: (vs ++ dvs)) (Value.ref (s.heap.objs.size + 1) :: (us ++ ds)) := .cons rfl (r.append hd)
  have hl : (Value.ref (s.heap.objs.size + 1) :: us ++ ds).length = ps.length := by
    have e := r2.length
    rw [F.len _ _ _ _ hq] at e
    exact e.symm
  refine wpAny_call (make_map (f := f) I.kIn M.makes M.init (beq_iff_eq.mp M.fn) (codeAny_mono (F.run _ X.stack _ _ ⟨Value.ref (s.heap.objs.size + 1) :: us, []⟩ (Value.ref (s.heap.objs.size + 1) :: (us ++ ds)) _ _ E (hr.make C us [])
    (I2.env0.make C us []) (hb _ (Value.ref (s.heap.objs.size + 1) :: us) I2.kIn hl) r2 hq) fun r s' hq' => ?_))
  cases r with
  | error e => exact hx pins _ _ e s' I2 hq'
  | ok fl =>
    cases fl with
    | ret u =>
      obtain ⟨v, H', I3, rv, ev, q3⟩ := I2.after hq'
      subst ev
      exact ⟨rv, ⟨V.ref (s.heap.objs.size + 1), H', I3, rfl, q3⟩⟩
    | next => exact False.elim hq'
    | brk => exact False.elim hq'
    | cont => exact False.elim hq'
theorem pc_mkS {E : L2.St → XK} (c : Mak CX X.prog X.w X.K X.mg X.base k x C sp) (hr : Room j X.A) (hk : k + 1 ≤ j) (hg : Gl X x) (hx : ∀ σ, PassesAt CX X σ (E σ)) (ha : PA X (e :: es) t)
    (hdb : (x == ("__debug__" : Str)) = false := by decide) (he : starEach (e :: es) X.env = (false, eval e X.env) :: starEach es X.env := by rfl) (hpl : (backTo pos (starEach es X.env)).any (·.1) = false := by rfl) :
    PE X (.Call (.Name x p) (e :: es) [] pos) (tMakeS C sp E t) := by
  obtain ⟨f, fd, ps, M, F, hm, b⟩ := c.ex
  refine ⟨fun pins s σ H Q I h => ?_⟩
  refine wpAny_Call_Name_kw (ld_glob I hg hm ?_ hdb)
  refine PySem.W.callWith_K (h₀ := X.base) I.ok.mod.kin M.kp (thn (ha.run pos pins s σ H _ I h) fun us s1 ⟨vs, H1, I1, r, q⟩ => ⟨I1.kIn, ?_⟩) he hpl
  exact run_mkS M F (hr.mono hk) b .nil (hx σ) I1 r q
theorem pc_mt {pl : Sem Bool} (c : Met CX X.prog X.w X.K X.mg X.base k C m sp) (hr : Room j X.A) (hk : k ≤ j) (hx : Passes CX X E) (he : PE X o ta) (ha : PA X (e :: es) t)
    (hst : starEach (e :: es) X.env = (false, eval e X.env) :: starEach es X.env := by rfl) (hpl : (backTo pos (starEach es X.env)).any (·.1) = false := by rfl)
    (ht : eval (.Call (.Attribute o m apos) (e :: es) [] pos) X.env = (do
      let ov ← eval o X.env
      standAt apos.atName
      let (f, first) ← holding [ov] (getMethod ov m pl)
      callWith pos f first (backTo pos (starEach (e :: es) X.env)) (backToKw pos (keywordEach [] X.env))) := by rfl) :
    PE X (.Call (.Attribute o m apos) (e :: es) [] pos) (tMeth C m sp [] E ta t) := by
  obtain ⟨f, fd, ps, hc, hm, F, b⟩ := c.ex
  exact pe_meth (pl := pl) he hc hm F (hr.mono hk) b .nil hx ha hst hpl ht
theorem pc_mt0 {pl : Sem Bool} (c : Met CX X.prog X.w X.K X.mg X.base k C m sp) (hr : Room j X.A) (hk : k ≤ j) (hx : Passes CX X E) (he : PE X o ta)
    (ht : eval (.Call (.Attribute o m apos) [] [] pos) X.env = (do
      let ov ← eval o X.env
      standAt apos.atName
      let (f, first) ← holding [ov] (getMethod ov m pl)
      callWith pos f first (backTo pos (starEach [] X.env)) (backToKw pos (keywordEach [] X.env))) := by rfl) :
    PE X (.Call (.Attribute o m apos) [] [] pos) (tMeth C m sp [] E ta tNil) := by
  obtain ⟨f, fd, ps, hc, hm, F, b⟩ := c.ex
  exact pe_meth0 (pl := pl) he hc hm F (hr.mono hk) b .nil hx ht
/-! ### further operators -/
/-- * : one factor small, or both below a million bits together -/
def CMulA (i j : Int) : Prop := CMul i j ∨ CMulW i j
theorem op_mulA : OpR X (binaryOp .Mult) (rI CMulA fun i j => .int (i * j)) := opI fun _ _ _ _ _ _ _ hc q => mul_int q (hc.elim CMul.ok CMulW.ok)
/-- // by any divisor but 0 that is no giant -/
def CDivA (_ j : Int) : Prop := j ≠ 0 ∧ j.natAbs.log2 < 9000
theorem op_fdivA : OpR X (binaryOp .FloorDiv) (rI CDivA fun i j => .int (i.fdiv j)) := opI fun _ _ _ _ _ _ _ hc q => floordiv_int hc.1 q (.inl (PyProof.noPylong_of_log2 hc.2))
theorem divA {i j : Int} {b : Nat} (h : j ≠ 0) (hb : j.natAbs < 2 ^ b) (h0 : 0 < b) (h9 : b ≤ 9000) : CDivA i j := ⟨h, Nat.lt_of_lt_of_le (PySem.Flt.log2_lt_of h0 hb) h9⟩
end
/-! ### heaps: all but what stands at p is kept -/
def Kp (p : Addr) (H H' : Hp) : Prop := ∀ b o, b ≠ p → H b = some o → H' b = some o
theorem Kp.refl {p : Addr} {H : Hp} : Kp p H H := fun _ _ _ h => h
theorem Kp.trans {p : Addr} {H H1 H2 : Hp} (a : Kp p H H1) (b : Kp p H1 H2) : Kp p H H2 := fun c o n h => b c o n (a c o n h)
theorem Kp.upd {p : Addr} {H : Hp} {o : HO} : Kp p H (upd H p o) := fun _ _ n h => by rw [upd_ne n]; exact h
theorem Kp.same {p : Addr} {H0 H H' : Hp} (s : Same H0 H) (k : Kp p H H') (n : H0 p = none) : Same H0 H' := fun b o h => k b o (fun e => by rw [e, n] at h; cases h) (s b o h)
theorem same_upd {H : Hp} {p : Addr} {o : HO} (n : H p = none) : Same H (upd H p o) := fun b u h => by rw [upd_ne (ne_of_none h n)]; exact h
theorem Same.of (H : Hp) : Same H H := fun _ _ h => h
/-- isinstance(e, c), e the exception that the suite holds; its class and its dict are told in the reading -/
theorem call_isE2 {X : Cx} {a D : Addr} {oe : Obj} {cls : Value} {d : Option Addr} {pn : List (Addr × Obj)} (C : ExcC X.K D) (hz : Zc cls d oe) (hf : ∃ vs, oe.data = .fields vs) :
    CallR (X.suite a ((a, oe) :: pn)) (.builtin "isinstance") (fun xs H Q => cls = .ref D ∧ d = none ∧ rIsE X.K D a xs H Q) := by
  intro pins s σ H xs us Q I r h
  obtain ⟨rfl, rfl, h⟩ := h
  exact call_isE C hz hf pins s σ H xs us Q I r h
/-- an error of the class at S is what «except S» names -/
theorem exm_self {K : PySem.W.Frag} {S : Addr} (h1 : PySem.W.subIn K (.ref S) (.type "BaseException") = some true) (h2 : PySem.W.isClsIn K S = true) (h3 : PySem.W.typeIn K (.ref S) = some (.type "type")) (h4 : PySem.W.subIn K (.ref S) (.ref S) = some true) :
    PySem.W.exmOne K (.ref S) (.ref S) = some true := by
  have e1 : (PySem.W.subIn K (.ref S) (.type "BaseException") == some true) = true := by rw [h1] <;> rfl
  have e2 : ((PySem.W.clsIn K S).isSome && PySem.W.typeIn K (.ref S) == some (.type "type")) = true := by
    have h2' : (PySem.W.clsIn K S).isSome = true := h2
    rw [h2', h3] <;> rfl
  show (if (PySem.W.subIn K (.ref S) (.type "BaseException") == some true) = true then (if ((PySem.W.clsIn K S).isSome && PySem.W.typeIn K (.ref S) == some (.type "type")) = true then PySem.W.subIn K (.ref S) (.ref S) else none) else none) = some true
  rw [if_pos e1, if_pos e2]
  exact h4
/-! ### the fraction: lowest terms -/
/-- the common divisor with the sign of the denominator -/
def cmn (n d : Int) : Int := if d < 0 then -((Nat.gcd n.natAbs d.natAbs : Nat) : Int) else ((Nat.gcd n.natAbs d.natAbs : Nat) : Int)
def rN (n d : Int) : Int := n.fdiv (cmn n d)
def rD (n d : Int) : Int := d.fdiv (cmn n d)
theorem gcd_pos {n d : Int} (h : d ≠ 0) : 0 < Nat.gcd n.natAbs d.natAbs := Nat.gcd_pos_of_pos_right _ (by omega)
theorem cmn_ne {n d : Int} (h : d ≠ 0) : cmn n d ≠ 0 := by
  have g := gcd_pos (n := n) h
  unfold cmn
  split <;> omega
theorem cmn_natAbs (n d : Int) : (cmn n d).natAbs = Nat.gcd n.natAbs d.natAbs := by
  unfold cmn
  split <;> omega
theorem cmn_dvd_n (n d : Int) : cmn n d ∣ n := Int.natAbs_dvd_natAbs.mp (by rw [cmn_natAbs]; exact Nat.gcd_dvd_left _ _)
theorem cmn_dvd_d (n d : Int) : cmn n d ∣ d := Int.natAbs_dvd_natAbs.mp (by rw [cmn_natAbs]; exact Nat.gcd_dvd_right _ _)
theorem rN_mul (n d : Int) : cmn n d * rN n d = n := Int.mul_fdiv_cancel' (cmn_dvd_n n d)
theorem rD_mul (n d : Int) : cmn n d * rD n d = d := Int.mul_fdiv_cancel' (cmn_dvd_d n d)
theorem rD_pos {n d : Int} (h : d ≠ 0) : 1 ≤ rD n d := by
  have e := rD_mul n d
  have g := gcd_pos (n := n) h
  by_cases hd : d < 0
  · have c : cmn n d < 0 := by unfold cmn; rw [if_pos hd]; omega
    have : ¬ rD n d ≤ 0 := fun z => by
      have := Int.mul_nonneg_of_nonpos_of_nonpos (Int.le_of_lt c) z
      omega
    omega
  · have c : 0 < cmn n d := by unfold cmn; rw [if_neg hd]; omega
    have : ¬ rD n d ≤ 0 := fun z => by
      have := Int.mul_nonpos_of_nonneg_of_nonpos (Int.le_of_lt c) z
      omega
    omega
theorem r_cross (n d : Int) : rN n d * d = n * rD n d := by
  have e1 := rN_mul n d
  have e2 := rD_mul n d
  calc rN n d * d = rN n d * (cmn n d * rD n d) := by rw [e2]
    _ = (cmn n d * rN n d) * rD n d := by rw [← Int.mul_assoc, Int.mul_comm (rN n d)]
    _ = n * rD n d := by rw [e1]
theorem r_cop {n d : Int} (h : d ≠ 0) : Nat.gcd (rN n d).natAbs (rD n d).natAbs = 1 := by
  have g := gcd_pos (n := n) h
  have e1 : (Nat.gcd n.natAbs d.natAbs) * (rN n d).natAbs = n.natAbs := by rw [← cmn_natAbs, ← Int.natAbs_mul, rN_mul]
  have e2 : (Nat.gcd n.natAbs d.natAbs) * (rD n d).natAbs = d.natAbs := by rw [← cmn_natAbs, ← Int.natAbs_mul, rD_mul]
  have e3 : Nat.gcd n.natAbs d.natAbs * Nat.gcd (rN n d).natAbs (rD n d).natAbs = Nat.gcd n.natAbs d.natAbs := by
    rw [← Nat.gcd_mul_left, e1, e2]
  exact Nat.eq_of_mul_eq_mul_left g (by rw [e3, Nat.mul_one])
theorem rN_le {n d : Int} (h : d ≠ 0) : (rN n d).natAbs ≤ n.natAbs := by
  have g := gcd_pos (n := n) h
  have e1 : (Nat.gcd n.natAbs d.natAbs) * (rN n d).natAbs = n.natAbs := by rw [← cmn_natAbs, ← Int.natAbs_mul, rN_mul]
  calc (rN n d).natAbs ≤ Nat.gcd n.natAbs d.natAbs * (rN n d).natAbs := Nat.le_mul_of_pos_left _ g
    _ = n.natAbs := e1
theorem rD_le {n d : Int} (h : d ≠ 0) : (rD n d).natAbs ≤ d.natAbs := by
  have g := gcd_pos (n := n) h
  have e1 : (Nat.gcd n.natAbs d.natAbs) * (rD n d).natAbs = d.natAbs := by rw [← cmn_natAbs, ← Int.natAbs_mul, rD_mul]
  calc (rD n d).natAbs ≤ Nat.gcd n.natAbs d.natAbs * (rD n d).natAbs := Nat.le_mul_of_pos_left _ g
    _ = d.natAbs := e1
theorem cmn_lt {n d : Int} {k : Nat} (h : d ≠ 0) (hd : d.natAbs < 2 ^ k) : (cmn n d).natAbs < 2 ^ k := by
  rw [cmn_natAbs]
  exact Nat.lt_of_le_of_lt (Nat.gcd_le_right _ (by omega)) hd
/-! ### its object -/
theorem nd_ : ¬ (("num" : Str) = "den") := by decide +kernel
theorem dn_ : ¬ (("den" : Str) = "num") := by decide +kernel
def rfs (n d : Int) : List (Str × V) := putF "den" (.int d) (putF "num" (.int n) [])
theorem rfs_num (n d : Int) : (rfs n d).lookup ("num" : Str) = some (.int n) := by
  unfold rfs
  rw [lookup_putF, if_neg nd_, lookup_putF, if_pos rfl]
theorem rfs_den (n d : Int) : (rfs n d).lookup ("den" : Str) = some (.int d) := by
  unfold rfs
  rw [lookup_putF, if_pos rfl]
theorem rfs_no (n d : Int) {m : Str} (h1 : ¬ m = "den") (h2 : ¬ m = "num") : (rfs n d).lookup m = none := by
  unfold rfs
  rw [lookup_putF, if_neg h1, lookup_putF, if_neg h2]
  all_goals rfl
def sp_Ratio_init (C CB : Addr) : Sp := fun vs H Q E => ∃ (x dx : Addr) (n d : Int), vs = [.ref x, .int n, .int d] ∧ H x = some (.ins C dx []) ∧ d.natAbs < 2 ^ 8000 ∧
  (d = 0 → E (.ref CB) none H) ∧ (d ≠ 0 → ∀ H', H' x = some (.ins C dx (rfs (rN n d) (rD n d))) → Kp x H H' → Q .non H')
/-! ### a law's cells and pools: what is promised of them -/
def PoolAt (H : Hp) (p : Addr) : Prop := ∃ x y z : Int, H p = some (.lst [.int x, .int y, .int z])
theorem PoolAt.kp {H H' : Hp} {p q : Addr} (h : PoolAt H p) (k : Kp q H H') (n : p ≠ q) : PoolAt H' p := by
  obtain ⟨x, y, z, e⟩ := h
  exact ⟨x, y, z, k _ _ n e⟩
theorem PoolAt.same {H H' : Hp} {p : Addr} (h : PoolAt H p) (k : Same H H') : PoolAt H' p := by
  obtain ⟨x, y, z, e⟩ := h
  exact ⟨x, y, z, k _ _ e⟩
theorem at0 {α : Type} {a b c : α} : atI [a, b, c] (0 : Int) = some a := rfl
theorem at1 {α : Type} {a b c : α} : atI [a, b, c] (1 : Int) = some b := rfl
theorem at2 {α : Type} {a b c : α} : atI [a, b, c] (2 : Int) = some c := rfl
def sp_Lcell (K : PySem.W.Frag) : Sp := fun vs H Q _ => ∃ (l : Addr) (ns : List Int) (j : Nat), vs = [.ref l, .int (j : Int)] ∧ SqL K H l (ns.map V.int) ∧ ∀ c : Int, 0 ≤ c → Q (.int c) H
def sp_Lpool : Sp := fun vs H Q _ => ∃ c : Int, vs = [.int c] ∧ ∀ (p : Addr) (H' : Hp), H p = none → Same H H' → PoolAt H' p → Q (.ref p) H'
def sp_Ltake : Sp := fun vs H Q _ => ∃ (p : Addr) (many : Int), vs = [.ref p, .int many] ∧ PoolAt H p ∧ 0 < many ∧ many.natAbs < 2 ^ 300 ∧
  ∀ (H' : Hp) (r : Int), Kp p H H' → PoolAt H' p → 0 ≤ r → r < many → Q (.int r) H'
def topS (i : Nat) : Stmt := PySem.Challenge.pw_onecable_k01_ratio_in_lowest_terms.main.body.getD i (.Pass ⟨0, 0, 0, 0⟩)
abbrev s_Ratio_init : Stmt := inClass (topS 8) 0
theorem sc_Ratio_init : FnScope ["self", "num", "den", "common"] ["self", "num", "den"] (defScope s_Ratio_init) := ⟨rfl, rfl, rfl, by decide +kernel, rfl, by decide +kernel, by decide +kernel⟩
abbrev s_Lcell : Stmt := topS 10
theorem sc_Lcell : FnScope ["_law_script", "_law_at"] ["_law_script", "_law_at"] (defScope s_Lcell) := ⟨rfl, rfl, rfl, by decide +kernel, rfl, by decide +kernel, by decide +kernel⟩
abbrev s_Lpool : Stmt := topS 11
theorem sc_Lpool : FnScope ["_law_cell_here"] ["_law_cell_here"] (defScope s_Lpool) := ⟨rfl, rfl, rfl, by decide +kernel, rfl, by decide +kernel, by decide +kernel⟩
abbrev s_Ltake : Stmt := topS 12
theorem sc_Ltake : FnScope ["_law_pool_here", "_law_many", "_law_digit", "_law_mixed"] ["_law_pool_here", "_law_many"] (defScope s_Ltake) := ⟨rfl, rfl, rfl, by decide +kernel, rfl, by decide +kernel, by decide +kernel⟩
abbrev s_Lnumber : Stmt := topS 13
theorem sc_Lnumber : FnScope ["_law_pool_here", "_law_blocks", "_law_number_here", "_law_k"] ["_law_pool_here", "_law_blocks"] (defScope s_Lnumber) := ⟨rfl, rfl, rfl, by decide +kernel, rfl, by decide +kernel, by decide +kernel⟩
abbrev s_Ldivisor : Stmt := topS 14
theorem sc_Ldivisor : FnScope ["_law_one", "_law_two", "_law_k", "_law_rest"] ["_law_one", "_law_two"] (defScope s_Ldivisor) := ⟨rfl, rfl, rfl, by decide +kernel, rfl, by decide +kernel, by decide +kernel⟩
abbrev s_Lwide : Stmt := topS 15
theorem sc_Lwide : FnScope ["_law_pool_here", "_law_number_here"] ["_law_pool_here"] (defScope s_Lwide) := ⟨rfl, rfl, rfl, by decide +kernel, rfl, by decide +kernel, by decide +kernel⟩
abbrev s_Lwhole : Stmt := topS 16
theorem sc_Lwhole : FnScope ["_law_told"] ["_law_told"] (defScope s_Lwhole) := ⟨rfl, rfl, rfl, by decide +kernel, rfl, by decide +kernel, by decide +kernel⟩
abbrev s_Lrefused : Stmt := topS 17
theorem sc_Lrefused : FnScope ["_law_num", "_law_told", "e"] ["_law_num"] (defScope s_Lrefused) := ⟨rfl, rfl, rfl, by decide +kernel, rfl, by decide +kernel, by decide +kernel⟩
abbrev s_Lis : Stmt := topS 18
theorem sc_Lis : FnScope ["_law_told", "_law_num", "_law_den"] ["_law_told", "_law_num", "_law_den"] (defScope s_Lis) := ⟨rfl, rfl, rfl, by decide +kernel, rfl, by decide +kernel, by decide +kernel⟩
abbrev s_law : Stmt := topS 19
theorem sc_law : FnScope ["_law_script", "_law_one", "_law_two", "_law_num", "_law_den", "_law_way", "_law_factor", "_law_plain", "_law_told"] ["_law_script"] (defScope s_law) := ⟨rfl, rfl, rfl, by decide +kernel, rfl, by decide +kernel, by decide +kernel⟩
def sp_Lnumber : Sp := fun vs H Q _ => ∃ (p : Addr), vs = [.ref p, .int 6] ∧ PoolAt H p ∧ ∀ (H' : Hp) (n : Int), Kp p H H' → PoolAt H' p → n.natAbs < 2 ^ 166 → Q (.int n) H'
def sp_Lwide : Sp := fun vs H Q _ => ∃ (p : Addr), vs = [.ref p] ∧ PoolAt H p ∧ ∀ (H' : Hp) (n : Int), Kp p H H' → PoolAt H' p → n.natAbs < 2 ^ 200 → Q (.int n) H'
def sp_Ldivisor : Sp := fun vs H Q _ => ∃ a b : Int, vs = [.int a, .int b] ∧ 0 ≤ a ∧ 0 ≤ b ∧ a < 2 ^ 200 ∧ b < 2 ^ 200 ∧ Q (.int ((Nat.gcd a.natAbs b.natAbs : Nat) : Int)) H
def sp_Lwhole : Sp := fun vs H Q _ => ∃ a : Int, vs = [.int a] ∧ Q (.bl true) H
def sp_Lrefused : Sp := fun vs H Q _ => ∃ a : Int, vs = [.int a] ∧ ∀ H', Same H H' → Q (.bl true) H'
def sp_Lis (C : Addr) : Sp := fun vs H Q _ => ∃ (x dx : Addr) (n d : Int), vs = [.ref x, .int n, .int d] ∧ H x = some (.ins C dx (rfs (rN n d) (rD n d))) ∧ d ≠ 0 ∧ n.natAbs < 2 ^ 200 ∧ d.natAbs < 2 ^ 200 ∧ Q (.bl true) H
def sp_law (K : PySem.W.Frag) : Sp := fun vs H Q _ => ∃ (a : Addr) (ns : List Int), vs = [.ref a] ∧ SqL K H a (ns.map V.int) ∧ ns.length ≤ 63 ∧ ∀ H', Q (.bl true) H'
structure Txt (K : PySem.W.Frag) (mg : Str → Option Value) (C_Ratio C_BadRatio C_CableError C_BadRow : Addr) : Prop where
  g_Ratio : mg "Ratio" = some (.ref C_Ratio)
  cl_Ratio : Cls K C_Ratio
  nf_Ratio_num : NoAttr K C_Ratio "num"
  nf_Ratio_den : NoAttr K C_Ratio "den"
  i_Ratio : C8.InsC K C_Ratio
  g_BadRatio : mg "BadRatio" = some (.ref C_BadRatio)
  x_BadRatio : PySem.W.excIn K C_BadRatio [.type "ValueError", .type "Exception", .type "BaseException", .type "object"] "ValueError.__new__" = true
  k_BadRatio : PySem.W.keepIn K (.ref C_BadRatio) = true
  b_BadRatio : PySem.W.subIn K (.ref C_BadRatio) (.type "BaseException") = some true
  t_BadRatio : PySem.W.typeIn K (.ref C_BadRatio) = some (.type "type")
  ic_BadRatio : PySem.W.isClsIn K C_BadRatio = true
  s_BadRatio : PySem.W.subIn K (.ref C_BadRatio) (.ref C_BadRatio) = some true
  e_BadRatio : ExcC K C_BadRatio
  g_CableError : mg "CableError" = some (.ref C_CableError)
  g_BadRow : mg "BadRow" = some (.ref C_BadRow)
  n_len : mg "len" = none
  n_int : mg "int" = none
  n_abs : mg "abs" = none
  n_range : mg "range" = none
  n_bool : mg "bool" = none
  n_isinstance : mg "isinstance" = none
  n_ValueError : mg "ValueError" = none
  gi_gcd : mg "gcd" = some (.builtin "math.gcd")
  kt_cable : PySem.W.kitOne K (.ref C_BadRatio) (.ref C_CableError) = some true
  kt_value : PySem.W.kitOne K (.ref C_BadRatio) (.type "ValueError") = some true
  kt_row : PySem.W.kitOne K (.ref C_BadRatio) (.ref C_BadRow) = some false

/-! ### Euclid's steps -/
structure Euc (g : Nat) (i : Nat) (a b : Int) : Prop where
  a0 : 0 ≤ a
  b0 : 0 ≤ b
  gc : Nat.gcd a.natAbs b.natAbs = g
  sz : b = 0 ∨ (i = 0 ∧ a < 2 ^ 200 ∧ b < 2 ^ 200) ∨ (b < a ∧ a.natAbs * b.natAbs * 2 ^ i < 2 ^ 402)
theorem Euc.step {g i : Nat} {a b : Int} (e : Euc g i a b) (hb : b ≠ 0) : Euc g (i + 1) b (a % b) := by
  have hp : 0 < b := by have := e.b0; omega
  have r0 : 0 ≤ a % b := Int.emod_nonneg a hb
  have r1 : a % b < b := Int.emod_lt_of_pos a hp
  have en : (a % b).natAbs = a.natAbs % b.natAbs := by
    have a0 := e.a0
    have h : ((a.natAbs % b.natAbs : Nat) : Int) = a % b := by
      rw [Int.natCast_emod, Int.natAbs_of_nonneg a0, Int.natAbs_of_nonneg e.b0]
    omega
  refine ⟨e.b0, r0, ?_, .inr (.inr ⟨r1, ?_⟩)⟩
  · rw [en, Nat.gcd_comm, ← Nat.gcd_rec, Nat.gcd_comm]
    exact e.gc
  · rcases e.sz with z | ⟨hi, h1, h2⟩ | ⟨h1, h2⟩
    · exact absurd z hb
    · subst hi
      have q1 : b.natAbs < 2 ^ 200 := by omega
      have q2 : (a % b).natAbs < 2 ^ 200 := by omega
      have q3 := Nat.mul_lt_mul'' q1 q2
      rw [← Nat.pow_add] at q3
      have : (2 : Nat) ^ (200 + 200) * 2 ^ (0 + 1) < 2 ^ 402 := by decide
      exact Nat.lt_trans (Nat.mul_lt_mul_of_pos_right q3 (by decide)) this
    · have k : 2 * (a % b).natAbs ≤ a.natAbs := by
        have s := Int.emod_add_mul_ediv a b
        have t : 1 ≤ a / b := by
          have := Int.ediv_le_ediv hp (Int.le_of_lt h1)
          rw [Int.ediv_self hb] at this
          exact this
        have u : b * 1 ≤ b * (a / b) := Int.mul_le_mul_of_nonneg_left t (Int.le_of_lt hp)
        have a0 := e.a0
        omega
      have m : b.natAbs * (a % b).natAbs * 2 ^ (i + 1) ≤ a.natAbs * b.natAbs * 2 ^ i := by
        calc b.natAbs * (a % b).natAbs * 2 ^ (i + 1) = (2 * (a % b).natAbs) * b.natAbs * 2 ^ i := by
              rw [Nat.pow_succ, Nat.mul_comm b.natAbs, Nat.mul_comm (2 ^ i) 2, ← Nat.mul_assoc, Nat.mul_comm ((a % b).natAbs * b.natAbs) 2, ← Nat.mul_assoc]
          _ ≤ a.natAbs * b.natAbs * 2 ^ i := Nat.mul_le_mul_right _ (Nat.mul_le_mul_right _ k)
      exact Nat.lt_of_le_of_lt m h2
theorem Euc.done {g i : Nat} {a b : Int} (e : Euc g i a b) (hi : 402 ≤ i) : b = 0 := by
  rcases e.sz with z | ⟨h, _, _⟩ | ⟨h1, h2⟩
  · exact z
  · omega
  · have b0 := e.b0
    have : ¬ 0 < b := fun hb => by
      have q : 1 ≤ a.natAbs * b.natAbs := Nat.mul_pos (by omega) (by omega)
      have q2 : (2 : Nat) ^ 402 ≤ 2 ^ i := Nat.pow_le_pow_right (by decide) hi
      have q3 : 1 * 2 ^ i ≤ a.natAbs * b.natAbs * 2 ^ i := Nat.mul_le_mul_right _ q
      omega
    omega
theorem Euc.end_ {g i : Nat} {a : Int} (e : Euc g i a 0) : a = (g : Int) := by
  have := e.gc
  have := e.a0
  simp only [Int.natAbs_zero, Nat.gcd_zero_right] at *
  omega
section
variable {P : Program} {w : World} {K : PySem.W.Frag} {mg : Str → Option Value} {base : Heap} {C_Ratio C_BadRatio C_CableError C_BadRow : Addr}
theorem ok_Ratio_init {f : Addr} {fd : FuncData} (F : Fun K "__init__" "Ratio.__init__" s_Ratio_init f fd) (T : Txt K mg C_Ratio C_BadRatio C_CableError C_BadRow)  :
    FnOk P w K mg base (L2.CX P w) 1 f fd ["self", "num", "den"] (sp_Ratio_init C_Ratio C_BadRatio) := by
  refine F.okX sc_Ratio_init (fun vs H Q E h => ?_) (fun cdv A outer s H vs Q E hr h => ?_)
  · obtain ⟨x, dx, n, d, rfl, _⟩ := h
    rfl
  · obtain ⟨x, dx, n, d, rfl, hx, hb, hE, hQ⟩ := h
    refine ⟨_, (pss_cons (ps_if (pt_cmpR op_eq (pv 2) pe_int (nomark _)) (pss_one (ps_raise rfl (takes_of rfl rfl rfl rfl) (pmk_own PySem.F.excBase_ValueError T.x_BadRatio T.g_BadRatio T.k_BadRatio (raises_own T.b_BadRatio T.t_BadRatio) rfl))) pss_nil)
      (pss_cons (ps_set (i := 3) sc_Ratio_init.nd rfl (Or.inl rfl) (pe_callBfun cr_gcd rfl T.gi_gcd (pa_cons (pv 1) (pa_cons (pv 2) pa_nil))))
      (pss_cons (ps_if (pt_cmpR op_lt (pv 2) pe_int (nomark _)) (pss_one (ps_set (i := 3) sc_Ratio_init.nd rfl (Or.inl rfl) (pe_un un_neg (pv 3)))) pss_nil)
      (pss_cons (ps_fld (pv 0) (pe_op op_fdivA (pv 1) (pv 3)) rfl)
      (pss_one (ps_fld (pv 0) (pe_op op_fdivA (pv 2) (pv 3)) rfl)))))), ?_⟩
    refine ⟨_, rfl, rfl, _, rfl, ?_⟩
    refine ite2 (fun hd => ?_) (fun hd => ?_)
    · exact hE (V.int.inj (of_decide_eq_true hd))
    · have d0 : d ≠ 0 := fun z => hd (by rw [z]; rfl)
      have c0 := cmn_ne (n := n) d0
      have cl := cmn_lt (n := n) d0 hb
      have fin : ∀ c : Int, c = cmn n d → ∀ Q' : L2.St → Hp → Prop, (∀ σ, Q' σ (upd (upd H x (.ins C_Ratio dx (putF "num" (.int (n.fdiv c)) []))) x (.ins C_Ratio dx (putF "den" (.int (d.fdiv c)) (putF "num" (.int (n.fdiv c)) []))))) → True := fun _ _ _ _ => trivial
      refine ⟨_, rfl, _, rfl, n, d, rfl, ?_⟩
      refine ⟨_, rfl, _, _, rfl, rfl, _, rfl, ?_⟩
      have last : ∀ c : Int, c = cmn n d → Q .non (upd (upd H x (.ins C_Ratio dx (putF "num" (.int (n.fdiv c)) []))) x (.ins C_Ratio dx (putF "den" (.int (d.fdiv c)) (putF "num" (.int (n.fdiv c)) [])))) := fun c hc => by
        subst hc
        exact hQ d0 _ upd_same (Kp.trans Kp.upd Kp.upd)
      refine ite2 (fun hneg => ?_) (fun hneg => ?_)
      · have hc : -((Nat.gcd n.natAbs d.natAbs : Nat) : Int) = cmn n d := by unfold cmn; rw [if_pos (of_decide_eq_true hneg)]
        have dv : CDivA n (-((Nat.gcd n.natAbs d.natAbs : Nat) : Int)) := by rw [hc]; exact divA c0 cl (by decide) (by decide)
        have dv2 : CDivA d (-((Nat.gcd n.natAbs d.natAbs : Nat) : Int)) := by rw [hc]; exact divA c0 cl (by decide) (by decide)
        refine ⟨_, rfl, _, rfl, ?_⟩
        refine ⟨_, rfl, _, rfl, _, _, rfl, rfl, dv, _, rfl, x, C_Ratio, dx, [], rfl, hx, T.cl_Ratio, T.nf_Ratio_num, (by show 0 < 1000; decide), ?_⟩
        refine ⟨_, rfl, _, rfl, _, _, rfl, rfl, dv2, _, rfl, x, C_Ratio, dx, _, rfl, upd_same, T.cl_Ratio, T.nf_Ratio_den, (by show 1 < 1000; decide), ?_⟩
        exact last _ hc
      · have hc : ((Nat.gcd n.natAbs d.natAbs : Nat) : Int) = cmn n d := by unfold cmn; rw [if_neg (fun z => hneg (decide_eq_true z))]
        have dv : CDivA n ((Nat.gcd n.natAbs d.natAbs : Nat) : Int) := by rw [hc]; exact divA c0 cl (by decide) (by decide)
        have dv2 : CDivA d ((Nat.gcd n.natAbs d.natAbs : Nat) : Int) := by rw [hc]; exact divA c0 cl (by decide) (by decide)
        refine ⟨_, rfl, _, rfl, _, _, rfl, rfl, dv, _, rfl, x, C_Ratio, dx, [], rfl, hx, T.cl_Ratio, T.nf_Ratio_num, (by show 0 < 1000; decide), ?_⟩
        refine ⟨_, rfl, _, rfl, _, _, rfl, rfl, dv2, _, rfl, x, C_Ratio, dx, _, rfl, upd_same, T.cl_Ratio, T.nf_Ratio_den, (by show 1 < 1000; decide), ?_⟩
        exact last _ hc
theorem ok_Lcell {f : Addr} {fd : FuncData} (F : Fun K "_law_cell" "_law_cell" s_Lcell f fd) (T : Txt K mg C_Ratio C_BadRatio C_CableError C_BadRow)  :
    FnOk P w K mg base CX0 1 f fd ["_law_script", "_law_at"] (sp_Lcell K) := by
  refine F.ok sc_Lcell (fun vs H Q E h => ?_) (fun cdv A outer s H vs Q E hr h => ?_)
  · obtain ⟨l, ns, j, rfl, _⟩ := h
    rfl
  · obtain ⟨l, ns, j, rfl, hs, q⟩ := h
    refine ⟨_, (pss_cons (ps_if (pt_cmpR op_lt (pv 1) (pe_callB call_len_seq (by rfl) T.n_len PySem.boot_len (pa_cons (pv 0) pa_nil)) (nomark _)) (pss_one (ps_ret (pe_callB call_abs (by rfl) T.n_abs (by decide +kernel) (pa_cons (pe_callTy call_int1 (by rfl) T.n_int (by decide +kernel) (pa_cons (pe_ix ix_list (pv 0) (pv 1) (fun _ _ => rfl)) pa_nil)) pa_nil)))) pss_nil)
      (pss_one (ps_ret pe_int))), ?_⟩
    refine ⟨_, rfl, _, rfl, l, _, rfl, .inl hs, _, _, rfl, rfl, _, rfl, ?_⟩
    refine ite2 (fun hlt => ?_) (fun _ => q 0 (by decide))
    have hj : j < ns.length := by
      have z := of_decide_eq_true hlt
      rw [List.length_map] at z
      omega
    have hat : (ns.map V.int)[j]? = some (V.int ns[j]) := by rw [List.getElem?_map, List.getElem?_eq_getElem hj] <;> rfl
    refine ⟨_, rfl, _, rfl, l, _, _, _, rfl, rfl, hs, atI_nat hat, .inl ⟨_, rfl, _, rfl, q _ ?_⟩⟩
    split <;> omega
theorem ok_Lpool {f : Addr} {fd : FuncData} (F : Fun K "_law_pool" "_law_pool" s_Lpool f fd) (T : Txt K mg C_Ratio C_BadRatio C_CableError C_BadRow)  :
    FnOk P w K mg base CX0 1 f fd ["_law_cell_here"] sp_Lpool := by
  refine F.ok sc_Lpool (fun vs H Q E h => ?_) (fun cdv A outer s H vs Q E hr h => ?_)
  · obtain ⟨c, rfl, _⟩ := h
    rfl
  · obtain ⟨c, rfl, q⟩ := h
    refine ⟨_, (pss_cons (ps_if (pt_cmpR op_ge (pv 0) (pe_op op_pow pe_int pe_int) (nomark _)) (pss_one (ps_ret (pe_lst (pa_cons (pv 0) (pa_cons (pv 0) (pa_cons pe_int pa_nil)))))) pss_nil)
      (pss_one (ps_ret (pe_lst (pa_cons pe_int (pa_cons (pv 0) (pa_cons pe_int pa_nil))))))), ?_⟩
    refine ⟨_, rfl, _, _, rfl, rfl, ⟨by decide, by decide, by decide⟩, _, _, rfl, rfl, _, rfl, ?_⟩
    refine ite2 (fun _ => ?_) (fun _ => ?_)
    · exact ⟨_, rfl, _, rfl, (by show 3 ≤ sizeLine; decide), fun p hp => q p _ hp (same_upd hp) ⟨_, _, _, upd_same⟩⟩
    · exact ⟨_, rfl, (by show 3 ≤ sizeLine; decide), fun p hp => q p _ hp (same_upd hp) ⟨_, _, _, upd_same⟩⟩
theorem ok_Ltake {f : Addr} {fd : FuncData} (F : Fun K "_law_take" "_law_take" s_Ltake f fd) (T : Txt K mg C_Ratio C_BadRatio C_CableError C_BadRow)  :
    FnOk P w K mg base CX0 1 f fd ["_law_pool_here", "_law_many"] sp_Ltake := by
  refine F.ok sc_Ltake (fun vs H Q E h => ?_) (fun cdv A outer s H vs Q E hr h => ?_)
  · obtain ⟨p, many, rfl, _⟩ := h
    rfl
  · obtain ⟨p, many, rfl, ⟨x, y, z, hp⟩, hm, hb, q⟩ := h
    refine ⟨_, (pss_cons (ps_asg (pe_op op_add (pe_ix ix_list (pv 0) pe_int (fun _ _ => rfl)) pe_int) (pg_sub (pv 0) pe_int set_list))
      (pss_cons (ps_if (pt_cmpR op_gt (pe_ix ix_list (pv 0) pe_int (fun _ _ => rfl)) pe_int (nomark _)) (pss_cons (ps_set (i := 2) sc_Ltake.nd rfl (Or.inl rfl) (pe_op op_mod (pe_callTy call_int1 (by rfl) T.n_int (by decide +kernel) (pa_cons (pe_ix ix_list (pv 0) pe_int (fun _ _ => rfl)) pa_nil)) (pv 1)))
      (pss_cons (ps_asg (pe_op op_fdivW (pe_ix ix_list (pv 0) pe_int (fun _ _ => rfl)) (pv 1)) (pg_sub (pv 0) pe_int set_list))
      (pss_one (ps_ret (pv 2))))) pss_nil)
      (pss_cons (ps_set (i := 3) sc_Ltake.nd rfl (Or.inl rfl) (pe_op op_mod (pe_callTy call_int1 (by rfl) T.n_int (by decide +kernel) (pa_cons (pe_op op_mulA (pe_op op_add (pe_ix ix_list (pv 0) pe_int (fun _ _ => rfl)) (pe_op op_mulA pe_int (pe_ix ix_list (pv 0) pe_int (fun _ _ => rfl)))) pe_int) pa_nil)) pe_int))
      (pss_cons (ps_set (i := 3) sc_Ltake.nd rfl (Or.inl rfl) (pe_op op_mod (pe_callTy call_int1 (by rfl) T.n_int (by decide +kernel) (pa_cons (pe_op op_add (pe_op op_mulA (pv 3) pe_int) (pe_op op_mulA pe_int (pe_ix ix_list (pv 0) pe_int (fun _ _ => rfl)))) pa_nil)) pe_int))
      (pss_one (ps_ret (pe_op op_mod (pe_callTy call_int1 (by rfl) T.n_int (by decide +kernel) (pa_cons (pe_op op_fdivW (pv 3) pe_int) pa_nil)) (pv 1)))))))), ?_⟩
    refine ⟨_, rfl, p, _, _, _, rfl, rfl, SqL.of hp, at2, _, _, rfl, rfl, _, rfl, p, _, _, _, rfl, rfl, hp, rfl, ?_⟩
    refine ⟨_, rfl, p, _, _, _, rfl, rfl, SqL.of upd_same, at0, _, _, rfl, rfl, _, rfl, ?_⟩
    refine ite2 (fun _ => ?_) (fun _ => ?_)
    · refine ⟨_, rfl, p, _, _, _, rfl, rfl, SqL.of upd_same, at0, .inl ⟨_, rfl, _, rfl, _, _, rfl, rfl, hm, ?_⟩⟩
      refine ⟨_, rfl, p, _, _, _, rfl, rfl, SqL.of upd_same, at0, _, rfl, _, _, rfl, rfl, wide_div hm hb (by decide) (by decide), _, rfl, p, _, _, _, rfl, rfl, upd_same, rfl, ?_⟩
      exact ⟨_, rfl, q _ _ (Kp.trans Kp.upd Kp.upd) ⟨_, _, _, upd_same⟩ (Int.emod_nonneg _ (by omega)) (Int.emod_lt_of_pos _ hm)⟩
    · refine ⟨_, rfl, p, _, _, _, rfl, rfl, SqL.of upd_same, at1, _, rfl, p, _, _, _, rfl, rfl, SqL.of upd_same, at2, _, _, rfl, rfl, .inl (.inl ⟨by decide, by decide⟩), _, _, rfl, rfl, _, _, rfl, rfl, .inl (.inr ⟨by decide, by decide⟩), .inl ⟨_, rfl, _, _, rfl, rfl, (by show (0 : Int) < 2147483647; decide), ?_⟩⟩
      refine ⟨_, rfl, _, _, rfl, rfl, .inl (.inr ⟨by decide, by decide⟩), _, rfl, p, _, _, _, rfl, rfl, SqL.of upd_same, at2, _, _, rfl, rfl, .inl (.inl ⟨by decide, by decide⟩), _, _, rfl, rfl, .inl ⟨_, rfl, _, _, rfl, rfl, (by show (0 : Int) < 2147483399; decide), ?_⟩⟩
      refine ⟨_, rfl, _, _, rfl, rfl, wide_div (b := 300) (by decide) (by decide) (by decide) (by decide), .inl ⟨_, rfl, _, rfl, _, _, rfl, rfl, hm, ?_⟩⟩
      exact q _ _ Kp.upd ⟨_, _, _, upd_same⟩ (Int.emod_nonneg _ (by omega)) (Int.emod_lt_of_pos _ hm)
theorem num_step {a : Int} {r : Int} {k : Nat} (ha : 0 ≤ a) (hb : a < 30 * 100000000 ^ k) (h0 : 0 ≤ r) (h1 : r < 100000000) : 0 ≤ a * 100000000 + r ∧ a * 100000000 + r < 30 * 100000000 ^ (k + 1) := by
  rw [Int.pow_succ, ← Int.mul_assoc]
  omega
theorem pow_le6 {k : Nat} (h : k ≤ 6) : (100000000 : Int) ^ k ≤ 100000000 ^ 6 := by
  match k, h with
  | 0, _ => decide
  | 1, _ => decide
  | 2, _ => decide
  | 3, _ => decide
  | 4, _ => decide
  | 5, _ => decide
  | 6, _ => decide
theorem ok_Lnumber {f : Addr} {fd : FuncData} (F : Fun K "_law_number" "_law_number" s_Lnumber f fd) (T : Txt K mg C_Ratio C_BadRatio C_CableError C_BadRow) (c_Ltake : Cal CX0 P w K mg base 1 "_law_take" sp_Ltake) :
    FnOk P w K mg base CX0 2 f fd ["_law_pool_here", "_law_blocks"] sp_Lnumber := by
  refine F.ok sc_Lnumber (fun vs H Q E h => ?_) (fun cdv A outer s H vs Q E hr h => ?_)
  · obtain ⟨p, rfl, _⟩ := h
    rfl
  · obtain ⟨p, rfl, hp, q⟩ := h
    refine ⟨_, (pss_cons (ps_set (i := 2) sc_Lnumber.nd rfl (Or.inl rfl) (pc_c c_Ltake hr (by decide) rfl pass0 (pa_cons (pv 0) (pa_cons pe_int pa_nil))))
      (pss_cons (ps_for PassesOwn.never rfl (pi_range1 (by rfl) T.n_range (pa_cons (pc_c c_Ltake hr (by decide) rfl pass0 (pa_cons (pv 0) (pa_cons (pe_op op_add (pv 1) pe_int) pa_nil))) pa_nil)) (pg_name (i := 3) sc_Lnumber.nd rfl (Or.inl rfl))
        (pss_one (ps_set (i := 2) sc_Lnumber.nd rfl (Or.inl rfl) (pe_op op_add (pe_op op_mulA (pv 2) pe_int) (pc_c c_Ltake hr (by decide) rfl pass0 (pa_cons (pv 0) (pa_cons pe_int pa_nil)))))))
      (pss_cons (ps_if (pt_cmpR op_eq (pc_c c_Ltake hr (by decide) rfl pass0 (pa_cons (pv 0) (pa_cons pe_int pa_nil))) pe_int (nomark _)) (pss_one (ps_ret (pe_op op_sub pe_int (pv 2)))) pss_nil)
      (pss_one (ps_ret (pv 2)))))), ?_⟩
    refine ⟨_, rfl, p, 30, rfl, hp, by decide, by decide, fun H1 n k1 p1 n0 n1 => ?_⟩
    refine ⟨_, rfl, _, rfl, _, _, rfl, rfl, p, 7, rfl, p1, by decide, by decide, fun H2 r k2 p2 r0 r1 => ?_⟩
    have fin : ∀ (i : Nat) (H' : Hp) (m : Int) (v : Option V), i ≤ 6 → Kp p H H' → PoolAt H' p → 0 ≤ m → m < 30 * 100000000 ^ i →
        tSeq (tIfS (tTest (tOp rEq (tCall sp_Ltake [] E0 (tCons (tVar 0) (tCons (tC (.int 2)) tNil))) (tC (.int 1)))) (tRet (tOp (rI0 fun i j => .int (i - j)) (tC (.int 0)) (tVar 2))) tNext) (tRet (tVar 2)) { nx := fun _ H' => Q .non H', rt := Q } [some (.ref p), some (.int 6), some (.int m), v] H' := by
      intro i H' m v hi hk hp' m0 m1
      have m2 : m < 30 * 100000000 ^ 6 := Int.lt_of_lt_of_le m1 (Int.mul_le_mul_of_nonneg_left (pow_le6 hi) (by decide))
      have m3 : m < 2 ^ 166 := Int.lt_of_lt_of_le m2 (by decide)
      refine ⟨_, rfl, p, 2, rfl, hp', by decide, by decide, fun H3 r k3 p3 _ _ => ⟨rfl, _, rfl, ?_⟩⟩
      refine ite2 (fun _ => ?_) (fun _ => ?_)
      · exact ⟨_, rfl, _, _, rfl, rfl, q _ _ (hk.trans k3) p3 (by omega)⟩
      · exact ⟨_, rfl, q _ _ (hk.trans k3) p3 (by omega)⟩
    refine ⟨r, rfl, by omega, by omega, for_range (lo := 0) (n := r.toNat) (fun i σ H' => ∃ (m : Int) (v : Option V), σ = [some (.ref p), some (.int 6), some (.int m), v] ∧ Kp p H H' ∧ PoolAt H' p ∧ 0 ≤ m ∧ m < 30 * 100000000 ^ i)
      ⟨n, none, rfl, k1.trans k2, p2, n0, by simpa using n1⟩ ?_ ?_⟩
    · rintro i σ H' hi ⟨m, v, rfl, hk, hp', m0, m1⟩
      have m2 : m < 30 * 100000000 ^ 6 := Int.lt_of_lt_of_le m1 (Int.mul_le_mul_of_nonneg_left (pow_le6 (by omega)) (by decide))
      refine ⟨_, rfl, _, _, rfl, rfl, .inl (.inr ⟨by decide, by decide⟩), _, rfl, p, _, rfl, hp', by decide, by decide, fun H3 r k3 p3 r0 r1 => ?_⟩
      have st := num_step m0 m1 r0 r1
      exact ⟨_, _, rfl, rfl, _, _, rfl, hk.trans k3, p3, st.1, st.2⟩
    · rintro σ H' ⟨m, v, rfl, hk, hp', m0, m1⟩
      exact fin _ H' m v (by omega) hk hp' m0 m1
theorem ok_Ldivisor {f : Addr} {fd : FuncData} (F : Fun K "_law_divisor" "_law_divisor" s_Ldivisor f fd) (T : Txt K mg C_Ratio C_BadRatio C_CableError C_BadRow)  :
    FnOk P w K mg base CX0 1 f fd ["_law_one", "_law_two"] sp_Ldivisor := by
  refine F.ok sc_Ldivisor (fun vs H Q E h => ?_) (fun cdv A outer s H vs Q E hr h => ?_)
  · obtain ⟨a, b, rfl, _⟩ := h
    rfl
  · obtain ⟨a, b, rfl, a0, b0, a1, b1, q⟩ := h
    refine ⟨_, (pss_cons (ps_for PassesOwn.never rfl (pi_range1 (by rfl) T.n_range (pa_cons pe_int pa_nil)) (pg_name (i := 2) sc_Ldivisor.nd rfl (Or.inl rfl))
        (pss_cons (ps_if (pt_cmpR op_eq (pv 1) pe_int (nomark _)) (pss_one ps_break) pss_nil)
      (pss_cons (ps_set (i := 3) sc_Ldivisor.nd rfl (Or.inl rfl) (pe_op op_mod (pe_callTy call_int1 (by rfl) T.n_int (by decide +kernel) (pa_cons (pv 0) pa_nil)) (pv 1)))
      (pss_cons (ps_set (i := 0) sc_Ldivisor.nd rfl (Or.inl rfl) (pv 1))
      (pss_one (ps_set (i := 1) sc_Ldivisor.nd rfl (Or.inl rfl) (pv 3)))))))
      (pss_one (ps_ret (pv 0)))), ?_⟩
    refine ⟨700, rfl, by decide, by decide, for_range (lo := 0) (n := 700) (fun i σ H' => ∃ (a' b' : Int) (v u : Option V), σ = [some (.int a'), some (.int b'), v, u] ∧ H' = H ∧ Euc (Nat.gcd a.natAbs b.natAbs) i a' b')
      ⟨a, b, none, none, rfl, rfl, a0, b0, rfl, .inr (.inl ⟨rfl, a1, b1⟩)⟩ ?_ ?_⟩
    · rintro i σ H' hi ⟨a', b', v, u, rfl, rfl, eu⟩
      refine ⟨_, rfl, rfl, _, rfl, ?_⟩
      refine ite2 (fun hb => ?_) (fun hb => ?_)
      · have hb0 : b' = 0 := V.int.inj (of_decide_eq_true hb)
        subst hb0
        have e := eu.end_
        subst e
        exact ⟨_, rfl, q⟩
      · have hb0 : b' ≠ 0 := fun z => hb (by rw [z]; rfl)
        refine ⟨_, rfl, .inl ⟨_, rfl, _, rfl, _, _, rfl, rfl, (by show (0 : Int) < b'; have := eu.b0; omega), ?_⟩⟩
        exact ⟨_, rfl, _, rfl, _, _, _, _, rfl, rfl, eu.step hb0⟩
    · rintro σ H' ⟨a', b', v, u, rfl, rfl, eu⟩
      have hb0 := eu.done (by decide)
      subst hb0
      have e := eu.end_
      subst e
      exact ⟨_, rfl, q⟩
theorem ok_Lwide {f : Addr} {fd : FuncData} (F : Fun K "_law_wide" "_law_wide" s_Lwide f fd) (T : Txt K mg C_Ratio C_BadRatio C_CableError C_BadRow) (c_Ltake : Cal CX0 P w K mg base 1 "_law_take" sp_Ltake) :
    FnOk P w K mg base CX0 2 f fd ["_law_pool_here"] sp_Lwide := by
  refine F.ok sc_Lwide (fun vs H Q E h => ?_) (fun cdv A outer s H vs Q E hr h => ?_)
  · obtain ⟨p, rfl, _⟩ := h
    rfl
  · obtain ⟨p, rfl, hp, q⟩ := h
    refine ⟨_, (pss_cons (ps_set (i := 1) sc_Lwide.nd rfl (Or.inl rfl) (pc_c c_Ltake hr (by decide) rfl pass0 (pa_cons (pv 0) (pa_cons (pe_op op_pow pe_int pe_int) pa_nil))))
      (pss_cons (ps_if (pt_cmpR op_eq (pc_c c_Ltake hr (by decide) rfl pass0 (pa_cons (pv 0) (pa_cons pe_int pa_nil))) pe_int (nomark _)) (pss_one (ps_ret (pe_op op_sub pe_int (pv 1)))) pss_nil)
      (pss_one (ps_ret (pv 1))))), ?_⟩
    refine ⟨_, rfl, _, _, rfl, rfl, ⟨by decide, by decide, by decide⟩, p, _, rfl, hp, by decide, by decide, fun H1 n k1 p1 n0 n1 => ?_⟩
    have n2 : n < 2 ^ 200 := Int.lt_of_lt_of_le n1 (by decide)
    refine ⟨_, rfl, p, 2, rfl, p1, by decide, by decide, fun H3 r k3 p3 _ _ => ⟨rfl, _, rfl, ?_⟩⟩
    refine ite2 (fun _ => ?_) (fun _ => ?_)
    · exact ⟨_, rfl, _, _, rfl, rfl, q _ _ (k1.trans k3) p3 (by omega)⟩
    · exact ⟨_, rfl, q _ _ (k1.trans k3) p3 (by omega)⟩
theorem ok_Lwhole {f : Addr} {fd : FuncData} (F : Fun K "_law_whole" "_law_whole" s_Lwhole f fd) (T : Txt K mg C_Ratio C_BadRatio C_CableError C_BadRow)  :
    FnOk P w K mg base CX0 1 f fd ["_law_told"] sp_Lwhole := by
  refine F.ok sc_Lwhole (fun vs H Q E h => ?_) (fun cdv A outer s H vs Q E hr h => ?_)
  · obtain ⟨a, rfl, _⟩ := h
    rfl
  · obtain ⟨a, rfl, q⟩ := h
    refine ⟨_, (pss_one (ps_ret (pe_and (pe_callB call_isi (by rfl) T.n_isinstance (by decide +kernel) (pa_cons (pv 0) (pa_cons (pe_bltn (v := .ty "int") (by rfl) T.n_int (by decide +kernel) rfl) pa_nil))) (pe_one (pe_not (pe_callB call_isi (by rfl) T.n_isinstance (by decide +kernel) (pa_cons (pv 0) (pa_cons (pe_bltn (v := .ty "bool") (by rfl) T.n_bool (by decide +kernel) rfl) pa_nil)))))))), ?_⟩
    refine ⟨_, rfl, _, _, _, .type "int", true, rfl, .ty "int", .base (.int a), kit_ty (by decide +kernel), true, rfl, iteT ?_⟩
    exact ⟨_, rfl, _, _, _, .type "bool", false, rfl, .ty "bool", .base (.int a), kit_ty (by decide +kernel), false, rfl, q⟩
theorem ok_Lrefused {f : Addr} {fd : FuncData} (F : Fun K "_law_refused" "_law_refused" s_Lrefused f fd) (T : Txt K mg C_Ratio C_BadRatio C_CableError C_BadRow) (c_Ratio : Mak (L2.CX P w) P w K mg base 1 "Ratio" C_Ratio (sp_Ratio_init C_Ratio C_BadRatio)) :
    FnOk P w K mg base CX0 3 f fd ["_law_num"] sp_Lrefused := by
  refine F.ok sc_Lrefused (fun vs H Q E h => ?_) (fun cdv A outer s H vs Q E hr h => ?_)
  · obtain ⟨a, rfl, _⟩ := h
    rfl
  · obtain ⟨a, rfl, q⟩ := h
    refine ⟨_, (pss_cons (ps_set (i := 1) sc_Lrefused.nd rfl (Or.inl rfl) pe_bl)
      (pss_cons (ps_try_as (i := 2) (Wout := fun _ _ _ _ => False) rfl rfl sc_Lrefused.nd rfl rfl ⟨rfl, by decide, .inl T.g_BadRatio⟩ takes0 (fun W pn xe tk _ => (pss_one (ps_expr (pc_mkS c_Ratio hr (by decide) rfl (fun σ => passAt tk σ) (pa_cons (pv 0) (pa_cons pe_int pa_nil))))))
        (fun a oe cls d pn hz hf => (pss_one (ps_set (i := 1) sc_Lrefused.nd rfl (Or.inl rfl) (pe_and (pe_callB (call_isE2 T.e_BadRatio hz hf) (by rfl) T.n_isinstance (by decide +kernel) (pa_cons (pv 2) (pa_cons (pe_glob (v := .ref C_CableError) rfl T.g_CableError rfl) pa_nil))) (pe_and (pe_callB (call_isE2 T.e_BadRatio hz hf) (by rfl) T.n_isinstance (by decide +kernel) (pa_cons (pv 2) (pa_cons (pe_bltn (v := .ty "ValueError") (by rfl) T.n_ValueError (by decide +kernel) rfl) pa_nil))) (pe_one (pe_not (pe_callB (call_isE2 T.e_BadRatio hz hf) (by rfl) T.n_isinstance (by decide +kernel) (pa_cons (pv 2) (pa_cons (pe_glob (v := .ref C_BadRow) rfl T.g_BadRow rfl) pa_nil)))))))))))
      (pss_one (ps_ret (pv 1))))), ?_⟩
    refine ⟨_, rfl, fun x dx hx hdx ne => ?_⟩
    have hs : Same H (upd (upd H dx (.own x)) x (.ins C_Ratio dx [])) := fun b o e => by
      rw [upd_ne (ne_of_none e hx), upd_ne (ne_of_none e hdx)]
      exact e
    refine ⟨x, dx, a, 0, rfl, upd_same, by decide, fun _ => ?_, fun z => absurd rfl z⟩
    refine ⟨true, exm_self T.b_BadRatio T.ic_BadRatio T.t_BadRatio T.s_BadRatio, fun _ e he => ?_, fun z => Bool.noConfusion z⟩
    refine ⟨_, rfl, rfl, rfl, _, _, true, rfl, fun _ r => r, T.kt_cable, true, rfl, iteT ?_⟩
    refine ⟨_, rfl, rfl, rfl, _, _, true, rfl, fun _ r => r, T.kt_value, true, rfl, iteT ?_⟩
    refine ⟨_, rfl, rfl, rfl, _, _, false, rfl, fun _ r => r, T.kt_row, false, rfl, ?_⟩
    exact ⟨_, rfl, q _ hs⟩
theorem ok_Lis {f : Addr} {fd : FuncData} (F : Fun K "_law_is" "_law_is" s_Lis f fd) (T : Txt K mg C_Ratio C_BadRatio C_CableError C_BadRow) (c_Lwhole : Cal CX0 P w K mg base 1 "_law_whole" sp_Lwhole) (c_Ldivisor : Cal CX0 P w K mg base 1 "_law_divisor" sp_Ldivisor) :
    FnOk P w K mg base CX0 2 f fd ["_law_told", "_law_num", "_law_den"] (sp_Lis C_Ratio) := by
  refine F.ok sc_Lis (fun vs H Q E h => ?_) (fun cdv A outer s H vs Q E hr h => ?_)
  · obtain ⟨x, dx, n, d, rfl, _⟩ := h
    rfl
  · obtain ⟨x, dx, n, d, rfl, hx, d0, hn, hd, q⟩ := h
    refine ⟨_, (pss_cons (ps_if (PW.pt (pw_or (pt_not (pt_val (pe_callB (C8.call_isC T.i_Ratio) (by rfl) T.n_isinstance (by decide +kernel) (pa_cons (pv 0) (pa_cons (pe_glob (v := .ref C_Ratio) rfl T.g_Ratio rfl) pa_nil))))) (pw_or (pt_not (pt_val (pc_c c_Lwhole hr (by decide) rfl pass0 (pa_cons (pe_fld (pv 0) rfl) pa_nil)))) (pw_or1 (pt_not (pt_val (pc_c c_Lwhole hr (by decide) rfl pass0 (pa_cons (pe_fld (pv 0) rfl) pa_nil)))))))) (pss_one (ps_ret pe_bl)) pss_nil)
      (pss_cons (ps_if (PW.pt (pw_or (pt_cmpR op_lt (pe_fld (pv 0) rfl) pe_int (nomark _)) (pw_or1 (pt_cmpR op_ne (pe_op op_mulA (pe_fld (pv 0) rfl) (pv 2)) (pe_op op_mulA (pv 1) (pe_fld (pv 0) rfl)) (nomark _))))) (pss_one (ps_ret pe_bl)) pss_nil)
      (pss_one (ps_ret (pe_cmpR op_eq (pc_c c_Ldivisor hr (by decide) rfl pass0 (pa_cons (pe_callB call_abs (by rfl) T.n_abs (by decide +kernel) (pa_cons (pe_fld (pv 0) rfl) pa_nil)) (pa_cons (pe_fld (pv 0) rfl) pa_nil))) pe_int (nomark _)))))), ?_⟩
    have r1 := rN_le (n := n) d0
    have r2 := rD_le (n := n) d0
    have r3 := rD_pos (n := n) d0
    have r4 := r_cross n d
    have r5 := r_cop (n := n) d0
    refine ⟨_, rfl, x, dx, _, rfl, hx, true, rfl, iteF ?_⟩
    refine ⟨_, rfl, x, C_Ratio, dx, _, _, rfl, hx, T.cl_Ratio, T.nf_Ratio_num, rfs_num _ _, _, rfl, true, rfl, iteF ?_⟩
    refine ⟨_, rfl, x, C_Ratio, dx, _, _, rfl, hx, T.cl_Ratio, T.nf_Ratio_den, rfs_den _ _, _, rfl, true, rfl, iteF ?_⟩
    refine ⟨_, rfl, x, C_Ratio, dx, _, _, rfl, hx, T.cl_Ratio, T.nf_Ratio_den, rfs_den _ _, _, _, rfl, rfl, _, rfl, ?_⟩
    rw [decide_eq_false (show ¬ rD n d < 1 by omega)]
    refine iteF ?_
    refine ⟨_, rfl, x, C_Ratio, dx, _, _, rfl, hx, T.cl_Ratio, T.nf_Ratio_num, rfs_num _ _, _, rfl, _, _, rfl, rfl, .inr (wide_mul (Nat.lt_of_le_of_lt r1 hn) hd (by decide) (by decide) (by decide)), ?_⟩
    refine ⟨_, rfl, _, rfl, x, C_Ratio, dx, _, _, rfl, hx, T.cl_Ratio, T.nf_Ratio_den, rfs_den _ _, _, _, rfl, rfl, .inr (wide_mul hn (Nat.lt_of_le_of_lt r2 hd) (by decide) (by decide) (by decide)), rfl, _, rfl, ?_⟩
    rw [decide_eq_true (show V.int (rN n d * d) = V.int (n * rD n d) by rw [r4])]
    refine iteF ?_
    refine ⟨_, rfl, x, C_Ratio, dx, _, _, rfl, hx, T.cl_Ratio, T.nf_Ratio_num, rfs_num _ _, _, rfl, _, rfl, x, C_Ratio, dx, _, _, rfl, hx, T.cl_Ratio, T.nf_Ratio_den, rfs_den _ _, ?_⟩
    have ea : (if rN n d < 0 then -rN n d else rN n d) = ((rN n d).natAbs : Int) := by split <;> omega
    rw [ea]
    refine ⟨_, _, rfl, by omega, by omega, by omega, by omega, rfl, ?_⟩
    rw [Int.natAbs_natCast, r5]
    exact q
theorem ok_law {f : Addr} {fd : FuncData} (F : Fun K "law" "law" s_law f fd) (T : Txt K mg C_Ratio C_BadRatio C_CableError C_BadRow) (c_Lpool : Cal CX0 P w K mg base 1 "_law_pool" sp_Lpool) (c_Lcell : Cal CX0 P w K mg base 1 "_law_cell" (sp_Lcell K)) (c_Lnumber : Cal CX0 P w K mg base 2 "_law_number" sp_Lnumber) (c_Ltake : Cal CX0 P w K mg base 1 "_law_take" sp_Ltake) (c_Lwide : Cal CX0 P w K mg base 2 "_law_wide" sp_Lwide) (c_Ratio : Mak (L2.CX P w) P w K mg base 1 "Ratio" C_Ratio (sp_Ratio_init C_Ratio C_BadRatio)) (c_Lrefused : Cal CX0 P w K mg base 3 "_law_refused" sp_Lrefused) (c_Lis : Cal CX0 P w K mg base 2 "_law_is" (sp_Lis C_Ratio)) :
    FnOk P w K mg base CX0 4 f fd ["_law_script"] (sp_law K) := by
  refine F.ok sc_law (fun vs H Q E h => ?_) (fun cdv A outer s H vs Q E hr h => ?_)
  · obtain ⟨a, ns, rfl, _⟩ := h
    rfl
  · obtain ⟨a, ns, rfl, hS, hlen, q⟩ := h
    refine ⟨_, (pss_cons (ps_set (i := 1) sc_law.nd rfl (Or.inl rfl) (pc_c c_Lpool hr (by decide) rfl pass0 (pa_cons (pc_c c_Lcell hr (by decide) rfl pass0 (pa_cons (pv 0) (pa_cons pe_int pa_nil))) pa_nil)))
      (pss_cons (ps_set (i := 2) sc_law.nd rfl (Or.inl rfl) (pc_c c_Lpool hr (by decide) rfl pass0 (pa_cons (pc_c c_Lcell hr (by decide) rfl pass0 (pa_cons (pv 0) (pa_cons pe_int pa_nil))) pa_nil)))
      (pss_cons (ps_set (i := 3) sc_law.nd rfl (Or.inl rfl) (pc_c c_Lnumber hr (by decide) rfl pass0 (pa_cons (pv 1) (pa_cons pe_int pa_nil))))
      (pss_cons (ps_set (i := 4) sc_law.nd rfl (Or.inl rfl) (pc_c c_Lnumber hr (by decide) rfl pass0 (pa_cons (pv 2) (pa_cons pe_int pa_nil))))
      (pss_cons (ps_set (i := 5) sc_law.nd rfl (Or.inl rfl) (pe_op op_mod (pe_callTy call_int1 (by rfl) T.n_int (by decide +kernel) (pa_cons (pc_c c_Lcell hr (by decide) rfl pass0 (pa_cons (pv 0) (pa_cons pe_int pa_nil))) pa_nil)) pe_int))
      (pss_cons (ps_set (i := 6) sc_law.nd rfl (Or.inl rfl) (pe_op op_add pe_int (pc_c c_Ltake hr (by decide) rfl pass0 (pa_cons (pv 2) (pa_cons (pe_op op_pow pe_int pe_int) pa_nil)))))
      (C8.pss_cut (ps_if (pt_cmpR op_eq (pv 5) pe_int (nomark _)) (pss_cons (ps_set (i := 3) sc_law.nd rfl (Or.inl rfl) (pc_c c_Lwide hr (by decide) rfl pass0 (pa_cons (pv 1) pa_nil)))
      (pss_one (ps_set (i := 4) sc_law.nd rfl (Or.inl rfl) (pc_c c_Lwide hr (by decide) rfl pass0 (pa_cons (pv 2) pa_nil))))) (pss_one (ps_if (pt_cmpR op_eq (pv 5) pe_int (nomark _)) (pss_one (ps_set (i := 3) sc_law.nd rfl (Or.inl rfl) (pe_op op_mulA (pv 4) (pe_op op_sub (pv 6) pe_int)))) (pss_cons (ps_set (i := 3) sc_law.nd rfl (Or.inl rfl) (pe_op op_mulA (pv 3) (pv 6)))
      (pss_one (ps_set (i := 4) sc_law.nd rfl (Or.inl rfl) (pe_op op_mulA (pv 4) (pv 6))))))))
      (pss_cons (ps_set (i := 7) sc_law.nd rfl (Or.inl rfl) (pc_mk c_Ratio hr (by decide) rfl passL (pa_cons (pv 3) (pa_cons pe_int pa_nil))))
      (C8.pss_cut (ps_if (pt_cmpR op_ne (pv 4) pe_int (nomark _)) (pss_cons (ps_set (i := 8) sc_law.nd rfl (Or.inl rfl) (pc_mk c_Ratio hr (by decide) rfl passL (pa_cons (pv 3) (pa_cons (pv 4) pa_nil))))
      (pss_cons (ps_if (PW.pt (pw_or (pt_not (pt_val (pc_c c_Lrefused hr (by decide) rfl pass0 (pa_cons (pv 3) pa_nil)))) (pw_or1 (pt_not (pt_val (pc_c c_Lrefused hr (by decide) rfl pass0 (pa_cons (pv 4) pa_nil))))))) (pss_one (ps_ret pe_bl)) pss_nil)
      (pss_one (ps_if (pt_not (pt_val (pc_c c_Lis hr (by decide) rfl pass0 (pa_cons (pv 8) (pa_cons (pv 3) (pa_cons (pv 4) pa_nil)))))) (pss_one (ps_ret pe_bl)) pss_nil)))) pss_nil)
      (pss_one (ps_ret (pe_and (pc_c c_Lrefused hr (by decide) rfl pass0 (pa_cons (pv 3) pa_nil)) (pe_one (pc_c c_Lis hr (by decide) rfl pass0 (pa_cons (pv 7) (pa_cons (pv 3) (pa_cons pe_int pa_nil))))))))))))))))), ?_⟩
    -- one, two = pools
    refine ⟨_, rfl, a, ns, 0, rfl, hS, fun c0 hc0 => ⟨c0, rfl, fun p1 H1 n1 s1 P1 => ?_⟩⟩
    refine ⟨_, rfl, a, ns, 1, rfl, s1.seq hS, fun c1 hc1 => ⟨c1, rfl, fun p2 H2 n2 s2 P2 => ?_⟩⟩
    have ne : p1 ≠ p2 := fun z => by
      obtain ⟨x, y, z', e⟩ := P1
      rw [z, n2] at e
      cases e
    have m2 : H p2 = none := s1.free n2
    have P1' := P1.same s2
    have S2 := s1.trans s2
    -- num, den
    refine ⟨_, rfl, p1, rfl, P1', fun H3 num k3 Q1 hnum => ?_⟩
    have S3 := Kp.same S2 k3 n1
    have Q2 := P2.kp k3 ne.symm
    refine ⟨_, rfl, p2, rfl, Q2, fun H4 den k4 R2 hden => ?_⟩
    have S4 := Kp.same S3 k4 m2
    have R1 := Q1.kp k4 ne
    -- way
    refine ⟨_, rfl, a, ns, 2, rfl, S4.seq hS, fun c2 hc2 => .inl ⟨_, rfl, _, _, rfl, rfl, (by show (0 : Int) < 4; decide), ?_⟩⟩
    -- factor
    refine ⟨_, rfl, _, _, rfl, rfl, ⟨by decide, by decide, by decide⟩, p2, _, rfl, R2, by decide, by decide, fun H5 f k5 T2 f0 f1 => ⟨_, _, rfl, rfl, ?_⟩⟩
    have S5 := Kp.same S4 k5 m2
    have T1 := R1.kp k5 ne
    have f1' : f < 100000000 := f1
    have fb : (1 + f).natAbs < 2 ^ 30 := by omega
    have fb' : (1 + f - 1).natAbs < 2 ^ 30 := by omega
    refine ⟨fun σ' H' => ∃ n d : Int, σ' = [some (.ref a), some (.ref p1), some (.ref p2), some (.int n), some (.int d), some (.int (c2 % 4)), some (.int (1 + f)), none, none] ∧ n.natAbs < 2 ^ 200 ∧ d.natAbs < 2 ^ 200, ?_, ?_⟩
    · refine ⟨_, rfl, rfl, _, rfl, ?_⟩
      refine ite2 (fun _ => ?_) (fun _ => ?_)
      · refine ⟨_, rfl, p1, rfl, T1, fun H6 n k6 U1 hn => ?_⟩
        refine ⟨_, rfl, p2, rfl, T2.kp k6 ne.symm, fun H7 d k7 U2 hd => ?_⟩
        exact ⟨_, _, rfl, hn, hd⟩
      · refine ⟨_, rfl, rfl, _, rfl, ?_⟩
        refine ite2 (fun _ => ?_) (fun _ => ?_)
        · refine ⟨_, rfl, _, rfl, _, _, rfl, rfl, _, _, rfl, rfl, .inr (wide_mul hden fb' (by decide) (by decide) (by decide)), ?_⟩
          exact ⟨_, _, rfl, Nat.lt_trans (wide_lt hden fb') (by decide), Nat.lt_trans hden (by decide)⟩
        · refine ⟨_, rfl, _, rfl, _, _, rfl, rfl, .inr (wide_mul hnum fb (by decide) (by decide) (by decide)), ?_⟩
          refine ⟨_, rfl, _, rfl, _, _, rfl, rfl, .inr (wide_mul hden fb (by decide) (by decide) (by decide)), ?_⟩
          exact ⟨_, _, rfl, Nat.lt_trans (wide_lt hnum fb) (by decide), Nat.lt_trans (wide_lt hden fb) (by decide)⟩
    · rintro σ' H' ⟨n, d, rfl, hn, hd⟩
      refine ⟨_, rfl, fun x dx nx ndx nex => ?_⟩
      refine ⟨x, dx, n, 1, rfl, upd_same, by decide, fun z => absurd z (by decide), fun _ J1 hx1 kx1 => ⟨rfl, ?_⟩⟩
      refine ⟨fun σ' J => ∃ tol : Option V, σ' = [some (.ref a), some (.ref p1), some (.ref p2), some (.int n), some (.int d), some (.int (c2 % 4)), some (.int (1 + f)), some (.ref x), tol] ∧ Same J1 J, ?_, ?_⟩
      · refine ⟨_, rfl, rfl, _, rfl, ?_⟩
        refine ite2 (fun hd0 => ?_) (fun _ => ⟨none, rfl, Same.of _⟩)
        have d0 : d ≠ 0 := fun z => by
          rw [z] at hd0
          exact absurd hd0 (by decide)
        refine ⟨_, rfl, _, rfl, fun y dy ny ndy ney => ?_⟩
        refine ⟨y, dy, n, d, rfl, upd_same, Nat.lt_trans hd (by decide), fun z => absurd z d0, fun _ J2 hy2 ky2 => ⟨rfl, ?_⟩⟩
        have sJ : Same J1 J2 := fun b o e => ky2 b o (ne_of_none e ny) (by
          rw [upd_ne (ne_of_none e ny), upd_ne (ne_of_none e ndy)]
          exact e)
        refine ⟨_, rfl, n, rfl, fun J3 s3 => ⟨true, rfl, iteF ?_⟩⟩
        refine ⟨_, rfl, d, rfl, fun J4 s4 => ⟨true, rfl, iteF ?_⟩⟩
        refine ⟨_, rfl, _, rfl, _, rfl, y, dy, n, d, rfl, s4 _ _ (s3 _ _ hy2), d0, hn, hd, true, rfl, iteF ?_⟩
        exact ⟨_, rfl, (sJ.trans s3).trans s4⟩
      · rintro σ' J ⟨tol, rfl, sJ⟩
        refine ⟨_, rfl, n, rfl, fun J3 s3 => ⟨true, rfl, iteT ?_⟩⟩
        exact ⟨_, rfl, _, rfl, x, dx, n, 1, rfl, s3 _ _ (sJ _ _ hx1), by decide, hn, by decide, q _⟩
end
theorem all_mk {l : PySem.W.OpenLaw} {w : World} {K : PySem.W.Frag} {h : Heap} {mg : Str → Option Value} {fa C_Ratio C_BadRatio C_CableError C_BadRow : Addr} {f_Ratio_init : Addr} {od_Ratio_init an_Ratio_init : Option Addr} {sl_Ratio_init : Array (Option Value)} {oc_Ratio_init kV_Ratio_init dc_Ratio_init pm_Ratio_init cd_Ratio_init ct_Ratio_init : Value} {f_Lcell : Addr} {od_Lcell an_Lcell : Option Addr} {sl_Lcell : Array (Option Value)} {oc_Lcell kV_Lcell dc_Lcell pm_Lcell cd_Lcell ct_Lcell : Value} {f_Lpool : Addr} {od_Lpool an_Lpool : Option Addr} {sl_Lpool : Array (Option Value)} {oc_Lpool kV_Lpool dc_Lpool pm_Lpool cd_Lpool ct_Lpool : Value} {f_Ltake : Addr} {od_Ltake an_Ltake : Option Addr} {sl_Ltake : Array (Option Value)} {oc_Ltake kV_Ltake dc_Ltake pm_Ltake cd_Ltake ct_Ltake : Value} {f_Lnumber : Addr} {od_Lnumber an_Lnumber : Option Addr} {sl_Lnumber : Array (Option Value)} {oc_Lnumber kV_Lnumber dc_Lnumber pm_Lnumber cd_Lnumber ct_Lnumber : Value} {f_Ldivisor : Addr} {od_Ldivisor an_Ldivisor : Option Addr} {sl_Ldivisor : Array (Option Value)} {oc_Ldivisor kV_Ldivisor dc_Ldivisor pm_Ldivisor cd_Ldivisor ct_Ldivisor : Value} {f_Lwide : Addr} {od_Lwide an_Lwide : Option Addr} {sl_Lwide : Array (Option Value)} {oc_Lwide kV_Lwide dc_Lwide pm_Lwide cd_Lwide ct_Lwide : Value} {f_Lwhole : Addr} {od_Lwhole an_Lwhole : Option Addr} {sl_Lwhole : Array (Option Value)} {oc_Lwhole kV_Lwhole dc_Lwhole pm_Lwhole cd_Lwhole ct_Lwhole : Value} {f_Lrefused : Addr} {od_Lrefused an_Lrefused : Option Addr} {sl_Lrefused : Array (Option Value)} {oc_Lrefused kV_Lrefused dc_Lrefused pm_Lrefused cd_Lrefused ct_Lrefused : Value} {f_Lis : Addr} {od_Lis an_Lis : Option Addr} {sl_Lis : Array (Option Value)} {oc_Lis kV_Lis dc_Lis pm_Lis cd_Lis ct_Lis : Value} {f_law : Addr} {od_law an_law : Option Addr} {sl_law : Array (Option Value)} {oc_law kV_law dc_law pm_law cd_law ct_law : Value}
    (X : K.In h) (G : h.Ns mainGlobals mg) (hfa : mg "law" = some (.ref fa))
    (g_Ratio : PySem.W.nsIn K mainGlobals "Ratio" = some (some (.ref C_Ratio)))
    (pg_Ratio : PySem.W.plainGet K C_Ratio Str.empty = true)
    (hd_Ratio : PySem.W.hasDictIn K C_Ratio = true)
    (po_Ratio : PySem.W.plainOver K C_Ratio = true)
    (sa_Ratio : PySem.W.findIn K (.ref C_Ratio) "__setattr__" = some (some (.builtin "object.__setattr__")))
    (nf_Ratio_num : PySem.W.findIn K (.ref C_Ratio) "num" = some none)
    (nf_Ratio_den : PySem.W.findIn K (.ref C_Ratio) "den" = some none)
    (ha_Ratio : PySem.W.findIn K (.ref C_Ratio) "__class__" = some (some (.builtin "object.__class__")))
    (hn_Ratio : PySem.W.specialIn K (.builtin "object.__class__") "__get__" = some (some (.builtin "getset_descriptor.__get__")))
    (ht_Ratio : PySem.W.takesIn K (.builtin "object.__class__") = some true)
    (hm_Ratio : PySem.W.mroIn K C_Ratio (.type "object") = some true)
    (me_Ratio : PySem.W.kitOne K (.ref C_Ratio) (.ref C_Ratio) = some true)
    (g_BadRatio : PySem.W.nsIn K mainGlobals "BadRatio" = some (some (.ref C_BadRatio)))
    (x_BadRatio : PySem.W.excIn K C_BadRatio [.type "ValueError", .type "Exception", .type "BaseException", .type "object"] "ValueError.__new__" = true)
    (k_BadRatio : PySem.W.keepIn K (.ref C_BadRatio) = true)
    (b_BadRatio : PySem.W.subIn K (.ref C_BadRatio) (.type "BaseException") = some true)
    (t_BadRatio : PySem.W.typeIn K (.ref C_BadRatio) = some (.type "type"))
    (ic_BadRatio : PySem.W.isClsIn K C_BadRatio = true)
    (s_BadRatio : PySem.W.subIn K (.ref C_BadRatio) (.ref C_BadRatio) = some true)
    (eg_BadRatio : PySem.W.findIn K (.ref C_BadRatio) "__getattribute__" = some (some (.builtin "BaseException.__getattribute__")))
    (ek_BadRatio : PySem.W.findIn K (.ref C_BadRatio) "__getattr__" = some none)
    (ed_BadRatio : PySem.W.hasDictIn K C_BadRatio = true)
    (ea_BadRatio : PySem.W.findIn K (.ref C_BadRatio) "__class__" = some (some (.builtin "object.__class__")))
    (en_BadRatio : PySem.W.specialIn K (.builtin "object.__class__") "__get__" = some (some (.builtin "getset_descriptor.__get__")))
    (et_BadRatio : PySem.W.takesIn K (.builtin "object.__class__") = some true)
    (em_BadRatio : PySem.W.mroIn K C_BadRatio (.type "object") = some true)
    (g_CableError : PySem.W.nsIn K mainGlobals "CableError" = some (some (.ref C_CableError)))
    (g_BadRow : PySem.W.nsIn K mainGlobals "BadRow" = some (some (.ref C_BadRow)))
    (n_len : PySem.W.nsIn K mainGlobals "len" = some none)
    (n_int : PySem.W.nsIn K mainGlobals "int" = some none)
    (n_abs : PySem.W.nsIn K mainGlobals "abs" = some none)
    (n_range : PySem.W.nsIn K mainGlobals "range" = some none)
    (n_bool : PySem.W.nsIn K mainGlobals "bool" = some none)
    (n_isinstance : PySem.W.nsIn K mainGlobals "isinstance" = some none)
    (n_ValueError : PySem.W.nsIn K mainGlobals "ValueError" = some none)
    (gi_gcd : PySem.W.nsIn K mainGlobals "gcd" = some (some (.builtin "math.gcd")))
    (kt_cable : PySem.W.kitOne K (.ref C_BadRatio) (.ref C_CableError) = some true)
    (kt_value : PySem.W.kitOne K (.ref C_BadRatio) (.type "ValueError") = some true)
    (kt_row : PySem.W.kitOne K (.ref C_BadRatio) (.ref C_BadRow) = some false)
    (mk_Ratio : PySem.W.makesIn K C_Ratio = true)
    (mkk_Ratio : PySem.W.keepIn K (.ref C_Ratio) = true)
    (a_Ratio_init : PySem.W.findIn K (.ref C_Ratio) "__init__" = some (some (.ref f_Ratio_init)))
    (j_Ratio_init : PySem.W.isFn K (.ref f_Ratio_init) = true)
    (l_Ratio_init : K.lookup f_Ratio_init = some ⟨oc_Ratio_init, od_Ratio_init, .func (PySem.W.fnOf "__init__" "Ratio.__init__" (defArgs s_Ratio_init) (defBody s_Ratio_init) (defScope s_Ratio_init) .none kV_Ratio_init dc_Ratio_init pm_Ratio_init an_Ratio_init cd_Ratio_init ct_Ratio_init), sl_Ratio_init⟩)
    (q_Ratio_init : PySem.W.codeIn K cd_Ratio_init "Ratio.__init__" = true)
    (k_Ratio_init : PySem.W.keepIn K (.ref f_Ratio_init) = true)
    (a_Lcell : PySem.W.nsIn K mainGlobals "_law_cell" = some (some (.ref f_Lcell)))
    (l_Lcell : K.lookup f_Lcell = some ⟨oc_Lcell, od_Lcell, .func (PySem.W.fnOf "_law_cell" "_law_cell" (defArgs s_Lcell) (defBody s_Lcell) (defScope s_Lcell) .none kV_Lcell dc_Lcell pm_Lcell an_Lcell cd_Lcell ct_Lcell), sl_Lcell⟩)
    (q_Lcell : PySem.W.codeIn K cd_Lcell "_law_cell" = true)
    (k_Lcell : PySem.W.keepIn K (.ref f_Lcell) = true)
    (a_Lpool : PySem.W.nsIn K mainGlobals "_law_pool" = some (some (.ref f_Lpool)))
    (l_Lpool : K.lookup f_Lpool = some ⟨oc_Lpool, od_Lpool, .func (PySem.W.fnOf "_law_pool" "_law_pool" (defArgs s_Lpool) (defBody s_Lpool) (defScope s_Lpool) .none kV_Lpool dc_Lpool pm_Lpool an_Lpool cd_Lpool ct_Lpool), sl_Lpool⟩)
    (q_Lpool : PySem.W.codeIn K cd_Lpool "_law_pool" = true)
    (k_Lpool : PySem.W.keepIn K (.ref f_Lpool) = true)
    (a_Ltake : PySem.W.nsIn K mainGlobals "_law_take" = some (some (.ref f_Ltake)))
    (l_Ltake : K.lookup f_Ltake = some ⟨oc_Ltake, od_Ltake, .func (PySem.W.fnOf "_law_take" "_law_take" (defArgs s_Ltake) (defBody s_Ltake) (defScope s_Ltake) .none kV_Ltake dc_Ltake pm_Ltake an_Ltake cd_Ltake ct_Ltake), sl_Ltake⟩)
    (q_Ltake : PySem.W.codeIn K cd_Ltake "_law_take" = true)
    (k_Ltake : PySem.W.keepIn K (.ref f_Ltake) = true)
    (a_Lnumber : PySem.W.nsIn K mainGlobals "_law_number" = some (some (.ref f_Lnumber)))
    (l_Lnumber : K.lookup f_Lnumber = some ⟨oc_Lnumber, od_Lnumber, .func (PySem.W.fnOf "_law_number" "_law_number" (defArgs s_Lnumber) (defBody s_Lnumber) (defScope s_Lnumber) .none kV_Lnumber dc_Lnumber pm_Lnumber an_Lnumber cd_Lnumber ct_Lnumber), sl_Lnumber⟩)
    (q_Lnumber : PySem.W.codeIn K cd_Lnumber "_law_number" = true)
    (k_Lnumber : PySem.W.keepIn K (.ref f_Lnumber) = true)
    (a_Ldivisor : PySem.W.nsIn K mainGlobals "_law_divisor" = some (some (.ref f_Ldivisor)))
    (l_Ldivisor : K.lookup f_Ldivisor = some ⟨oc_Ldivisor, od_Ldivisor, .func (PySem.W.fnOf "_law_divisor" "_law_divisor" (defArgs s_Ldivisor) (defBody s_Ldivisor) (defScope s_Ldivisor) .none kV_Ldivisor dc_Ldivisor pm_Ldivisor an_Ldivisor cd_Ldivisor ct_Ldivisor), sl_Ldivisor⟩)
    (q_Ldivisor : PySem.W.codeIn K cd_Ldivisor "_law_divisor" = true)
    (k_Ldivisor : PySem.W.keepIn K (.ref f_Ldivisor) = true)
    (a_Lwide : PySem.W.nsIn K mainGlobals "_law_wide" = some (some (.ref f_Lwide)))
    (l_Lwide : K.lookup f_Lwide = some ⟨oc_Lwide, od_Lwide, .func (PySem.W.fnOf "_law_wide" "_law_wide" (defArgs s_Lwide) (defBody s_Lwide) (defScope s_Lwide) .none kV_Lwide dc_Lwide pm_Lwide an_Lwide cd_Lwide ct_Lwide), sl_Lwide⟩)
    (q_Lwide : PySem.W.codeIn K cd_Lwide "_law_wide" = true)
    (k_Lwide : PySem.W.keepIn K (.ref f_Lwide) = true)
    (a_Lwhole : PySem.W.nsIn K mainGlobals "_law_whole" = some (some (.ref f_Lwhole)))
    (l_Lwhole : K.lookup f_Lwhole = some ⟨oc_Lwhole, od_Lwhole, .func (PySem.W.fnOf "_law_whole" "_law_whole" (defArgs s_Lwhole) (defBody s_Lwhole) (defScope s_Lwhole) .none kV_Lwhole dc_Lwhole pm_Lwhole an_Lwhole cd_Lwhole ct_Lwhole), sl_Lwhole⟩)
    (q_Lwhole : PySem.W.codeIn K cd_Lwhole "_law_whole" = true)
    (k_Lwhole : PySem.W.keepIn K (.ref f_Lwhole) = true)
    (a_Lrefused : PySem.W.nsIn K mainGlobals "_law_refused" = some (some (.ref f_Lrefused)))
    (l_Lrefused : K.lookup f_Lrefused = some ⟨oc_Lrefused, od_Lrefused, .func (PySem.W.fnOf "_law_refused" "_law_refused" (defArgs s_Lrefused) (defBody s_Lrefused) (defScope s_Lrefused) .none kV_Lrefused dc_Lrefused pm_Lrefused an_Lrefused cd_Lrefused ct_Lrefused), sl_Lrefused⟩)
    (q_Lrefused : PySem.W.codeIn K cd_Lrefused "_law_refused" = true)
    (k_Lrefused : PySem.W.keepIn K (.ref f_Lrefused) = true)
    (a_Lis : PySem.W.nsIn K mainGlobals "_law_is" = some (some (.ref f_Lis)))
    (l_Lis : K.lookup f_Lis = some ⟨oc_Lis, od_Lis, .func (PySem.W.fnOf "_law_is" "_law_is" (defArgs s_Lis) (defBody s_Lis) (defScope s_Lis) .none kV_Lis dc_Lis pm_Lis an_Lis cd_Lis ct_Lis), sl_Lis⟩)
    (q_Lis : PySem.W.codeIn K cd_Lis "_law_is" = true)
    (k_Lis : PySem.W.keepIn K (.ref f_Lis) = true)
    (a_law : PySem.W.nsIn K mainGlobals "law" = some (some (.ref f_law)))
    (l_law : K.lookup f_law = some ⟨oc_law, od_law, .func (PySem.W.fnOf "law" "law" (defArgs s_law) (defBody s_law) (defScope s_law) .none kV_law dc_law pm_law an_law cd_law ct_law), sl_law⟩)
    (q_law : PySem.W.codeIn K cd_law "law" = true)
    (k_law : PySem.W.keepIn K (.ref f_law) = true) :
    ∃ fd : FuncData, (∀ (s : Shared) (v : Value), BindsTo s fd ⟨[v], []⟩ [("_law_script", v)]) ∧ ∀ base : Heap, K.In base → base.Ns mainGlobals mg → FnOk l.prog w K mg base CX0 4 fa fd ["_law_script"] (sp_law K) := by
  have e := hfa.symm.trans (PySem.W.mg_of X G a_law)
  cases e
  have T : Txt K mg C_Ratio C_BadRatio C_CableError C_BadRow := ⟨PySem.W.mg_of X G g_Ratio, ⟨pg_Ratio, hd_Ratio, po_Ratio, sa_Ratio⟩, nf_Ratio_num, nf_Ratio_den, ⟨⟨pg_Ratio, hd_Ratio, po_Ratio, sa_Ratio⟩, ha_Ratio, hn_Ratio, ht_Ratio, hm_Ratio, me_Ratio⟩, PySem.W.mg_of X G g_BadRatio, x_BadRatio, k_BadRatio, b_BadRatio, t_BadRatio, ic_BadRatio, s_BadRatio, ⟨eg_BadRatio, ek_BadRatio, b_BadRatio, ed_BadRatio, ea_BadRatio, en_BadRatio, et_BadRatio, em_BadRatio⟩, PySem.W.mg_of X G g_CableError, PySem.W.mg_of X G g_BadRow, PySem.W.mg_none_of X G n_len, PySem.W.mg_none_of X G n_int, PySem.W.mg_none_of X G n_abs, PySem.W.mg_none_of X G n_range, PySem.W.mg_none_of X G n_bool, PySem.W.mg_none_of X G n_isinstance, PySem.W.mg_none_of X G n_ValueError, PySem.W.mg_of X G gi_gcd, kt_cable, kt_value, kt_row⟩
  have F_Ratio_init := fun_mk (st := s_Ratio_init) l_Ratio_init q_Ratio_init k_Ratio_init
  have b_Ratio_init := F_Ratio_init.binds (ps := ["self", "num", "den"]) fun _ _ _ _ _ _ us hl => match us, hl with | [_, _, _], _ => rfl
  have F_Lcell := fun_mk (st := s_Lcell) l_Lcell q_Lcell k_Lcell
  have b_Lcell := F_Lcell.binds (ps := ["_law_script", "_law_at"]) fun _ _ _ _ _ _ us hl => match us, hl with | [_, _], _ => rfl
  have F_Lpool := fun_mk (st := s_Lpool) l_Lpool q_Lpool k_Lpool
  have b_Lpool := F_Lpool.binds (ps := ["_law_cell_here"]) fun _ _ _ _ _ _ us hl => match us, hl with | [_], _ => rfl
  have F_Ltake := fun_mk (st := s_Ltake) l_Ltake q_Ltake k_Ltake
  have b_Ltake := F_Ltake.binds (ps := ["_law_pool_here", "_law_many"]) fun _ _ _ _ _ _ us hl => match us, hl with | [_, _], _ => rfl
  have F_Lnumber := fun_mk (st := s_Lnumber) l_Lnumber q_Lnumber k_Lnumber
  have b_Lnumber := F_Lnumber.binds (ps := ["_law_pool_here", "_law_blocks"]) fun _ _ _ _ _ _ us hl => match us, hl with | [_, _], _ => rfl
  have F_Ldivisor := fun_mk (st := s_Ldivisor) l_Ldivisor q_Ldivisor k_Ldivisor
  have b_Ldivisor := F_Ldivisor.binds (ps := ["_law_one", "_law_two"]) fun _ _ _ _ _ _ us hl => match us, hl with | [_, _], _ => rfl
  have F_Lwide := fun_mk (st := s_Lwide) l_Lwide q_Lwide k_Lwide
  have b_Lwide := F_Lwide.binds (ps := ["_law_pool_here"]) fun _ _ _ _ _ _ us hl => match us, hl with | [_], _ => rfl
  have F_Lwhole := fun_mk (st := s_Lwhole) l_Lwhole q_Lwhole k_Lwhole
  have b_Lwhole := F_Lwhole.binds (ps := ["_law_told"]) fun _ _ _ _ _ _ us hl => match us, hl with | [_], _ => rfl
  have F_Lrefused := fun_mk (st := s_Lrefused) l_Lrefused q_Lrefused k_Lrefused
  have b_Lrefused := F_Lrefused.binds (ps := ["_law_num"]) fun _ _ _ _ _ _ us hl => match us, hl with | [_], _ => rfl
  have F_Lis := fun_mk (st := s_Lis) l_Lis q_Lis k_Lis
  have b_Lis := F_Lis.binds (ps := ["_law_told", "_law_num", "_law_den"]) fun _ _ _ _ _ _ us hl => match us, hl with | [_, _, _], _ => rfl
  refine ⟨PySem.W.fnOf "law" "law" (defArgs s_law) (defBody s_law) (defScope s_law) .none kV_law dc_law pm_law an_law cd_law ct_law, fun s v => .of_eq rfl, fun base _ _ => ?_⟩
  have c_Ratio := mak_mk (ok_Ratio_init (P := l.prog) (w := w) (base := base) F_Ratio_init T ) (T.g_Ratio) ⟨mk_Ratio, a_Ratio_init, j_Ratio_init, mkk_Ratio⟩ b_Ratio_init
  have c_Lcell := cal_mk (ok_Lcell (P := l.prog) (w := w) (base := base) F_Lcell T ) (PySem.W.mg_of X G a_Lcell) k_Lcell b_Lcell
  have c_Lpool := cal_mk (ok_Lpool (P := l.prog) (w := w) (base := base) F_Lpool T ) (PySem.W.mg_of X G a_Lpool) k_Lpool b_Lpool
  have c_Ltake := cal_mk (ok_Ltake (P := l.prog) (w := w) (base := base) F_Ltake T ) (PySem.W.mg_of X G a_Ltake) k_Ltake b_Ltake
  have c_Lnumber := cal_mk (ok_Lnumber (P := l.prog) (w := w) (base := base) F_Lnumber T c_Ltake) (PySem.W.mg_of X G a_Lnumber) k_Lnumber b_Lnumber
  have c_Ldivisor := cal_mk (ok_Ldivisor (P := l.prog) (w := w) (base := base) F_Ldivisor T ) (PySem.W.mg_of X G a_Ldivisor) k_Ldivisor b_Ldivisor
  have c_Lwide := cal_mk (ok_Lwide (P := l.prog) (w := w) (base := base) F_Lwide T c_Ltake) (PySem.W.mg_of X G a_Lwide) k_Lwide b_Lwide
  have c_Lwhole := cal_mk (ok_Lwhole (P := l.prog) (w := w) (base := base) F_Lwhole T ) (PySem.W.mg_of X G a_Lwhole) k_Lwhole b_Lwhole
  have c_Lrefused := cal_mk (ok_Lrefused (P := l.prog) (w := w) (base := base) F_Lrefused T c_Ratio) (PySem.W.mg_of X G a_Lrefused) k_Lrefused b_Lrefused
  have c_Lis := cal_mk (ok_Lis (P := l.prog) (w := w) (base := base) F_Lis T c_Lwhole c_Ldivisor) (PySem.W.mg_of X G a_Lis) k_Lis b_Lis
  exact ok_law (fun_mk (st := s_law) l_law q_law k_law) T c_Lpool c_Lcell c_Lnumber c_Ltake c_Lwide c_Ratio c_Lrefused c_Lis

theorem walk {l : PySem.W.OpenLaw} {q : Program} {loose : List Str} {XP : (Str → Option Value) → Heap → Prop} {YP : World → Heap → Prop} {d : DefRec} {K : Params → PySem.W.Frag} (hn : l.most = some 63) (hdf : d.params.defaults = [])
    (hY : ∀ (w : World) (h : Heap), YP w h → (K w.params).In h)
    (F : ∀ (w : World) (mg : Str → Option Value) (fa : Addr) (h : Heap), (K w.params).In h → h.Ns mainGlobals mg → mg d.name = some (.ref fa) →
      ∃ fd : FuncData, (∀ (s : Shared) (u : Value), BindsTo s fd ⟨[u], []⟩ [("_law_script", u)]) ∧ ∀ base : Heap, (K w.params).In base → base.Ns mainGlobals mg → FnOk l.prog w (K w.params) mg base CX0 4 fa fd ["_law_script"] (sp_law (K w.params))) :
    PySem.W.WalkO q loose XP YP l.row.toRowW d [] (fun f vs => PySem.call f vs) :=
  L2.walk_of (n := 63) (k := 4) (x := "_law_script") (CX := fun _ => CX0) (sp := fun w => sp_law (K w.params)) hn (by decide) hdf ⟨rfl, by decide, by decide⟩ hY F (fun _ _ a ns hl _ hS => ⟨a, ns, rfl, hS, hl, fun _ => rfl⟩) fun _ _ _ _ _ z => z
end My

open PySem PySem.W PyProof.Rows in
set_option maxRecDepth 100000 in
set_option maxHeartbeats 0 in
theorem PySem.Challenge.cw_onecable_k01_ratio_in_lowest_terms_holds : PySem.Challenge.rw_onecable_k01_ratio_in_lowest_terms.Holds := by
  w_on; o_law; k_head; (case hw => w_witness2)
  k_fill
  refine My.walk (l := PySem.Challenge.rw_onecable_k01_ratio_in_lowest_terms) rfl rfl (fun w h Y => PySem.W.kIn_of Y) ?F
  case F =>
    intro w mg fa h KX G hmg
    refine' My.all_mk KX G hmg ?g_Ratio ?pg_Ratio ?hd_Ratio ?po_Ratio ?sa_Ratio ?nf_Ratio_num ?nf_Ratio_den ?ha_Ratio ?hn_Ratio ?ht_Ratio ?hm_Ratio ?me_Ratio ?g_BadRatio ?x_BadRatio ?k_BadRatio ?b_BadRatio ?t_BadRatio ?ic_BadRatio ?s_BadRatio ?eg_BadRatio ?ek_BadRatio ?ed_BadRatio ?ea_BadRatio ?en_BadRatio ?et_BadRatio ?em_BadRatio ?g_CableError ?g_BadRow ?n_len ?n_int ?n_abs ?n_range ?n_bool ?n_isinstance ?n_ValueError ?gi_gcd ?kt_cable ?kt_value ?kt_row ?mk_Ratio ?mkk_Ratio ?a_Ratio_init ?j_Ratio_init ?l_Ratio_init ?q_Ratio_init ?k_Ratio_init ?a_Lcell ?l_Lcell ?q_Lcell ?k_Lcell ?a_Lpool ?l_Lpool ?q_Lpool ?k_Lpool ?a_Ltake ?l_Ltake ?q_Ltake ?k_Ltake ?a_Lnumber ?l_Lnumber ?q_Lnumber ?k_Lnumber ?a_Ldivisor ?l_Ldivisor ?q_Ldivisor ?k_Ldivisor ?a_Lwide ?l_Lwide ?q_Lwide ?k_Lwide ?a_Lwhole ?l_Lwhole ?q_Lwhole ?k_Lwhole ?a_Lrefused ?l_Lrefused ?q_Lrefused ?k_Lrefused ?a_Lis ?l_Lis ?q_Lis ?k_Lis ?a_law ?l_law ?q_law ?k_law
    (case g_Ratio => k_is)
    (case pg_Ratio => k_is)
    (case hd_Ratio => k_is)
    (case po_Ratio => k_is)
    (case sa_Ratio => k_is)
    (case nf_Ratio_num => k_is)
    (case nf_Ratio_den => k_is)
    (case ha_Ratio => k_is)
    (case hn_Ratio => k_is)
    (case ht_Ratio => k_is)
    (case hm_Ratio => k_is)
    (case me_Ratio => kit_is)
    (case g_BadRatio => k_is)
    (case x_BadRatio => k_exc)
    (case k_BadRatio => k_is)
    (case b_BadRatio => k_is)
    (case t_BadRatio => k_is)
    (case ic_BadRatio => k_is)
    (case s_BadRatio => first | rfl | k_is)
    (case eg_BadRatio => k_is)
    (case ek_BadRatio => k_is)
    (case ed_BadRatio => k_is)
    (case ea_BadRatio => k_is)
    (case en_BadRatio => k_is)
    (case et_BadRatio => k_is)
    (case em_BadRatio => k_is)
    (case g_CableError => k_is)
    (case g_BadRow => k_is)
    (case n_len => k_is)
    (case n_int => k_is)
    (case n_abs => k_is)
    (case n_range => k_is)
    (case n_bool => k_is)
    (case n_isinstance => k_is)
    (case n_ValueError => k_is)
    (case gi_gcd => k_is)
    (case kt_cable => kit_is)
    (case kt_value => kit_is)
    (case kt_row => kit_is)
    (case mk_Ratio => k_is)
    (case mkk_Ratio => k_is)
    (case a_Ratio_init => k_is)
    (case j_Ratio_init => k_is)
    (case l_Ratio_init => k_is)
    (case q_Ratio_init => k_is)
    (case k_Ratio_init => k_is)
    (case a_Lcell => k_is)
    (case l_Lcell => k_is)
    (case q_Lcell => k_is)
    (case k_Lcell => k_is)
    (case a_Lpool => k_is)
    (case l_Lpool => k_is)
    (case q_Lpool => k_is)
    (case k_Lpool => k_is)
    (case a_Ltake => k_is)
    (case l_Ltake => k_is)
    (case q_Ltake => k_is)
    (case k_Ltake => k_is)
    (case a_Lnumber => k_is)
    (case l_Lnumber => k_is)
    (case q_Lnumber => k_is)
    (case k_Lnumber => k_is)
    (case a_Ldivisor => k_is)
    (case l_Ldivisor => k_is)
    (case q_Ldivisor => k_is)
    (case k_Ldivisor => k_is)
    (case a_Lwide => k_is)
    (case l_Lwide => k_is)
    (case q_Lwide => k_is)
    (case k_Lwide => k_is)
    (case a_Lwhole => k_is)
    (case l_Lwhole => k_is)
    (case q_Lwhole => k_is)
    (case k_Lwhole => k_is)
    (case a_Lrefused => k_is)
    (case l_Lrefused => k_is)
    (case q_Lrefused => k_is)
    (case k_Lrefused => k_is)
    (case a_Lis => k_is)
    (case l_Lis => k_is)
    (case q_Lis => k_is)
    (case k_Lis => k_is)
    (case a_law => k_is)
    (case l_law => k_is)
    (case q_law => k_is)
    (case k_law => k_is)

