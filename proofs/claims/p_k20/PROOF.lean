import PyProof.Rows.All
import Wide.All
import OpenK.AllK
import Wide.FinOn
import HandS.ForMost
import HandS.Exc
import HandS.TryOnly
import HandS.ExcOwn
import HandS.WordsExc
import HandS.Wide
import HandS.Codes
import HandS.IsInst
import HandS.ExcIs
import HandS.More
import HandS.Star
import KE.RegKIsAll
import HandS.OwnEq
import KE.GoesEnum
import HandS.Zip
import HandS.Style
import HandS.NamedTupSort
import HandS.Set
import PySem.Challenge.RW_onecable_k20_demand_of_hours
set_option Elab.async false
set_option maxRecDepth 100000
set_option maxHeartbeats 4000000
set_option linter.all false
namespace My
open PySem PySem.Spec PyProof.Rows L2
/-! ### callables of the text: a def by its name, a method, a class -/
structure Cal (CX : CXT) (P : Program) (w : World) (K : PySem.W.Frag) (mg : Str → Option Value) (base : Heap) (k : Nat) (x : Str) (sp : Sp) : Prop where
  ex : ∃ (f : Addr) (fd : FuncData) (ps : List Str), FnOk P w K mg base CX k f fd ps sp ∧ mg x = some (.ref f) ∧ PySem.W.keepIn K (.ref f) = true ∧ Binds K fd ps []
structure Met (CX : CXT) (P : Program) (w : World) (K : PySem.W.Frag) (mg : Str → Option Value) (base : Heap) (k : Nat) (C : Addr) (m : Str) (sp : Sp) : Prop where
  ex : ∃ (f : Addr) (fd : FuncData) (ps : List Str), Cls K C ∧ Meth K C m f ∧ FnOk P w K mg base CX k f fd ps sp ∧ Binds K fd ps []
  fi : ∀ f, PySem.W.findIn K (.ref C) m = some (some (.ref f)) → PySem.W.fnIn K f = true
structure Mak (CX : CXT) (P : Program) (w : World) (K : PySem.W.Frag) (mg : Str → Option Value) (base : Heap) (k : Nat) (x : Str) (C : Addr) (sp : Sp) : Prop where
  ex : ∃ (f : Addr) (fd : FuncData) (ps : List Str), Mk K C f ∧ FnOk P w K mg base CX k f fd ps sp ∧ mg x = some (.ref C) ∧ Binds K fd ps []
section
variable {CX : CXT} {P : Program} {w : World} {K : PySem.W.Frag} {mg : Str → Option Value} {base : Heap} {k : Nat} {x m : Str} {f C : Addr} {fd : FuncData} {ps : List Str} {sp : Sp}
theorem cal_mk (F : FnOk P w K mg base CX k f fd ps sp) (m : mg x = some (.ref f)) (kp : PySem.W.keepIn K (.ref f) = true) (b : Binds K fd ps []) : Cal CX P w K mg base k x sp := ⟨f, fd, ps, F, m, kp, b⟩
theorem met_mk (F : FnOk P w K mg base CX k f fd ps sp) (c : Cls K C) (me : Meth K C m f) (b : Binds K fd ps []) (fi : PySem.W.fnIn K f = true) : Met CX P w K mg base k C m sp := ⟨⟨f, fd, ps, c, me, F, b⟩, fun g h => by
  have z := me.at_.symm.trans h
  cases z
  exact fi⟩
theorem fn_in {oc : Value} {od : Option Addr} {fdx : FuncData} {sl : Array (Option Value)} (l : K.lookup f = some ⟨oc, od, .func fdx, sl⟩) : PySem.W.fnIn K f = true := by
  unfold PySem.W.fnIn
  rw [l]
theorem mak_mk (F : FnOk P w K mg base CX k f fd ps sp) (m : mg x = some (.ref C)) (M : Mk K C f) (b : Binds K fd ps []) : Mak CX P w K mg base k x C sp := ⟨f, fd, ps, M, F, m, b⟩
end
section
variable {X : Cx} {CX : CXT} {k j : Nat} {C : Addr} {x m : Str} {sp : Sp} {E : XK} {p pos apos : Pos} {e o : Expr} {es : List Expr} {ta : TE} {t : TA}
theorem pc_c (c : Cal CX X.prog X.w X.K X.mg X.base k x sp) (hr : Room j X.A) (hk : k ≤ j) (hg : Gl X x) (hx : Passes CX X E) (ha : PA X (e :: es) t)
    (hdb : (x == ("__debug__" : Str)) = false := by decide) (he : starEach (e :: es) X.env = (false, eval e X.env) :: starEach es X.env := by rfl) (hpl : (backTo pos (starEach es X.env)).any (·.1) = false := by rfl) :
    PE X (.Call (.Name x p) (e :: es) [] pos) (tCall sp [] E t) := by
  obtain ⟨f, fd, ps, F, hm, kp, b⟩ := c.ex
  exact pe_call F (hr.mono hk) hg hm kp b .nil hx ha hdb he hpl
theorem pc_cS {E : L2.St → XK} (c : Cal CX X.prog X.w X.K X.mg X.base k x sp) (hr : Room j X.A) (hk : k ≤ j) (hg : Gl X x) (hx : ∀ σ, PassesAt CX X σ (E σ)) (ha : PA X (e :: es) t)
    (hdb : (x == ("__debug__" : Str)) = false := by decide) (he : starEach (e :: es) X.env = (false, eval e X.env) :: starEach es X.env := by rfl) (hpl : (backTo pos (starEach es X.env)).any (·.1) = false := by rfl) :
    PE X (.Call (.Name x p) (e :: es) [] pos) (tCallS sp E t) := by
  obtain ⟨f, fd, ps, F, hm, kp, b⟩ := c.ex
  exact pe_callS F (hr.mono hk) hg hm kp b hx ha hdb he hpl
theorem pc_mk (c : Mak CX X.prog X.w X.K X.mg X.base k x C sp) (hr : Room j X.A) (hk : k + 1 ≤ j) (hg : Gl X x) (hx : Passes CX X E) (ha : PA X (e :: es) t)
    (hdb : (x == ("__debug__" : Str)) = false := by decide) (he : starEach (e :: es) X.env = (false, eval e X.env) :: starEach es X.env := by rfl) (hpl : (backTo pos (starEach es X.env)).any (·.1) = false := by rfl) :
    PE X (.Call (.Name x p) (e :: es) [] pos) (tMake C sp [] E t) := by
  obtain ⟨f, fd, ps, M, F, hm, b⟩ := c.ex
  exact pe_make M F (hr.mono hk) hg hm b .nil hx ha hdb he hpl
/-- a class made where a try stands around: what is raised is wished for at the slots -/
def tMakeS (C : Addr) (sp : Sp) (E : L2.St → XK) (t : TA) : TE := fun σ H Q => t σ H fun vs H1 => ∀ x dx, H1 x = none → H1 dx = none → dx ≠ x →
  sp (.ref x :: (vs ++ [])) (upd (upd H1 dx (.own x)) x (.ins C dx [])) (fun v H2 => v = .non ∧ Q (.ref x) H2) (E σ)
theorem run_mkS {f : Addr} {fd : FuncData} {ps : List Str} {ds : List Value} {dvs : List V} {pins : List (Addr × Obj)} {σ : L2.St} {H : Hp} {s : Shared} {Q : VK} {us : List Value} {vs : List V} (M : Mk X.K C f) (F : FnOk X.prog X.w X.K X.mg X.base CX k f fd ps sp) (hr : Room (k + 1) X.A) (hb : Binds X.K fd ps ds) (hd : Vals dvs ds)
    (hx : PassesAt CX X σ E) (I : Inv X pins σ H s) (r : Vals vs us)
    (h : ∀ x dx, H x = none → H dx = none → dx ≠ x → sp (.ref x :: (vs ++ dvs)) (upd (upd H dx (.own x)) x (.ins C dx [])) (fun v H2 => v = .non ∧ Q (.ref x) H2) E) :
    wpAny (model X.prog X.w) X.A (call (.ref C) us) (EP X pins σ Q) X.xe s := by
  have hq := h (s.heap.objs.size + 1) s.heap.objs.size (I.hok.fresh (Nat.le_succ _)) (I.hok.fresh (Nat.le_refl _)) (Nat.ne_of_lt (Nat.lt_succ_self _))
  have I2 := Inv.made (C := C) I
  have r2 : Vals (V.ref (s.heap.objs.size + 1) :: (vs ++ dvs)) (Value.ref (s.heap.objs.size + 1) :: (us ++ ds)) := .cons rfl (r.append hd)
  have hl : (Value.ref (s.heap.objs.size + 1) :: us ++ ds).length = ps.length := by
    have e := r2.length
    rw [F.len _ _ _ _ hq] at e
    exact e.symm
  refine wpAny_call (make_map (f := f) I.kIn M.makes M.init (beq_iff_eq.mp M.fn) (codeAny_mono (F.run _ X.stack _ _ ⟨Value.ref (s.heap.objs.size + 1) :: us, []⟩ (Value.ref (s.heap.objs.size + 1) :: (us ++ ds)) _ _ E (hr.make C us [])
    (I2.env0.make C us []) (hb _ (Value.ref (s.heap.objs.size + 1) :: us) I2.kIn hl) r2 hq) fun r s' hq' => ?_))
  cases r with
  | error e => exact hx pins _ _ e s' I2 hq'
  | ok fl =>
    cases fl with
    | ret u =>
      obtain ⟨v, H', I3, rv, ev, q3⟩ := I2.after hq'
      subst ev
      exact ⟨rv, ⟨V.ref (s.heap.objs.size + 1), H', I3, rfl, q3⟩⟩
    | next => exact False.elim hq'
    | brk => exact False.elim hq'
    | cont => exact False.elim hq'
theorem pc_mkS {E : L2.St → XK} (c : Mak CX X.prog X.w X.K X.mg X.base k x C sp) (hr : Room j X.A) (hk : k + 1 ≤ j) (hg : Gl X x) (hx : ∀ σ, PassesAt CX X σ (E σ)) (ha : PA X (e :: es) t)
    (hdb : (x == ("__debug__" : Str)) = false := by decide) (he : starEach (e :: es) X.env = (false, eval e X.env) :: starEach es X.env := by rfl) (hpl : (backTo pos (starEach es X.env)).any (·.1) = false := by rfl) :
    PE X (.Call (.Name x p) (e :: es) [] pos) (tMakeS C sp E t) := by
  obtain ⟨f, fd, ps, M, F, hm, b⟩ := c.ex
  refine ⟨fun pins s σ H Q I h => ?_⟩
  refine wpAny_Call_Name_kw (ld_glob I hg hm ?_ hdb)
  refine PySem.W.callWith_K (h₀ := X.base) I.ok.mod.kin M.kp (thn (ha.run pos pins s σ H _ I h) fun us s1 ⟨vs, H1, I1, r, q⟩ => ⟨I1.kIn, ?_⟩) he hpl
  exact run_mkS M F (hr.mono hk) b .nil (hx σ) I1 r q
theorem pc_mt {pl : Sem Bool} (c : Met CX X.prog X.w X.K X.mg X.base k C m sp) (hr : Room j X.A) (hk : k ≤ j) (hx : Passes CX X E) (he : PE X o ta) (ha : PA X (e :: es) t)
    (hst : starEach (e :: es) X.env = (false, eval e X.env) :: starEach es X.env := by rfl) (hpl : (backTo pos (starEach es X.env)).any (·.1) = false := by rfl)
    (ht : eval (.Call (.Attribute o m apos) (e :: es) [] pos) X.env = (do
      let ov ← eval o X.env
      standAt apos.atName
      let (f, first) ← holding [ov] (getMethod ov m pl)
      callWith pos f first (backTo pos (starEach (e :: es) X.env)) (backToKw pos (keywordEach [] X.env))) := by rfl) :
    PE X (.Call (.Attribute o m apos) (e :: es) [] pos) (tMeth C m sp [] E ta t) := by
  obtain ⟨f, fd, ps, hc, hm, F, b⟩ := c.ex
  exact pe_meth (pl := pl) he hc hm F (hr.mono hk) b .nil hx ha hst hpl ht
theorem pc_mt0 {pl : Sem Bool} (c : Met CX X.prog X.w X.K X.mg X.base k C m sp) (hr : Room j X.A) (hk : k ≤ j) (hx : Passes CX X E) (he : PE X o ta)
    (ht : eval (.Call (.Attribute o m apos) [] [] pos) X.env = (do
      let ov ← eval o X.env
      standAt apos.atName
      let (f, first) ← holding [ov] (getMethod ov m pl)
      callWith pos f first (backTo pos (starEach [] X.env)) (backToKw pos (keywordEach [] X.env))) := by rfl) :
    PE X (.Call (.Attribute o m apos) [] [] pos) (tMeth C m sp [] E ta tNil) := by
  obtain ⟨f, fd, ps, hc, hm, F, b⟩ := c.ex
  exact pe_meth0 (pl := pl) he hc hm F (hr.mono hk) b .nil hx ht
/-! ### further operators -/
/-- * : one factor small, or both below a million bits together -/
def CMulA (i j : Int) : Prop := CMul i j ∨ CMulW i j
theorem op_mulA : OpR X (binaryOp .Mult) (rI CMulA fun i j => .int (i * j)) := opI fun _ _ _ _ _ _ _ hc q => mul_int q (hc.elim CMul.ok CMulW.ok)
/-- // by any divisor but 0 that is no giant -/
def CDivA (_ j : Int) : Prop := j ≠ 0 ∧ j.natAbs.log2 < 9000
theorem op_fdivA : OpR X (binaryOp .FloorDiv) (rI CDivA fun i j => .int (i.fdiv j)) := opI fun _ _ _ _ _ _ _ hc q => floordiv_int hc.1 q (.inl (PyProof.noPylong_of_log2 hc.2))
theorem divA {i j : Int} {b : Nat} (h : j ≠ 0) (hb : j.natAbs < 2 ^ b) (h0 : 0 < b) (h9 : b ≤ 9000) : CDivA i j := ⟨h, Nat.lt_of_lt_of_le (PySem.Flt.log2_lt_of h0 hb) h9⟩
end
/-! ### heaps: all but what stands at p is kept -/
def Kp (p : Addr) (H H' : Hp) : Prop := ∀ b o, b ≠ p → H b = some o → H' b = some o
theorem Kp.refl {p : Addr} {H : Hp} : Kp p H H := fun _ _ _ h => h
theorem Kp.trans {p : Addr} {H H1 H2 : Hp} (a : Kp p H H1) (b : Kp p H1 H2) : Kp p H H2 := fun c o n h => b c o n (a c o n h)
theorem Kp.upd {p : Addr} {H : Hp} {o : HO} : Kp p H (upd H p o) := fun _ _ n h => by rw [upd_ne n]; exact h
theorem Kp.same {p : Addr} {H0 H H' : Hp} (s : Same H0 H) (k : Kp p H H') (n : H0 p = none) : Same H0 H' := fun b o h => k b o (fun e => by rw [e, n] at h; cases h) (s b o h)
theorem same_upd {H : Hp} {p : Addr} {o : HO} (n : H p = none) : Same H (upd H p o) := fun b u h => by rw [upd_ne (ne_of_none h n)]; exact h
theorem Same.of (H : Hp) : Same H H := fun _ _ h => h
/-- isinstance(e, c), e the exception that the suite holds; its class and its dict are told in the reading -/
theorem call_isE2 {X : Cx} {a D : Addr} {oe : Obj} {cls : Value} {d : Option Addr} {pn : List (Addr × Obj)} (C : ExcC X.K D) (hz : Zc cls d oe) (hf : ∃ vs, oe.data = .fields vs) :
    CallR (X.suite a ((a, oe) :: pn)) (.builtin "isinstance") (fun xs H Q => cls = .ref D ∧ d = none ∧ rIsE X.K D a xs H Q) := by
  intro pins s σ H xs us Q I r h
  obtain ⟨rfl, rfl, h⟩ := h
  exact call_isE C hz hf pins s σ H xs us Q I r h
/-- an error of the class at S is what «except S» names -/
theorem exm_self {K : PySem.W.Frag} {S : Addr} (h1 : PySem.W.subIn K (.ref S) (.type "BaseException") = some true) (h2 : PySem.W.isClsIn K S = true) (h3 : PySem.W.typeIn K (.ref S) = some (.type "type")) (h4 : PySem.W.subIn K (.ref S) (.ref S) = some true) :
    PySem.W.exmOne K (.ref S) (.ref S) = some true := by
  have e1 : (PySem.W.subIn K (.ref S) (.type "BaseException") == some true) = true := by rw [h1] <;> rfl
  have e2 : ((PySem.W.clsIn K S).isSome && PySem.W.typeIn K (.ref S) == some (.type "type")) = true := by
    have h2' : (PySem.W.clsIn K S).isSome = true := h2
    rw [h2', h3] <;> rfl
  show (if (PySem.W.subIn K (.ref S) (.type "BaseException") == some true) = true then (if ((PySem.W.clsIn K S).isSome && PySem.W.typeIn K (.ref S) == some (.type "type")) = true then PySem.W.subIn K (.ref S) (.ref S) else none) else none) = some true
  rw [if_pos e1, if_pos e2]
  exact h4
/-- x is True, x is False: whatever x is -/
theorem op_isB {X : Cx} : OpR X (compareOp .Is) (fun x y H Q => ∃ b, y = .bl b ∧ Q (.bl (decide (x = .bl b))) H) := by
  intro pins s σ H x y v u Q I rx ry h
  obtain ⟨b, rfl, q⟩ := h
  cases (show u = Value.bool b from ry)
  have fin : ∀ k : Bool, decide (x = .bl b) = k → EP X pins σ Q (.bool k) s := fun k e => ⟨.bl k, H, I, rfl, by rw [← e]; exact q⟩
  cases x with
  | non => cases (show v = Value.none from rx); exact wpAny_pure (fin _ (by simp))
  | bl c =>
    cases (show v = Value.bool c from rx)
    refine wpAny_pure (fin _ ?_)
    by_cases e : c = b
    · subst e; simp
    · simp [e]
  | int i => obtain ⟨t, e⟩ := (show ∃ t, v = Value.int i t from rx); subst e; exact wpAny_pure (fin _ (by simp))
  | str i => obtain ⟨t, e⟩ := (show ∃ t, v = Value.str i t from rx); subst e; exact wpAny_pure (fin _ (by simp))
  | byt i => obtain ⟨t, e⟩ := (show ∃ t, v = Value.bytes i t from rx); subst e; exact wpAny_pure (fin _ (by simp))
  | flt i => obtain ⟨t, e⟩ := (show ∃ t, v = Value.float i t from rx); subst e; exact wpAny_pure (fin _ (by simp))
  | ref a => cases (show v = Value.ref a from rx); exact wpAny_pure (fin _ (by simp))
  | ty n => cases (show v = Value.type n from rx); exact wpAny_pure (fin _ (by simp))
theorem iteDT {p A B : Prop} [Decidable p] (hp : p) (h : A) : if decide p = true then A else B := by
  rw [decide_eq_true hp]
  exact iteT h
theorem iteDF {p A B : Prop} [Decidable p] (hp : ¬ p) (h : B) : if decide p = true then A else B := by
  rw [decide_eq_false hp]
  exact iteF h
/-! ### a law's cells and pools: what is promised of them -/
def PoolAt (H : Hp) (p : Addr) : Prop := ∃ x y z : Int, H p = some (.lst [.int x, .int y, .int z])
theorem PoolAt.kp {H H' : Hp} {p q : Addr} (h : PoolAt H p) (k : Kp q H H') (n : p ≠ q) : PoolAt H' p := by
  obtain ⟨x, y, z, e⟩ := h
  exact ⟨x, y, z, k _ _ n e⟩
theorem PoolAt.same {H H' : Hp} {p : Addr} (h : PoolAt H p) (k : Same H H') : PoolAt H' p := by
  obtain ⟨x, y, z, e⟩ := h
  exact ⟨x, y, z, k _ _ e⟩
theorem at0 {α : Type} {a b c : α} : atI [a, b, c] (0 : Int) = some a := rfl
theorem at1 {α : Type} {a b c : α} : atI [a, b, c] (1 : Int) = some b := rfl
theorem at2 {α : Type} {a b c : α} : atI [a, b, c] (2 : Int) = some c := rfl
def sp_Lcell (K : PySem.W.Frag) : Sp := fun vs H Q _ => ∃ (l : Addr) (ns : List Int) (j : Nat), vs = [.ref l, .int (j : Int)] ∧ SqL K H l (ns.map V.int) ∧ ∀ c : Int, 0 ≤ c → Q (.int c) H
def sp_Lpool : Sp := fun vs H Q _ => ∃ c : Int, vs = [.int c] ∧ ∀ (p : Addr) (H' : Hp), H p = none → Same H H' → PoolAt H' p → Q (.ref p) H'
def sp_Ltake : Sp := fun vs H Q _ => ∃ (p : Addr) (many : Int), vs = [.ref p, .int many] ∧ PoolAt H p ∧ 0 < many ∧ many.natAbs < 2 ^ 300 ∧
  ∀ (H' : Hp) (r : Int), Kp p H H' → PoolAt H' p → 0 ≤ r → r < many → Q (.int r) H'
/-! ### told and due are the same data -/
def Pairs (R : V → V → Prop) (xs ys : List V) : Prop := xs.length = ys.length ∧ ∀ (i : Nat) (x y : V), xs[i]? = some x → ys[i]? = some y → R x y
def flatD : V → Bool
  | .non => true
  | .bl _ => true
  | .int _ => true
  | .str _ => true
  | _ => false
def SameV (K : PySem.W.Frag) (H : Hp) : Nat → V → V → Prop
  | 0, x, y => flatD x = true ∧ x = y
  | n + 1, x, y => (flatD x = true ∧ x = y) ∨
      (∃ (a b : Addr) (xs ys : List V), x = .ref a ∧ y = .ref b ∧ SqL K H a xs ∧ SqL K H b ys ∧ xs.length ≤ sizeLine ∧ Pairs (SameV K H n) xs ys) ∨
      (∃ (a b : Addr) (xs ys : List V), x = .ref a ∧ y = .ref b ∧ SqT K H a xs ∧ SqT K H b ys ∧ xs.length ≤ sizeLine ∧ Pairs (SameV K H n) xs ys)
def sp_Lsame (K : PySem.W.Frag) : Nat → Sp
  | 0 => fun _ _ _ _ => False
  | n + 1 => fun vs H Q _ => ∃ x y : V, vs = [x, y] ∧ SameV K H n x y ∧ Q (.bl true) H
theorem SameV.flat {K : PySem.W.Frag} {H : Hp} {n : Nat} {x : V} (h : flatD x = true) : SameV K H n x x := by
  cases n with
  | zero => exact ⟨h, rfl⟩
  | succ n => exact .inl ⟨h, rfl⟩
theorem Pairs.refl {R : V → V → Prop} {xs : List V} (h : ∀ x ∈ xs, R x x) : Pairs R xs xs := ⟨rfl, fun i x y h1 h2 => by
  rw [h1] at h2
  cases h2
  exact h x (List.mem_of_getElem? h1)⟩
theorem tyx_list {K : PySem.W.Frag} {H : Hp} {a : Addr} {xs : List V} (h : SqL K H a xs) : TyX K H (.ref a) (.type "list") := by
  rcases h with (h | ⟨o, h⟩) | ⟨o, its, n, h, c, _⟩
  · exact .base (.lst h)
  · exact .base (.frz h)
  · exact .kList h c
theorem tyx_tup {K : PySem.W.Frag} {H : Hp} {a : Addr} {xs : List V} (h : SqT K H a xs) : TyX K H (.ref a) (.type "tuple") := by
  rcases h with (h | ⟨o, h⟩) | ⟨o, its, n, h, c, _⟩
  · exact .base (.tup h)
  · exact .fTuple h
  · exact .kTuple h c
theorem pool_ne {H : Hp} {p q : Addr} (h : PoolAt H p) (n : H q = none) : q ≠ p := fun w => by
  obtain ⟨x, y, z, e⟩ := h
  rw [w, e] at n
  cases n
theorem none_kp {H H' : Hp} {p t : Addr} (s : Kp p H H') (n : t ≠ p) (e : H' t = none) : H t = none := by
  cases h : H t with
  | none => rfl
  | some o =>
    rw [s _ _ n h] at e
    cases e
theorem none_of {H H' : Hp} {t : Addr} (s : Same H H') (n : H' t = none) : H t = none := by
  cases e : H t with
  | none => rfl
  | some o =>
    rw [s _ _ e] at n
    cases n
theorem same_app {H2 H4 : Hp} {t : Addr} {o : HO} (s : Same H2 H4) (n : H2 t = none) : Same H2 (upd H4 t o) := fun b u e => by
  rw [upd_ne (ne_of_none e n)]
  exact s _ _ e
theorem Kp.of {p : Addr} {H H' : Hp} (s : Same H H') : Kp p H H' := fun b o _ e => s b o e
/-- a place that was free takes what it takes -/
theorem kp_app {p : Addr} {H H4 : Hp} {t : Addr} {o : HO} (s : Kp p H H4) (n : H t = none) : Kp p H (upd H4 t o) := fun b u nb e => by
  rw [upd_ne (ne_of_none e n)]
  exact s _ _ nb e
theorem sqt_pool {K : PySem.W.Frag} {H H' : Hp} {a b : Addr} {xs : List V} (h : SqT K H b xs) (k : Kp a H H') (p : PoolAt H a) : SqT K H' b xs := by
  obtain ⟨x, y, z, e⟩ := p
  rcases h with (h | ⟨o, h⟩) | h
  · exact .inl (.inl (k _ _ (fun w => by rw [w, e] at h; cases h) h))
  · exact .inl (.inr ⟨o, k _ _ (fun w => by rw [w, e] at h; cases h) h⟩)
  · exact .inr h
theorem sqt_lst {K : PySem.W.Frag} {H H' : Hp} {a b : Addr} {xs ys : List V} (h : SqT K H b xs) (k : Kp a H H') (hl : H a = some (.lst ys)) : SqT K H' b xs := by
  rcases h with (h | ⟨o, h⟩) | h
  · exact .inl (.inl (k _ _ (fun w => by rw [w, hl] at h; cases h) h))
  · exact .inl (.inr ⟨o, k _ _ (fun w => by rw [w, hl] at h; cases h) h⟩)
  · exact .inr h
/-! ### lists of values, each one of its own kind -/
inductive Al {α : Type} (R : V → α → Prop) : List V → List α → Prop where
  | nil : Al R [] []
  | cons {x : V} {y : α} {xs : List V} {ys : List α} : R x y → Al R xs ys → Al R (x :: xs) (y :: ys)
section
variable {α : Type} {R R' : V → α → Prop}
theorem Al.len : ∀ {xs : List V} {ys : List α}, Al R xs ys → xs.length = ys.length
  | _, _, .nil => rfl
  | _, _, .cons _ t => congrArg Nat.succ t.len
theorem Al.mono (h : ∀ x y, R x y → R' x y) : ∀ {xs : List V} {ys : List α}, Al R xs ys → Al R' xs ys
  | _, _, .nil => .nil
  | _, _, .cons r t => .cons (h _ _ r) (t.mono h)
theorem Al.app : ∀ {xs xs' : List V} {ys ys' : List α}, Al R xs ys → Al R xs' ys' → Al R (xs ++ xs') (ys ++ ys')
  | _, _, _, _, .nil, u => u
  | _, _, _, _, .cons r t, u => .cons r (t.app u)
theorem Al.take : ∀ {xs : List V} {ys : List α} (n : Nat), Al R xs ys → Al R (xs.take n) (ys.take n)
  | _, _, 0, _ => .nil
  | _, _, _ + 1, .nil => .nil
  | _, _, n + 1, .cons r t => .cons r (t.take n)
theorem Al.drop : ∀ {xs : List V} {ys : List α} (n : Nat), Al R xs ys → Al R (xs.drop n) (ys.drop n)
  | _, _, 0, h => h
  | _, _, _ + 1, .nil => .nil
  | _, _, n + 1, .cons _ t => t.drop n
theorem Al.snoc {xs : List V} {ys : List α} {x : V} {y : α} (h : Al R xs ys) (r : R x y) : Al R (xs ++ [x]) (ys ++ [y]) := h.app (.cons r .nil)
theorem Al.rev : ∀ {xs : List V} {ys : List α}, Al R xs ys → Al R xs.reverse ys.reverse
  | _, _, .nil => .nil
  | _, _, .cons r t => by
    rw [List.reverse_cons, List.reverse_cons]
    exact t.rev.app (.cons r .nil)
theorem Al.at : ∀ {xs : List V} {ys : List α} {i : Nat} {x : V}, Al R xs ys → xs[i]? = some x → ∃ y, ys[i]? = some y ∧ R x y
  | _, _, _, _, .nil, h => by simp at h
  | _, _, 0, _, .cons r _, h => ⟨_, rfl, by simp at h; subst h; exact r⟩
  | _, _, i + 1, _, .cons _ t, h => t.at (i := i) (by simpa using h)
theorem Al.at' {xs : List V} {ys : List α} {i : Nat} {y : α} (h : Al R xs ys) (hy : ys[i]? = some y) : ∃ x, xs[i]? = some x ∧ R x y := by
  have hi : i < xs.length := by rw [h.len]; exact (List.getElem?_eq_some_iff.mp hy).1
  obtain ⟨y', e, r⟩ := h.at (List.getElem?_eq_getElem hi)
  rw [hy] at e
  cases e
  exact ⟨_, List.getElem?_eq_getElem hi, r⟩
end
/-! ### enumerate(tuple) -/
theorem meets_enumerate_newT (l : Addr) (items : Array Value) (n : Nat) (dct : Option Addr) (sl : Array (Option Value)) :
    Meets (Builtin.«enumerate.__new__» ⟨[.type "enumerate", .ref l], []⟩) (fun _ R s => s.heap.get? l = some { cls := .type "tuple", dict := dct, data := .seq items n, slots := sl } ∧
      R (.ok (.ret (.ref (s.heap.push { cls := .type "tuple_iterator", data := .fields #[.ref l, .int 0 0] }).objs.size)))
        { s with heap := (s.heap.push { cls := .type "tuple_iterator", data := .fields #[.ref l, .int 0 0] }).push { cls := .type "enumerate", data := .fields #[.none, .bool false, .ref s.heap.objs.size, rawInt 0, .none, .none] } }) :=
  .of_wp fun prog w A R s h => by
    obtain ⟨hp, g, d, tk, os⟩ := s
    obtain ⟨hl, h⟩ := h
    have hsub := sub_enumerate
    have hL : Heap.IsTuple (Shared.heap ⟨hp, g, d, tk, os⟩) l items := ⟨_, hl, rfl, n, rfl⟩
    wp_walk using AutoSeq1.wpAny_loadPart' hl
    refine wpAny_stack_any fun st => wpAny_pure ?_
    split
    · rename_i c _ _ _ _ _
      cases (c == Value.type "enumerate")
      · wp_walk using AutoSeq1.wpAny_loadPart' hl, wpAny_pyIter_tuple hL
        exact ⟨_, rfl, h⟩
      · wp_walk using AutoSeq1.wpAny_loadPart' hl, wpAny_pyIter_tuple hL
        exact ⟨_, rfl, h⟩
    · wp_walk using AutoSeq1.wpAny_loadPart' hl, wpAny_pyIter_tuple hL
      exact ⟨_, rfl, h⟩
theorem call_enumerate_tuple {prog : Program} {w : World} {A : Around} {E : Value → Shared → Prop} {s : Shared} {l : Addr} {items : Array Value} {Q : Value → Shared → Prop} (hL : s.heap.IsTuple l items)
    (h : ∀ h', IsEnum h' (s.heap.objs.size + 1) s.heap.objs.size 0 .none → h'.IsTupleIter s.heap.objs.size l 0 → (∀ b o, s.heap.get? b = some o → h'.get? b = some o) → Q (.ref (s.heap.objs.size + 1)) { s with heap := h' }) :
    wpAny (model prog w) A (call (.type "enumerate") [.ref l]) Q E s := by
  obtain ⟨⟨c, dct, dt, sl⟩, hl, hc, n, hd⟩ := hL
  replace hc : c = .type "tuple" := hc
  replace hd : dt = .seq items n := hd
  subst hc hd
  refine callType_new F.called_enumerate (by decide) (F.typeCall_enumerate_1 _) (F.newCall_enumerate_1 _) (fun obj => F.args_object_init_2 obj _) F.entry_enumerate_new
    (meets_enumerate_newT l items n dct sl) ⟨hl, ?_⟩
  have hz : (s.heap.push { cls := .type "tuple_iterator", data := .fields #[.ref l, .int 0 0] }).objs.size = s.heap.objs.size + 1 := Heap.size_push ..
  show _ ∧ _
  rw [hz]
  have he : IsEnum ((s.heap.push { cls := .type "tuple_iterator", data := .fields #[.ref l, .int 0 0] }).push
      { cls := .type "enumerate", data := .fields #[.none, .bool false, .ref s.heap.objs.size, rawInt 0, .none, .none] }) (s.heap.objs.size + 1) s.heap.objs.size 0 .none := by
    have z := Heap.get?_push_size (s.heap.push { cls := .type "tuple_iterator", data := .fields #[.ref l, .int 0 0] })
      (o := { cls := .type "enumerate", data := .fields #[.none, .bool false, .ref s.heap.objs.size, rawInt 0, .none, .none] }) rfl
    rw [hz] at z
    exact z
  exact ⟨⟨_, he, rfl⟩, h _ he ⟨_, Heap.get?_push_of_some _ (Heap.get?_push_size _ rfl), rfl, rfl⟩ fun b o x => Heap.get?_push_of_some _ (Heap.get?_push_of_some _ x)⟩
theorem pyNext_enumT_end {prog : Program} {w : World} {A : Around} {E : Value → Shared → Prop} {s : Shared} {e it l : Addr} {i : Nat} {items : Array Value} {old : Value} {Q : Option Value → Shared → Prop} (hh : A.handled = none)
    (he : IsEnum s.heap e it i old) (hit : s.heap.IsTupleIter it l i) (hl : s.heap.IsTuple l items) (hx : items[i]? = none)
    (hQ : ∀ h', Heap.ExtBut it s.heap h' → Q none { s with heap := h' }) : wpAny (model prog w) A (pyNext (.ref e)) Q E s := by
  have hT : s.TypeIs (.ref e) "enumerate" := ⟨_, he, rfl⟩
  unfold pyNext
  refine wpAny_bind (wpAny_attempt (wpAny_callSpecial?_slot (name := Str.ofString "__next__") hT F.slot_enumerate_next
    (wpAny_call_entry F.slot_enumerate_next hT F.entry_enumerate_next ?_ (F.args_enumerate_next_1 _))))
  show wpAny _ _ (field (.ref e) 2 >>= _) _ _ _
  refine wpAny_bind (wpAny_field he rfl (x := .ref it) rfl ?_)
  refine wpAny_bind (wpAny_nextOf_tuple_end (A := A.in1) hh hit hl hx fun h' x he' hx' => ?_)
  obtain ⟨o, ho, hc⟩ := hx'
  refine wpAny_bind (wpAny_isInstance (T := "StopIteration") (b := true) ⟨o, ho, hc⟩ isSubtype_stop ?_)
  exact wpAny_pure (hQ _ he')
/-- the tuple at a, each item in a new pair -/
def Iett (K : PySem.W.Frag) (a : Addr) : It :=
  ⟨fun i H => ∃ (xs : List V) (x : V), SqT K H a xs ∧ xs[i]? = some x, fun i H v H' => ∃ T x, v = .ref T ∧ H T = none ∧ H' = upd H T (.tup [.int (i : Nat), x]) ∧ ∀ xs, SqT K H a xs → xs[i]? = some x, fun i H => ∃ xs : List V, SqT K H a xs ∧ xs.length ≤ i⟩
theorem turn_enumT {P : Program} {w : World} {K : PySem.W.Frag} {elts : List Expr} {kk : Nat} {tpos : Pos} (a e it : Addr) :
    Turn P w K (.Tuple elts kk tpos) (Iett K a) [e, it] e (fun i h => (∃ old, IsEnum h e it ((i : Nat) : Int) old) ∧ h.IsTupleIter it a i ∧ e ≠ it ∧ a ≠ it ∧ a ≠ e) where
  mem := by simp
  obj := fun i h st b hb => by
    obtain ⟨⟨old, he⟩, ⟨o, ho, hc, hd⟩, _⟩ := st
    have e' : b = e ∨ b = it := by simpa using hb
    rcases e' with z | z
    · rw [z]; exact ⟨_, he, fun v q => nomatch q⟩
    · rw [z]; exact ⟨o, ho, fun v q => by rw [hd] at q; cases q⟩
  keep := fun i h h' st k => let ⟨⟨old, he⟩, hi, hne⟩ := st; ⟨⟨old, k e (by simp) _ he⟩, hi.at fun o q => k it (by simp) o q, hne⟩
  item := by
    intro X hP hw hK hc i pins s σ H E I hf st hg
    subst hP hw hK
    obtain ⟨⟨old, he⟩, hit, hne, hae, hea⟩ := st
    obtain ⟨xs, x, hq, hx⟩ := hg
    obtain ⟨its, rv, p, hz⟩ := I.tuple hq
    obtain ⟨u, hu, ru⟩ := rv.get hx
    have p' : s.heap.IsTuple a its.toArray := p
    have hel : e < s.heap.objs.size := Heap.lt_size he
    have hil : it < s.heap.objs.size := by obtain ⟨_, q, _⟩ := hit; exact Heap.lt_size q
    have hii : i < its.toArray.size := by
      have := (List.getElem?_eq_some_iff.mp hu).1
      simpa using this
    have D := Draws.tuple (prog := X.prog) (w := X.w) (A := X.A.in1) (I.ok.hd hc) it a hae its.toArray
    refine PySem.wpAny_pyNext_enum_itemC D he ⟨hit, p'⟩ hii hne (by simp [Ne.symm hea, hne]) fun y h' tk hy ho hst' hT hsz hk => ?_
    have hyu : y = u := by
      have e1 : its.toArray[i]? = some y := hy
      rw [List.getElem?_toArray] at e1
      rw [hu] at e1
      exact (Option.some.inj e1).symm
    subst hyu
    refine ⟨_, rfl, wpAny_letOwnedTupleGo_enum (s := { s with heap := h', toks := tk + 1 }) ho fun h'' he' sb => ?_⟩
    have hT2 : h''.get? s.heap.objs.size = some { cls := .type "tuple", data := .seq #[.int i tk, y] } := (sb.2 _ (Nat.ne_of_gt hel)).trans hT
    have new : ObjOk X.prog X.w (upd H s.heap.objs.size (.tup [.int (i : Nat), x])) h'' s.heap.objs.size (.tup [.int (i : Nat), x]) :=
      ⟨by show 2 ≤ sizeLine; decide, [.int i tk, y], .cons ⟨_, rfl⟩ (.cons ru .nil), ⟨_, hT2, rfl, _, rfl⟩⟩
    have I1 : Inv X pins σ (upd H s.heap.objs.size (.tup [.int (i : Nat), x])) { s with heap := h'', toks := tk + 1 } :=
      I.turnedNew (ch := [e, it]) (fun b ob hb q => (sb.2 b (fun z => hb (by simp [z]))).trans (hk b ob (fun z => hb (by simp [z])) (fun z => hb (by simp [z])) q)) hf (Nat.le_refl _) new
    refine ⟨.ref s.heap.objs.size, _, I1, rfl, ⟨_, x, rfl, I.hok.fresh (Nat.le_refl _), rfl, fun ys hy => by rw [I.tuple_inj hy hq]; exact hx⟩, ⟨⟨y, ?_⟩, hst'.1.at fun o q => (sb.2 it (Ne.symm hne)).trans q, hne, hae, hea⟩, fun b hb => ?_⟩
    · have e1 : ((i + 1 : Nat) : Int) = (i : Int) + 1 := by omega
      rw [e1]; exact he'
    · have hb' : b < s.heap.objs.size := by
        have e' : b = e ∨ b = it := by simpa using hb
        rcases e' with z | z
        · rw [z]; exact hel
        · rw [z]; exact hil
      rw [upd_ne (Nat.ne_of_lt hb')]
      exact (hf b hb).1
  done := by
    intro X hP hw hK hc i pins s σ H E I hf st hg
    subst hP hw hK
    obtain ⟨⟨old, he⟩, hit, hne, hae, hea⟩ := st
    obtain ⟨xs, hq, hx⟩ := hg
    obtain ⟨its, rv, p, hz⟩ := I.tuple hq
    obtain ⟨f0, f1, f2, f3, f4, f5⟩ := hf it (by simp)
    have hl := rv.length
    have p' : s.heap.IsTuple a its.toArray := p
    exact pyNext_enumT_end (I.ok.hd hc) he hit p' (by simp; omega) fun h' eb => ⟨rfl, I.turned (t' := s.toks) (fun b o hb q => eb b o hb q) f0 f1 f3 f4 f5⟩
  self := fun A i s Q E st h => let ⟨⟨_, he⟩, _⟩ := st; wpAny_pyIter_enum he h
/-- what stands at a: a list or a tuple -/
def SqB (K : PySem.W.Frag) (b : Bool) (H : Hp) (a : Addr) (xs : List V) : Prop := if b then SqT K H a xs else SqL K H a xs
def ItB (K : PySem.W.Frag) (b : Bool) (a : Addr) : It := if b then Iett K a else Ite K a
/-- enumerate over a list or a tuple -/
def iEnumS (K : PySem.W.Frag) (ta : TA) : TI := fun σ H R => ta σ H fun vs H1 => ∃ a xs b, vs = [.ref a] ∧ SqB K b H1 a xs ∧ R (ItB K b a) H1
theorem pi_enumS {X : Cx} {e : Expr} {ta : TA} {p pos tpos : Pos} {elts : List Expr} {kk : Nat} (hg : Gl X "enumerate") (hm : X.mg "enumerate" = none) (ha : PA X [e] ta) (hs : starEach [e] X.env = [(false, eval e X.env)] := by rfl) :
    PI X (.Tuple elts kk tpos) (.Call (.Name "enumerate" p) [e] [] pos) (iEnumS X.K ta) := by
  refine ⟨fun pins s σ H R I h => ?_⟩
  refine Call_ (ld_blt I hg hm boot_enumerate (PyProof.Rows.callWith_type1 (thn (ha.run pos pins s σ H _ I h) fun us s1 ⟨vs, H1, I1, r1, q1⟩ => ?_) hs rfl))
  obtain ⟨a, xs, bb, ex, hq, q⟩ := q1
  subst ex
  cases r1 with
  | cons r rr =>
    cases rr
    cases r
    cases bb
    · obtain ⟨its, rv, p', hz⟩ := I1.list hq
      refine call_enumerate_list p'.isList fun h' he hit hsz hk => wpAny_pyIter_enum he ?_
      have I2 : Inv X pins σ H1 { s1 with heap := h' } := I1.kept (t' := s1.toks) hk
      refine ⟨s1.heap.objs.size + 1, [s1.heap.objs.size + 1, s1.heap.objs.size], _, _, H1, rfl, I2, turn_enum a (s1.heap.objs.size + 1) s1.heap.objs.size, ⟨⟨.none, he⟩, hit, Nat.succ_ne_self _⟩, fun b hb => ?_, q⟩
      have e' : b = s1.heap.objs.size + 1 ∨ b = s1.heap.objs.size := by simpa using hb
      have hle : s1.heap.objs.size ≤ b := by
        rcases e' with z | z
        · rw [z]; exact Nat.le_add_right _ _
        · rw [z]; exact Nat.le_refl _
      exact I1.fpOk hle (I1.hok.fresh hle)
    · obtain ⟨its, rv, p', hz⟩ := I1.tuple hq
      have hL : s1.heap.IsTuple a its.toArray := p'
      have hlt : a < s1.heap.objs.size := by obtain ⟨_, q0, _⟩ := hL; exact Heap.lt_size q0
      refine call_enumerate_tuple hL fun h' he hit hk => wpAny_pyIter_enum he ?_
      have I2 : Inv X pins σ H1 { s1 with heap := h' } := I1.kept (t' := s1.toks) hk
      refine ⟨s1.heap.objs.size + 1, [s1.heap.objs.size + 1, s1.heap.objs.size], _, _, H1, rfl, I2, turn_enumT a (s1.heap.objs.size + 1) s1.heap.objs.size, ⟨⟨.none, he⟩, hit, Nat.succ_ne_self _, Nat.ne_of_lt hlt, Nat.ne_of_lt (Nat.lt_succ_of_lt hlt)⟩, fun b hb => ?_, q⟩
      have e' : b = s1.heap.objs.size + 1 ∨ b = s1.heap.objs.size := by simpa using hb
      have hle : s1.heap.objs.size ≤ b := by
        rcases e' with z | z
        · rw [z]; exact Nat.le_add_right _ _
        · rw [z]; exact Nat.le_refl _
      exact I1.fpOk hle (I1.hok.fresh hle)
/-- the turns of enumerate over a list or a tuple: Sq is how the items stand there -/
theorem for_enumI {K : PySem.W.Frag} {I : It} {Sq : Hp → Prop} {xs : List V} {g : TG} {tb : TS} {D : Ends} {σ : L2.St} {H : Hp} (Pv : Nat → L2.St → Hp → Prop) (h0 : Pv 0 σ H) (hl : ∀ i σ H, i ≤ xs.length → Pv i σ H → Sq H)
    (hgo : ∀ H i x, Sq H → xs[i]? = some x → I.go i H) (hy : ∀ H i x H', Sq H → I.yld i H x H' → ∃ T z, x = .ref T ∧ H T = none ∧ H' = upd H T (.tup [.int (i : Nat), z]) ∧ xs[i]? = some z) (hst : ∀ H, Sq H → I.stop xs.length H)
    (hs : ∀ i x σ H T, xs[i]? = some x → Pv i σ H → H T = none → g (.ref T) σ (upd H T (.tup [.int (i : Nat), x])) fun σ2 H2 => tb { D with nx := Pv (i + 1), ct := Pv (i + 1), bk := D.nx } σ2 H2) (hd : ∀ σ H, Pv xs.length σ H → D.nx σ H) :
    ∃ W : Nat → Nat → L2.St → Hp → Prop, (∃ m, W 0 m σ H) ∧ ∀ i m σ H, W i m σ H →
      (I.stop i H ∧ D.nx σ H) ∨ (I.go i H ∧ ∃ N : L2.St → Hp → Prop, (∀ σ' H', N σ' H' → ∃ m', m' < m ∧ W (i + 1) m' σ' H') ∧ ∀ x H', I.yld i H x H' → g x σ H' fun σ2 H2 => tb { D with nx := N, ct := N, bk := D.nx } σ2 H2) := by
  refine ⟨fun i m σ H => m = xs.length - i ∧ i ≤ xs.length ∧ Pv i σ H, ⟨xs.length, by simp, Nat.zero_le _, h0⟩, ?_⟩
  rintro i m σ H ⟨rfl, hi, p⟩
  have q := hl i σ H hi p
  by_cases hlt : i < xs.length
  · refine .inr ⟨hgo H i xs[i] q (by simp [hlt]), Pv (i + 1), fun σ' H' p' => ⟨xs.length - (i + 1), by omega, rfl, hlt, p'⟩, fun x H' y => ?_⟩
    obtain ⟨T, z, e1, e2, e3, e4⟩ := hy _ _ _ _ q y
    subst e1 e3
    exact hs i z σ H T e4 p e2
  · have e : i = xs.length := by omega
    subst e
    exact .inl ⟨hst H q, hd σ H p⟩
theorem for_enumB {K : PySem.W.Frag} {bb : Bool} {a : Addr} {xs : List V} {g : TG} {tb : TS} {D : Ends} {σ : L2.St} {H : Hp} (Pv : Nat → L2.St → Hp → Prop) (h0 : Pv 0 σ H) (hl : ∀ i σ H, i ≤ xs.length → Pv i σ H → SqB K bb H a xs)
    (hs : ∀ i x σ H T, xs[i]? = some x → Pv i σ H → H T = none → g (.ref T) σ (upd H T (.tup [.int (i : Nat), x])) fun σ2 H2 => tb { D with nx := Pv (i + 1), ct := Pv (i + 1), bk := D.nx } σ2 H2) (hd : ∀ σ H, Pv xs.length σ H → D.nx σ H) :
    ∃ W : Nat → Nat → L2.St → Hp → Prop, (∃ m, W 0 m σ H) ∧ ∀ i m σ H, W i m σ H →
      ((ItB K bb a).stop i H ∧ D.nx σ H) ∨ ((ItB K bb a).go i H ∧ ∃ N : L2.St → Hp → Prop, (∀ σ' H', N σ' H' → ∃ m', m' < m ∧ W (i + 1) m' σ' H') ∧ ∀ x H', (ItB K bb a).yld i H x H' → g x σ H' fun σ2 H2 => tb { D with nx := N, ct := N, bk := D.nx } σ2 H2) := by
  refine for_enumI (K := K) (I := ItB K bb a) (Sq := fun H => SqB K bb H a xs) Pv h0 hl ?_ ?_ ?_ hs hd
  · cases bb
    · exact fun H i x q e => ⟨xs, x, q, e⟩
    · exact fun H i x q e => ⟨xs, x, q, e⟩
  · cases bb
    · rintro H i x H' q ⟨T, z, e1, e2, e3, e4⟩
      exact ⟨T, z, e1, e2, e3, e4 xs q⟩
    · rintro H i x H' q ⟨T, z, e1, e2, e3, e4⟩
      exact ⟨T, z, e1, e2, e3, e4 xs q⟩
  · cases bb
    · exact fun H q => ⟨xs, q, Nat.le_refl _⟩
    · exact fun H q => ⟨xs, q, Nat.le_refl _⟩
/-! ### cars in lists -/
theorem sqt_same {K : PySem.W.Frag} {H H' : Hp} {a : Addr} {xs : List V} (h : SqT K H a xs) (e : Same H H') : SqT K H' a xs := by
  rcases h with (h | ⟨o, h⟩) | h
  · exact .inl (.inl (e _ _ h))
  · exact .inl (.inr ⟨o, e _ _ h⟩)
  · exact .inr h
theorem tyes {σ : L2.St} {H : Hp} {A B : Hp → Prop} (h : A H) : tYes σ H (fun b H3 => if b = true then A H3 else B H3) := by
  show (if true = true then A H else B H)
  rw [if_pos rfl]
  exact h
abbrev Car := Int × Int × Int × Int
def cr (c : Car) : List V := [.int c.1, .int c.2.1, .int c.2.2.1, .int c.2.2.2]
def CrV (K : PySem.W.Frag) (H : Hp) (x : V) (c : Car) : Prop := ∃ p : Addr, x = .ref p ∧ SqT K H p [.int c.1, .int c.2.1, .int c.2.2.1, .int c.2.2.2]
theorem CrV.same {K : PySem.W.Frag} {H H' : Hp} {x : V} {c : Car} (h : CrV K H x c) (e : Same H H') : CrV K H' x c := by
  obtain ⟨p, ex, hp⟩ := h
  exact ⟨p, ex, sqt_same hp e⟩
theorem CrV.lst {K : PySem.W.Frag} {H H' : Hp} {a : Addr} {x : V} {c : Car} {ys : List V} (h : CrV K H x c) (e : Kp a H H') (hl : H a = some (.lst ys)) : CrV K H' x c := by
  obtain ⟨p, ex, hp⟩ := h
  exact ⟨p, ex, sqt_lst hp e hl⟩
abbrev Cars (K : PySem.W.Frag) (H : Hp) := Al (CrV K H)
theorem carsS {K : PySem.W.Frag} {H H' : Hp} {xs : List V} {cs : List Car} (h : Cars K H xs cs) (e : Same H H') : Cars K H' xs cs := Al.mono (fun _ _ r => r.same e) h
theorem carsL {K : PySem.W.Frag} {H H' : Hp} {a : Addr} {ys : List V} {xs : List V} {cs : List Car} (h : Cars K H xs cs) (e : Kp a H H') (hl : H a = some (.lst ys)) : Cars K H' xs cs := Al.mono (fun _ _ r => r.lst e hl) h
theorem carsP {K : PySem.W.Frag} {H H' : Hp} {a : Addr} {xs : List V} {cs : List Car} (h : Cars K H xs cs) (e : Kp a H H') (p : PoolAt H a) : Cars K H' xs cs := by
  obtain ⟨x, y, z, e'⟩ := p
  exact carsL h e e'
theorem sqb_same {K : PySem.W.Frag} {b : Bool} {H H' : Hp} {a : Addr} {xs : List V} (h : SqB K b H a xs) (e : Same H H') : SqB K b H' a xs := by
  cases b
  · exact Same.seq e h
  · exact sqt_same h e
theorem sqb_or {K : PySem.W.Frag} {b : Bool} {H : Hp} {a : Addr} {xs : List V} (h : SqB K b H a xs) : SqL K H a xs ∨ SqT K H a xs := by
  cases b
  · exact .inl h
  · exact .inr h
theorem take_snoc {α : Type} {l : List α} {i : Nat} {x : α} (h : l[i]? = some x) : l.take i ++ [x] = l.take (i + 1) := by
  rw [List.take_add_one, h]
  rfl
theorem flat_ints (l : List Int) : (l.map V.int).all flatV = true := by
  rw [List.all_map, List.all_eq_true]
  intro j _
  rfl
/-- the same items, each flat -/
theorem same_ints {K : PySem.W.Frag} {H : Hp} {a b : Addr} {l : List Int} {n : Nat} (ha : SqL K H a (l.map V.int)) (hb : SqL K H b (l.map V.int)) (hz : l.length ≤ 100000) : SameV K H (n + 1) (.ref a) (.ref b) :=
  .inr (.inl ⟨a, b, _, _, rfl, rfl, ha, hb, by rw [List.length_map, sizeLine_eq]; omega, Pairs.refl fun x hx => by
    obtain ⟨t, _, e⟩ := List.mem_map.mp hx
    subst e
    exact SameV.flat rfl⟩)
theorem car_same {K : PySem.W.Frag} {H : Hp} {x y : V} {c : Car} {n : Nat} (hx : CrV K H x c) (hy : CrV K H y c) : SameV K H (n + 1) x y := by
  obtain ⟨p, rfl, hp⟩ := hx
  obtain ⟨q, rfl, hq⟩ := hy
  exact .inr (.inr ⟨p, q, _, _, rfl, rfl, hp, hq, by rw [sizeLine_eq]; show 4 ≤ 16777216; decide, Pairs.refl fun y hy => by
      simp only [List.mem_cons, List.not_mem_nil, or_false] at hy
      rcases hy with rfl | rfl | rfl | rfl <;> exact SameV.flat rfl⟩)
theorem Al.pairs {α : Type} {R : V → α → Prop} {S : V → V → Prop} (h : ∀ x y c, R x c → R y c → S x y) {xs ys : List V} {cs : List α} (a : Al R xs cs) (b : Al R ys cs) : Pairs S xs ys :=
  ⟨by rw [a.len, b.len], fun i x y hx hy => by
    obtain ⟨c, hc, r⟩ := a.at hx
    obtain ⟨c', hc', r'⟩ := b.at hy
    rw [hc] at hc'
    cases hc'
    exact h _ _ _ r r'⟩
theorem cars_sameL {K : PySem.W.Frag} {H : Hp} {a b : Addr} {xs ys : List V} {cs : List Car} {n : Nat} (ha : SqL K H a xs) (hb : SqL K H b ys) (hx : Cars K H xs cs) (hy : Cars K H ys cs) (hz : cs.length ≤ 100000) : SameV K H (n + 2) (.ref a) (.ref b) :=
  .inr (.inl ⟨a, b, _, _, rfl, rfl, ha, hb, by rw [hx.len, sizeLine_eq]; omega, Al.pairs (R := CrV K H) (S := SameV K H (n + 1)) (fun _ _ _ h1 h2 => car_same h1 h2) hx hy⟩)
theorem cars_sameT {K : PySem.W.Frag} {H : Hp} {a b : Addr} {xs ys : List V} {cs : List Car} {n : Nat} (ha : SqT K H a xs) (hb : SqT K H b ys) (hx : Cars K H xs cs) (hy : Cars K H ys cs) (hz : cs.length ≤ 100000) : SameV K H (n + 2) (.ref a) (.ref b) :=
  .inr (.inr ⟨a, b, _, _, rfl, rfl, ha, hb, by rw [hx.len, sizeLine_eq]; omega, Al.pairs (R := CrV K H) (S := SameV K H (n + 1)) (fun _ _ _ h1 h2 => car_same h1 h2) hx hy⟩)
theorem iteB {b : Bool} {A B : Prop} (hA : b = true → A) (hB : b = false → B) : if b = true then A else B := by
  cases b
  · exact iteF (hB rfl)
  · exact iteT (hA rfl)
theorem iteNe {x y : V} {A B : Prop} (e : x = y) (h : B) : if (!decide (x = y)) = true then A else B := by
  rw [decide_eq_true e]
  exact iteF h
theorem pick4 {a b c d r : Int} (h0 : 0 ≤ r) (h1 : r < 4) : ∃ v : Int, atI [V.int a, V.int b, V.int c, V.int d] r = some (V.int v) ∧ (v = a ∨ v = b ∨ v = c ∨ v = d) := by
  have : r = 0 ∨ r = 1 ∨ r = 2 ∨ r = 3 := by omega
  rcases this with e | e | e | e
  · subst e; exact ⟨a, rfl, .inl rfl⟩
  · subst e; exact ⟨b, rfl, .inr (.inl rfl)⟩
  · subst e; exact ⟨c, rfl, .inr (.inr (.inl rfl))⟩
  · subst e; exact ⟨d, rfl, .inr (.inr (.inr rfl))⟩
theorem getD_at {α : Type} {l : List α} {i : Nat} {c d : α} (h : l[i]? = some c) : l.getD i d = c := by
  rw [List.getD_eq_getElem?_getD, h]
  rfl
theorem seq_ix {i : Int} {n : Nat} (h0 : 0 ≤ i) (h1 : i < (n : Int)) : seqIndex? i n = some i.toNat := by
  unfold seqIndex?
  first
    | (simp only; split <;> first | (split <;> first | rfl | omega) | omega)
    | (have e : ¬ i < 0 := by omega
       simp [e, h1, h0])
theorem cut_drop (xs : List V) (w : Nat) : cutV xs (some (w : Int)) none = xs.drop w := by
  have e0 : HT.sIx xs.length xs.length none = xs.length := rfl
  have e1 : HT.sIx xs.length 0 (some (w : Int)) = min w xs.length := by
    simp only [HT.sIx]
    split <;> omega
  unfold cutV
  rw [e0, e1]
  by_cases h : w ≤ xs.length
  · rw [Nat.min_eq_left h, List.take_of_length_le (by rw [List.length_drop]; omega)]
  · rw [Nat.min_eq_right (by omega), List.drop_length, List.drop_of_length_le (by omega), List.take_nil]
abbrev Dc := Int × Int × Int
def DcV (K : PySem.W.Frag) (H : Hp) (x : V) (c : Dc) : Prop := ∃ p : Addr, x = .ref p ∧ SqT K H p [.int c.1, .int c.2.1, .int c.2.2]
theorem DcV.same {K : PySem.W.Frag} {H H' : Hp} {x : V} {c : Dc} (h : DcV K H x c) (e : Same H H') : DcV K H' x c := by
  obtain ⟨p, ex, hp⟩ := h
  exact ⟨p, ex, sqt_same hp e⟩
theorem DcV.lst {K : PySem.W.Frag} {H H' : Hp} {a : Addr} {x : V} {c : Dc} {ys : List V} (h : DcV K H x c) (e : Kp a H H') (hl : H a = some (.lst ys)) : DcV K H' x c := by
  obtain ⟨p, ex, hp⟩ := h
  exact ⟨p, ex, sqt_lst hp e hl⟩
abbrev Dcs (K : PySem.W.Frag) (H : Hp) := Al (DcV K H)
theorem dcsS {K : PySem.W.Frag} {H H' : Hp} {xs : List V} {cs : List Dc} (h : Dcs K H xs cs) (e : Same H H') : Dcs K H' xs cs := Al.mono (fun _ _ r => r.same e) h
theorem dcsL {K : PySem.W.Frag} {H H' : Hp} {a : Addr} {ys : List V} {xs : List V} {cs : List Dc} (h : Dcs K H xs cs) (e : Kp a H H') (hl : H a = some (.lst ys)) : Dcs K H' xs cs := Al.mono (fun _ _ r => r.lst e hl) h
theorem dcsP {K : PySem.W.Frag} {H H' : Hp} {a : Addr} {xs : List V} {cs : List Dc} (h : Dcs K H xs cs) (e : Kp a H H') (p : PoolAt H a) : Dcs K H' xs cs := by
  obtain ⟨x, y, z, e'⟩ := p
  exact dcsL h e e'
theorem dc_same {K : PySem.W.Frag} {H : Hp} {x y : V} {c : Dc} {n : Nat} (hx : DcV K H x c) (hy : DcV K H y c) : SameV K H (n + 1) x y := by
  obtain ⟨p, rfl, hp⟩ := hx
  obtain ⟨q, rfl, hq⟩ := hy
  exact .inr (.inr ⟨p, q, _, _, rfl, rfl, hp, hq, by rw [sizeLine_eq]; show 3 ≤ 16777216; decide, Pairs.refl fun y hy => by
      simp only [List.mem_cons, List.not_mem_nil, or_false] at hy
      rcases hy with rfl | rfl | rfl <;> exact SameV.flat rfl⟩)
theorem dcs_sameL {K : PySem.W.Frag} {H : Hp} {a b : Addr} {xs ys : List V} {cs : List Dc} {n : Nat} (ha : SqL K H a xs) (hb : SqL K H b ys) (hx : Dcs K H xs cs) (hy : Dcs K H ys cs) (hz : cs.length ≤ 100000) : SameV K H (n + 2) (.ref a) (.ref b) :=
  .inr (.inl ⟨a, b, _, _, rfl, rfl, ha, hb, by rw [hx.len, sizeLine_eq]; omega, Al.pairs (R := DcV K H) (S := SameV K H (n + 1)) (fun _ _ _ h1 h2 => dc_same h1 h2) hx hy⟩)
/-- the hours of the list in the window -/
def insd (c : Dc) (hs : List Int) : List Int := hs.filter fun h => decide (c.1 ≤ h) && decide (h < c.1 + c.2.1)
def dem (c : Dc) (hs : List Int) : Int := if c.2.2 - (c.2.1 - ((insd c hs).length : Int)) > 0 then c.2.2 - (c.2.1 - ((insd c hs).length : Int)) else 0
def demN (cs : List Dc) (hs : List Int) : Int := (cs.map fun c => dem c hs).sum
theorem insd_snoc (c : Dc) (hs : List Int) (h : Int) : insd c (hs ++ [h]) = insd c hs ++ (if c.1 ≤ h ∧ h < c.1 + c.2.1 then [h] else []) := by
  unfold insd
  rw [List.filter_append]
  by_cases h1 : c.1 ≤ h <;> by_cases h2 : h < c.1 + c.2.1 <;> simp [h1, h2]
theorem insd_len (c : Dc) (hs : List Int) : (insd c hs).length ≤ hs.length := List.length_filter_le ..
theorem demN_snoc (cs : List Dc) (c : Dc) (hs : List Int) : demN (cs ++ [c]) hs = demN cs hs + dem c hs := by
  unfold demN
  rw [List.map_append, List.sum_append, List.map_singleton]
  simp
theorem int_at {hs : List Int} {i : Nat} {y : V} (h : (hs.map V.int)[i]? = some y) : ∃ z : Int, hs[i]? = some z ∧ y = .int z := by
  rw [List.getElem?_map] at h
  cases e : hs[i]? with
  | none => rw [e] at h; cases h
  | some z => rw [e] at h; cases h; exact ⟨z, rfl, rfl⟩
def sp_cardem (K : PySem.W.Frag) : Sp := fun vs H Q _ => ∃ (p l : Addr) (c : Dc) (hs : List Int), vs = [.ref p, .ref l] ∧ SqT K H p [.int c.1, .int c.2.1, .int c.2.2] ∧ SqL K H l (hs.map V.int) ∧ hs.length ≤ 1000 ∧
  ∀ (H' : Hp), Same H H' → Q (.int (dem c hs)) H'
def sp_demand (K : PySem.W.Frag) : Sp := fun vs H Q _ => ∃ (cl l : Addr) (xs : List V) (cs : List Dc) (hs : List Int), vs = [.ref cl, .ref l] ∧ SqL K H cl xs ∧ Dcs K H xs cs ∧ cs.length ≤ 1000 ∧ SqL K H l (hs.map V.int) ∧ hs.length ≤ 1000 ∧
  ∀ (H' : Hp), Same H H' → Q (.int (demN cs hs)) H'
def sp_Lmust (K : PySem.W.Frag) : Sp := fun vs H Q _ => ∃ (cl l : Addr) (xs : List V) (cs : List Dc) (hs : List Int), vs = [.ref cl, .ref l] ∧ SqL K H cl xs ∧ Dcs K H xs cs ∧ cs.length ≤ 1000 ∧ SqL K H l (hs.map V.int) ∧ hs.length ≤ 1000 ∧
  ∀ (H' : Hp), Same H H' → Q (.int (demN cs hs)) H'
def sp_Lday (K : PySem.W.Frag) : Sp := fun vs H Q _ => ∃ (p : Addr) (n : Nat) (la lo : Int), vs = [.ref p, .int (n : Nat), .int la, .int lo] ∧ n ≤ 100 ∧ 0 ≤ la ∧ la < 1000 ∧ 0 < lo ∧ lo < 1000 ∧ PoolAt H p ∧
  ∀ (H' : Hp) (q : Addr) (xs : List V) (cs : List Dc), Kp p H H' → PoolAt H' p → H q = none → H' q = some (.lst xs) → Dcs K H' xs cs → cs.length = n → Q (.ref q) H'
def sp_Llot (K : PySem.W.Frag) : Sp := fun vs H Q _ => ∃ (p : Addr) (n : Nat), vs = [.ref p, .int (n : Nat)] ∧ n ≤ 100 ∧ PoolAt H p ∧
  ∀ (H' : Hp) (q : Addr) (xs : List V) (cs : List Dc), Kp p H H' → PoolAt H' p → H q = none → H' q = some (.lst xs) → Dcs K H' xs cs → cs.length ≤ n → Q (.ref q) H'
def sp_Llisted (K : PySem.W.Frag) : Sp := fun vs H Q _ => ∃ (p : Addr), vs = [.ref p] ∧ PoolAt H p ∧
  ∀ (H' : Hp) (q : Addr) (ss : List Int), Kp p H H' → PoolAt H' p → H q = none → H' q = some (.lst (ss.map V.int)) → ss.length ≤ 100 → Q (.ref q) H'
def topS (i : Nat) : Stmt := PySem.Challenge.pw_onecable_k20_demand_of_hours.main.body.getD i (.Pass ⟨0, 0, 0, 0⟩)
abbrev s_ucar_demand : Stmt := topS 1
theorem sc_ucar_demand : FnScope ["car", "hours", "come", "stay", "need", "inside", "hour"] ["car", "hours"] (defScope s_ucar_demand) := ⟨rfl, rfl, rfl, by decide +kernel, rfl, by decide +kernel, by decide +kernel⟩
abbrev s_demand : Stmt := topS 2
theorem sc_demand : FnScope ["cars", "hours", "car"] ["cars", "hours"] (defScope s_demand) := ⟨rfl, rfl, rfl, by decide +kernel, rfl, by decide +kernel, by decide +kernel⟩
abbrev s_Lcell : Stmt := topS 4
theorem sc_Lcell : FnScope ["_law_script", "_law_at"] ["_law_script", "_law_at"] (defScope s_Lcell) := ⟨rfl, rfl, rfl, by decide +kernel, rfl, by decide +kernel, by decide +kernel⟩
abbrev s_Lpool : Stmt := topS 5
theorem sc_Lpool : FnScope ["_law_cell_here"] ["_law_cell_here"] (defScope s_Lpool) := ⟨rfl, rfl, rfl, by decide +kernel, rfl, by decide +kernel, by decide +kernel⟩
abbrev s_Ltake : Stmt := topS 6
theorem sc_Ltake : FnScope ["_law_pool_here", "_law_many", "_law_digit", "_law_mixed"] ["_law_pool_here", "_law_many"] (defScope s_Ltake) := ⟨rfl, rfl, rfl, by decide +kernel, rfl, by decide +kernel, by decide +kernel⟩
abbrev s_Lsame : Stmt := topS 7
theorem sc_Lsame : FnScope ["_law_told", "_law_due", "_law_k"] ["_law_told", "_law_due"] (defScope s_Lsame) := ⟨rfl, rfl, rfl, by decide +kernel, rfl, by decide +kernel, by decide +kernel⟩
abbrev s_Lday : Stmt := topS 8
theorem sc_Lday : FnScope ["_law_pool_here", "_law_many", "_law_latest", "_law_longest", "_law_cars", "_law_k", "_law_come", "_law_stay"] ["_law_pool_here", "_law_many", "_law_latest", "_law_longest"] (defScope s_Lday) := ⟨rfl, rfl, rfl, by decide +kernel, rfl, by decide +kernel, by decide +kernel⟩
abbrev s_Llot : Stmt := topS 9
theorem sc_Llot : FnScope ["_law_pool_here", "_law_most", "_law_many", "_law_latest", "_law_longest"] ["_law_pool_here", "_law_most"] (defScope s_Llot) := ⟨rfl, rfl, rfl, by decide +kernel, rfl, by decide +kernel, by decide +kernel⟩
abbrev s_Lmust : Stmt := topS 10
theorem sc_Lmust : FnScope ["_law_cars", "_law_hours", "_law_total", "_law_car", "_law_come", "_law_leave", "_law_inside", "_law_hour"] ["_law_cars", "_law_hours"] (defScope s_Lmust) := ⟨rfl, rfl, rfl, by decide +kernel, rfl, by decide +kernel, by decide +kernel⟩
abbrev s_Llisted : Stmt := topS 11
theorem sc_Llisted : FnScope ["_law_pool_here", "_law_top", "_law_thin", "_law_way", "_law_listed_here", "_law_hour"] ["_law_pool_here"] (defScope s_Llisted) := ⟨rfl, rfl, rfl, by decide +kernel, rfl, by decide +kernel, by decide +kernel⟩
abbrev s_law : Stmt := topS 12
theorem sc_law : FnScope ["_law_script", "_law_pool_here", "_law_chance", "_law_cars", "_law_hours", "_law_extra", "_law_k", "_law_passed_cars", "_law_passed_hours"] ["_law_script"] (defScope s_law) := ⟨rfl, rfl, rfl, by decide +kernel, rfl, by decide +kernel, by decide +kernel⟩
def sp_law (K : PySem.W.Frag) : Sp := fun vs H Q _ => ∃ (a : Addr) (ns : List Int), vs = [.ref a] ∧ SqL K H a (ns.map V.int) ∧ ns.length ≤ 63 ∧ ∀ H', Q (.bl true) H'
structure Txt (P : Program) (w : World) (K : PySem.W.Frag) (mg : Str → Option Value) : Prop where
  n_len : mg "len" = none
  n_max : mg "max" = none
  n_sum : mg "sum" = none
  n_int : mg "int" = none
  n_abs : mg "abs" = none
  n_isinstance : mg "isinstance" = none
  n_bool : mg "bool" = none
  n_str : mg "str" = none
  n_tuple : mg "tuple" = none
  n_list : mg "list" = none
  n_range : mg "range" = none

section
variable {P : Program} {w : World} {K : PySem.W.Frag} {mg : Str → Option Value} {base : Heap}
theorem ok_Lcell {f : Addr} {fd : FuncData} (F : Fun K "_law_cell" "_law_cell" s_Lcell f fd) (T : Txt P w K mg )  :
    FnOk P w K mg base CX0 1 f fd ["_law_script", "_law_at"] (sp_Lcell K) := by
  refine F.ok sc_Lcell (fun vs H Q E h => ?_) (fun cdv A outer s H vs Q E hr h => ?_)
  · obtain ⟨l, ns, j, rfl, _⟩ := h
    rfl
  · obtain ⟨l, ns, j, rfl, hs, q⟩ := h
    refine ⟨_, (pss_cons (ps_if (pt_cmpR op_lt (pv 1) (pe_callB call_len_seq (by rfl) T.n_len PySem.boot_len (pa_cons (pv 0) pa_nil)) (nomark _)) (pss_one (ps_ret (pe_callB call_abs (by rfl) T.n_abs (by decide +kernel) (pa_cons (pe_callTy call_int1 (by rfl) T.n_int (by decide +kernel) (pa_cons (pe_ix ix_list (pv 0) (pv 1) (fun _ _ => rfl)) pa_nil)) pa_nil)))) pss_nil)
      (pss_one (ps_ret pe_int))), ?_⟩
    refine ⟨_, rfl, _, rfl, l, _, rfl, .inl hs, _, _, rfl, rfl, _, rfl, ?_⟩
    refine ite2 (fun hlt => ?_) (fun _ => q 0 (by decide))
    have hj : j < ns.length := by
      have z := of_decide_eq_true hlt
      rw [List.length_map] at z
      omega
    have hat : (ns.map V.int)[j]? = some (V.int ns[j]) := by rw [List.getElem?_map, List.getElem?_eq_getElem hj] <;> rfl
    refine ⟨_, rfl, _, rfl, l, _, _, _, rfl, rfl, hs, atI_nat hat, .inl ⟨_, rfl, _, rfl, q _ ?_⟩⟩
    split <;> omega
theorem ok_Lpool {f : Addr} {fd : FuncData} (F : Fun K "_law_pool" "_law_pool" s_Lpool f fd) (T : Txt P w K mg )  :
    FnOk P w K mg base CX0 1 f fd ["_law_cell_here"] sp_Lpool := by
  refine F.ok sc_Lpool (fun vs H Q E h => ?_) (fun cdv A outer s H vs Q E hr h => ?_)
  · obtain ⟨c, rfl, _⟩ := h
    rfl
  · obtain ⟨c, rfl, q⟩ := h
    refine ⟨_, (pss_cons (ps_if (pt_cmpR op_ge (pv 0) (pe_op op_pow pe_int pe_int) (nomark _)) (pss_one (ps_ret (pe_lst (pa_cons (pv 0) (pa_cons (pv 0) (pa_cons pe_int pa_nil)))))) pss_nil)
      (pss_one (ps_ret (pe_lst (pa_cons pe_int (pa_cons (pv 0) (pa_cons pe_int pa_nil))))))), ?_⟩
    refine ⟨_, rfl, _, _, rfl, rfl, ⟨by decide, by decide, by decide⟩, _, _, rfl, rfl, _, rfl, ?_⟩
    refine ite2 (fun _ => ?_) (fun _ => ?_)
    · exact ⟨_, rfl, _, rfl, (by show 3 ≤ sizeLine; decide), fun p hp => q p _ hp (same_upd hp) ⟨_, _, _, upd_same⟩⟩
    · exact ⟨_, rfl, (by show 3 ≤ sizeLine; decide), fun p hp => q p _ hp (same_upd hp) ⟨_, _, _, upd_same⟩⟩
theorem ok_Ltake {f : Addr} {fd : FuncData} (F : Fun K "_law_take" "_law_take" s_Ltake f fd) (T : Txt P w K mg )  :
    FnOk P w K mg base CX0 1 f fd ["_law_pool_here", "_law_many"] sp_Ltake := by
  refine F.ok sc_Ltake (fun vs H Q E h => ?_) (fun cdv A outer s H vs Q E hr h => ?_)
  · obtain ⟨p, many, rfl, _⟩ := h
    rfl
  · obtain ⟨p, many, rfl, ⟨x, y, z, hp⟩, hm, hb, q⟩ := h
    refine ⟨_, (pss_cons (ps_asg (pe_op op_add (pe_ix ix_list (pv 0) pe_int (fun _ _ => rfl)) pe_int) (pg_sub (pv 0) pe_int set_list))
      (pss_cons (ps_if (pt_cmpR op_gt (pe_ix ix_list (pv 0) pe_int (fun _ _ => rfl)) pe_int (nomark _)) (pss_cons (ps_set (i := 2) sc_Ltake.nd rfl (Or.inl rfl) (pe_op op_mod (pe_callTy call_int1 (by rfl) T.n_int (by decide +kernel) (pa_cons (pe_ix ix_list (pv 0) pe_int (fun _ _ => rfl)) pa_nil)) (pv 1)))
      (pss_cons (ps_asg (pe_op op_fdivW (pe_ix ix_list (pv 0) pe_int (fun _ _ => rfl)) (pv 1)) (pg_sub (pv 0) pe_int set_list))
      (pss_one (ps_ret (pv 2))))) pss_nil)
      (pss_cons (ps_set (i := 3) sc_Ltake.nd rfl (Or.inl rfl) (pe_op op_mod (pe_callTy call_int1 (by rfl) T.n_int (by decide +kernel) (pa_cons (pe_op op_mulA (pe_op op_add (pe_ix ix_list (pv 0) pe_int (fun _ _ => rfl)) (pe_op op_mulA pe_int (pe_ix ix_list (pv 0) pe_int (fun _ _ => rfl)))) pe_int) pa_nil)) pe_int))
      (pss_cons (ps_set (i := 3) sc_Ltake.nd rfl (Or.inl rfl) (pe_op op_mod (pe_callTy call_int1 (by rfl) T.n_int (by decide +kernel) (pa_cons (pe_op op_add (pe_op op_mulA (pv 3) pe_int) (pe_op op_mulA pe_int (pe_ix ix_list (pv 0) pe_int (fun _ _ => rfl)))) pa_nil)) pe_int))
      (pss_one (ps_ret (pe_op op_mod (pe_callTy call_int1 (by rfl) T.n_int (by decide +kernel) (pa_cons (pe_op op_fdivW (pv 3) pe_int) pa_nil)) (pv 1)))))))), ?_⟩
    refine ⟨_, rfl, p, _, _, _, rfl, rfl, SqL.of hp, at2, _, _, rfl, rfl, _, rfl, p, _, _, _, rfl, rfl, hp, rfl, ?_⟩
    refine ⟨_, rfl, p, _, _, _, rfl, rfl, SqL.of upd_same, at0, _, _, rfl, rfl, _, rfl, ?_⟩
    refine ite2 (fun _ => ?_) (fun _ => ?_)
    · refine ⟨_, rfl, p, _, _, _, rfl, rfl, SqL.of upd_same, at0, .inl ⟨_, rfl, _, rfl, _, _, rfl, rfl, hm, ?_⟩⟩
      refine ⟨_, rfl, p, _, _, _, rfl, rfl, SqL.of upd_same, at0, _, rfl, _, _, rfl, rfl, wide_div hm hb (by decide) (by decide), _, rfl, p, _, _, _, rfl, rfl, upd_same, rfl, ?_⟩
      exact ⟨_, rfl, q _ _ (Kp.trans Kp.upd Kp.upd) ⟨_, _, _, upd_same⟩ (Int.emod_nonneg _ (by omega)) (Int.emod_lt_of_pos _ hm)⟩
    · refine ⟨_, rfl, p, _, _, _, rfl, rfl, SqL.of upd_same, at1, _, rfl, p, _, _, _, rfl, rfl, SqL.of upd_same, at2, _, _, rfl, rfl, .inl (.inl ⟨by decide, by decide⟩), _, _, rfl, rfl, _, _, rfl, rfl, .inl (.inr ⟨by decide, by decide⟩), .inl ⟨_, rfl, _, _, rfl, rfl, (by show (0 : Int) < 2147483647; decide), ?_⟩⟩
      refine ⟨_, rfl, _, _, rfl, rfl, .inl (.inr ⟨by decide, by decide⟩), _, rfl, p, _, _, _, rfl, rfl, SqL.of upd_same, at2, _, _, rfl, rfl, .inl (.inl ⟨by decide, by decide⟩), _, _, rfl, rfl, .inl ⟨_, rfl, _, _, rfl, rfl, (by show (0 : Int) < 2147483399; decide), ?_⟩⟩
      refine ⟨_, rfl, _, _, rfl, rfl, wide_div (b := 300) (by decide) (by decide) (by decide) (by decide), .inl ⟨_, rfl, _, rfl, _, _, rfl, rfl, hm, ?_⟩⟩
      exact q _ _ Kp.upd ⟨_, _, _, upd_same⟩ (Int.emod_nonneg _ (by omega)) (Int.emod_lt_of_pos _ hm)
theorem okr_Lsame {f : Addr} {fd : FuncData} {j n : Nat} (F : Fun K "_law_same" "_law_same" s_Lsame f fd) (T : Txt P w K mg ) (c_Lsame : Cal CX0 P w K mg base j "_law_same" (sp_Lsame K n)) :
    FnOk P w K mg base CX0 (j + 1) f fd ["_law_told", "_law_due"] (sp_Lsame K (n + 1)) := by
  refine F.ok sc_Lsame (fun vs H Q E h => ?_) (fun cdv A outer s H vs Q E hr h => ?_)
  · obtain ⟨x, y, rfl, _⟩ := h
    rfl
  · obtain ⟨x, y, rfl, hv, q⟩ := h
    refine ⟨_, (pss_cons (ps_if (pt_cmpR op_isN (pv 1) pe_non (nomark _)) (pss_one (ps_ret (pe_cmpR op_isN (pv 0) pe_non (nomark _)))) pss_nil)
      (pss_cons (ps_if (pt_cmpR op_isB (pv 1) pe_bl (nomark _)) (pss_one (ps_ret (pe_cmpR op_isB (pv 0) pe_bl (nomark _)))) pss_nil)
      (pss_cons (ps_if (pt_cmpR op_isB (pv 1) pe_bl (nomark _)) (pss_one (ps_ret (pe_cmpR op_isB (pv 0) pe_bl (nomark _)))) pss_nil)
      (pss_cons (ps_if (pt_val (pe_callB call_isi (by rfl) T.n_isinstance (by decide +kernel) (pa_cons (pv 1) (pa_cons (pe_bltn (v := .ty "int") (by rfl) T.n_int (by decide +kernel) rfl) pa_nil)))) (pss_one (ps_ret (pe_and (pe_callB call_isi (by rfl) T.n_isinstance (by decide +kernel) (pa_cons (pv 0) (pa_cons (pe_bltn (v := .ty "int") (by rfl) T.n_int (by decide +kernel) rfl) pa_nil))) (pe_and (pe_not (pe_callB call_isi (by rfl) T.n_isinstance (by decide +kernel) (pa_cons (pv 0) (pa_cons (pe_bltn (v := .ty "bool") (by rfl) T.n_bool (by decide +kernel) rfl) pa_nil)))) (pe_one (pe_cmpR op_eq (pv 0) (pv 1) (nomark _))))))) pss_nil)
      (pss_cons (ps_if (pt_val (pe_callB call_isi (by rfl) T.n_isinstance (by decide +kernel) (pa_cons (pv 1) (pa_cons (pe_bltn (v := .ty "str") (by rfl) T.n_str (by decide +kernel) rfl) pa_nil)))) (pss_one (ps_ret (pe_and (pe_callB call_isi (by rfl) T.n_isinstance (by decide +kernel) (pa_cons (pv 0) (pa_cons (pe_bltn (v := .ty "str") (by rfl) T.n_str (by decide +kernel) rfl) pa_nil))) (pe_one (pe_cmpR op_eq (pv 0) (pv 1) (nomark _)))))) pss_nil)
      (pss_cons (ps_if (PW.pt (pw_and (pt_val (pe_callB call_isi (by rfl) T.n_isinstance (by decide +kernel) (pa_cons (pv 1) (pa_cons (pe_bltn (v := .ty "tuple") (by rfl) T.n_tuple (by decide +kernel) rfl) pa_nil)))) (pw_and1 (pt_not (pt_val (pe_callB call_isi (by rfl) T.n_isinstance (by decide +kernel) (pa_cons (pv 0) (pa_cons (pe_bltn (v := .ty "tuple") (by rfl) T.n_tuple (by decide +kernel) rfl) pa_nil)))))))) (pss_one (ps_ret pe_bl)) pss_nil)
      (pss_cons (ps_if (PW.pt (pw_and (pt_val (pe_callB call_isi (by rfl) T.n_isinstance (by decide +kernel) (pa_cons (pv 1) (pa_cons (pe_bltn (v := .ty "list") (by rfl) T.n_list (by decide +kernel) rfl) pa_nil)))) (pw_and1 (pt_not (pt_val (pe_callB call_isi (by rfl) T.n_isinstance (by decide +kernel) (pa_cons (pv 0) (pa_cons (pe_bltn (v := .ty "list") (by rfl) T.n_list (by decide +kernel) rfl) pa_nil)))))))) (pss_one (ps_ret pe_bl)) pss_nil)
      (pss_cons (ps_if (pt_cmpR op_ne (pe_callB call_len_seq (by rfl) T.n_len PySem.boot_len (pa_cons (pv 0) pa_nil)) (pe_callB call_len_seq (by rfl) T.n_len PySem.boot_len (pa_cons (pv 1) pa_nil)) (nomark _)) (pss_one (ps_ret pe_bl)) pss_nil)
      (pss_cons (ps_for PassesOwn.never rfl (pi_range1 (by rfl) T.n_range (pa_cons (pe_callB call_len_seq (by rfl) T.n_len PySem.boot_len (pa_cons (pv 1) pa_nil)) pa_nil)) (pg_name (i := 2) sc_Lsame.nd rfl (Or.inl rfl))
        (pss_one (ps_if (pt_not (pt_val (pc_c c_Lsame hr (Nat.le_refl _) rfl pass0 (pa_cons (pe_ix ix_seq (pv 0) (pv 2) (fun _ _ => rfl)) (pa_cons (pe_ix ix_seq (pv 1) (pv 2) (fun _ _ => rfl)) pa_nil))))) (pss_one (ps_ret pe_bl)) pss_nil)))
      (pss_one (ps_ret pe_bl))))))))))), ?_⟩
    have kL1 : PySem.W.kitOne K (.type "list") (.type "int") = some false := kit_ty (by decide +kernel)
    have kL2 : PySem.W.kitOne K (.type "list") (.type "str") = some false := kit_ty (by decide +kernel)
    have kL3 : PySem.W.kitOne K (.type "list") (.type "tuple") = some false := kit_ty (by decide +kernel)
    have kL4 : PySem.W.kitOne K (.type "list") (.type "list") = some true := kit_ty (by decide +kernel)
    have kT1 : PySem.W.kitOne K (.type "tuple") (.type "int") = some false := kit_ty (by decide +kernel)
    have kT2 : PySem.W.kitOne K (.type "tuple") (.type "str") = some false := kit_ty (by decide +kernel)
    have kT3 : PySem.W.kitOne K (.type "tuple") (.type "tuple") = some true := kit_ty (by decide +kernel)
    have kT4 : PySem.W.kitOne K (.type "tuple") (.type "list") = some false := kit_ty (by decide +kernel)
    have hv' : (flatD x = true ∧ x = y) ∨ (∃ m, n = m + 1 ∧ ∃ (a b : Addr) (xs ys : List V), x = .ref a ∧ y = .ref b ∧ SqL K H a xs ∧ SqL K H b ys ∧ xs.length ≤ sizeLine ∧ Pairs (SameV K H m) xs ys) ∨
        (∃ m, n = m + 1 ∧ ∃ (a b : Addr) (xs ys : List V), x = .ref a ∧ y = .ref b ∧ SqT K H a xs ∧ SqT K H b ys ∧ xs.length ≤ sizeLine ∧ Pairs (SameV K H m) xs ys) := by
      cases n with
      | zero => exact .inl hv
      | succ m =>
        rcases hv with h | h | h
        · exact .inl h
        · exact .inr (.inl ⟨m, rfl, h⟩)
        · exact .inr (.inr ⟨m, rfl, h⟩)
    rcases hv' with ⟨hf, e⟩ | ⟨m, rfl, a, b, xs, ys, rfl, rfl, ha, hb, hl, hp⟩ | ⟨m, rfl, a, b, xs, ys, rfl, rfl, ha, hb, hl, hp⟩
    · subst e
      cases x with
      | non => exact ⟨_, rfl, rfl, _, rfl, iteDT rfl ⟨_, rfl, rfl, q⟩⟩
      | bl b =>
        refine ⟨_, rfl, rfl, _, rfl, iteDF (by intro z; cases z) ?_⟩
        cases b with
        | true => exact ⟨_, rfl, _, rfl, _, rfl, iteDT rfl ⟨_, rfl, _, rfl, q⟩⟩
        | false => exact ⟨_, rfl, _, rfl, _, rfl, iteDF (by intro z; cases z) ⟨_, rfl, _, rfl, _, rfl, iteDT rfl ⟨_, rfl, _, rfl, q⟩⟩⟩
      | int i =>
        refine ⟨_, rfl, rfl, _, rfl, iteDF (by intro z; cases z) ?_⟩
        refine ⟨_, rfl, _, rfl, _, rfl, iteDF (by intro z; cases z) ?_⟩
        refine ⟨_, rfl, _, rfl, _, rfl, iteDF (by intro z; cases z) ?_⟩
        refine ⟨_, rfl, _, _, _, .type "int", true, rfl, .ty "int", .base (.int i), kit_ty (by decide +kernel), true, rfl, iteT ?_⟩
        refine ⟨_, rfl, _, _, _, .type "int", true, rfl, .ty "int", .base (.int i), kit_ty (by decide +kernel), true, rfl, iteT ?_⟩
        refine ⟨_, rfl, _, _, _, .type "bool", false, rfl, .ty "bool", .base (.int i), kit_ty (by decide +kernel), false, rfl, true, rfl, iteT ?_⟩
        refine ⟨_, rfl, _, rfl, rfl, ?_⟩
        rw [decide_eq_true (show V.int i = V.int i from rfl)]
        exact q
      | str i =>
        refine ⟨_, rfl, rfl, _, rfl, iteDF (by intro z; cases z) ?_⟩
        refine ⟨_, rfl, _, rfl, _, rfl, iteDF (by intro z; cases z) ?_⟩
        refine ⟨_, rfl, _, rfl, _, rfl, iteDF (by intro z; cases z) ?_⟩
        refine ⟨_, rfl, _, _, _, .type "int", false, rfl, .ty "int", .base (.str i), kit_ty (by decide +kernel), false, rfl, iteF ?_⟩
        refine ⟨_, rfl, _, _, _, .type "str", true, rfl, .ty "str", .base (.str i), kit_ty (by decide +kernel), true, rfl, iteT ?_⟩
        refine ⟨_, rfl, _, _, _, .type "str", true, rfl, .ty "str", .base (.str i), kit_ty (by decide +kernel), true, rfl, iteT ?_⟩
        refine ⟨_, rfl, _, rfl, rfl, ?_⟩
        rw [decide_eq_true (show V.str i = V.str i from rfl)]
        exact q
      | _ => exact absurd (show false = true from hf) Bool.false_ne_true
    · refine ⟨_, rfl, rfl, _, rfl, iteDF (by intro z; cases z) ?_⟩
      refine ⟨_, rfl, _, rfl, _, rfl, iteDF (by intro z; cases z) ?_⟩
      refine ⟨_, rfl, _, rfl, _, rfl, iteDF (by intro z; cases z) ?_⟩
      refine ⟨_, rfl, _, _, _, .type "int", false, rfl, .ty "int", tyx_list hb, kL1, false, rfl, iteF ?_⟩
      refine ⟨_, rfl, _, _, _, .type "str", false, rfl, .ty "str", tyx_list hb, kL2, false, rfl, iteF ?_⟩
      refine ⟨_, rfl, _, _, _, .type "tuple", false, rfl, .ty "tuple", tyx_list hb, kL3, false, rfl, iteF (iteF ?_)⟩
      refine ⟨_, rfl, _, _, _, .type "list", true, rfl, .ty "list", tyx_list hb, kL4, true, rfl, iteT ?_⟩
      refine ⟨_, rfl, _, _, _, .type "list", true, rfl, .ty "list", tyx_list ha, kL4, true, rfl, iteF ?_⟩
      refine ⟨_, rfl, a, _, rfl, .inl ha, _, rfl, b, _, rfl, .inl hb, rfl, _, rfl, ?_⟩
      rw [decide_eq_true (show V.int (xs.length : Nat) = V.int (ys.length : Nat) by rw [hp.1])]
      refine iteF ?_
      have hy : ys.length ≤ 16777216 := by rw [← hp.1, ← sizeLine_eq]; exact hl
      refine ⟨_, rfl, b, _, rfl, .inl hb, _, rfl, by omega, by omega, for_range (lo := 0) (n := ((ys.length : Nat) : Int).toNat) (fun i σ H' => H' = H ∧ ∃ v : Option V, σ = [some (.ref a), some (.ref b), v]) ⟨rfl, none, rfl⟩ ?_ ?_⟩
      · rintro i σ H' hi ⟨rfl, v, rfl⟩
        have i1 : i < ys.length := by omega
        have i2 : i < xs.length := by rw [hp.1]; exact i1
        have ex : xs[i]? = some xs[i] := List.getElem?_eq_getElem i2
        have ey : ys[i]? = some ys[i] := List.getElem?_eq_getElem i1
        have ex' := atI_nat ex
        have ey' := atI_nat ey
        rw [show ((i : Nat) : Int) = 0 + ((i : Nat) : Int) by omega] at ex' ey'
        refine ⟨_, rfl, _, rfl, .inl ⟨a, _, _, _, rfl, rfl, ha, ex', _, rfl, _, rfl, .inl ⟨b, _, _, _, rfl, rfl, hb, ey', _, _, rfl, hp.2 i _ _ ex ey, true, rfl, iteF ?_⟩⟩⟩
        exact ⟨rfl, _, rfl⟩
      · rintro σ H' ⟨rfl, v, rfl⟩
        exact q
    · refine ⟨_, rfl, rfl, _, rfl, iteDF (by intro z; cases z) ?_⟩
      refine ⟨_, rfl, _, rfl, _, rfl, iteDF (by intro z; cases z) ?_⟩
      refine ⟨_, rfl, _, rfl, _, rfl, iteDF (by intro z; cases z) ?_⟩
      refine ⟨_, rfl, _, _, _, .type "int", false, rfl, .ty "int", tyx_tup hb, kT1, false, rfl, iteF ?_⟩
      refine ⟨_, rfl, _, _, _, .type "str", false, rfl, .ty "str", tyx_tup hb, kT2, false, rfl, iteF ?_⟩
      refine ⟨_, rfl, _, _, _, .type "tuple", true, rfl, .ty "tuple", tyx_tup hb, kT3, true, rfl, iteT ?_⟩
      refine ⟨_, rfl, _, _, _, .type "tuple", true, rfl, .ty "tuple", tyx_tup ha, kT3, true, rfl, iteF ?_⟩
      refine ⟨_, rfl, _, _, _, .type "list", false, rfl, .ty "list", tyx_tup hb, kT4, false, rfl, iteF (iteF ?_)⟩
      refine ⟨_, rfl, a, _, rfl, .inr ha, _, rfl, b, _, rfl, .inr hb, rfl, _, rfl, ?_⟩
      rw [decide_eq_true (show V.int (xs.length : Nat) = V.int (ys.length : Nat) by rw [hp.1])]
      refine iteF ?_
      have hy : ys.length ≤ 16777216 := by rw [← hp.1, ← sizeLine_eq]; exact hl
      refine ⟨_, rfl, b, _, rfl, .inr hb, _, rfl, by omega, by omega, for_range (lo := 0) (n := ((ys.length : Nat) : Int).toNat) (fun i σ H' => H' = H ∧ ∃ v : Option V, σ = [some (.ref a), some (.ref b), v]) ⟨rfl, none, rfl⟩ ?_ ?_⟩
      · rintro i σ H' hi ⟨rfl, v, rfl⟩
        have i1 : i < ys.length := by omega
        have i2 : i < xs.length := by rw [hp.1]; exact i1
        have ex : xs[i]? = some xs[i] := List.getElem?_eq_getElem i2
        have ey : ys[i]? = some ys[i] := List.getElem?_eq_getElem i1
        have ex' := atI_nat ex
        have ey' := atI_nat ey
        rw [show ((i : Nat) : Int) = 0 + ((i : Nat) : Int) by omega] at ex' ey'
        refine ⟨_, rfl, _, rfl, .inr (.inl ⟨a, _, _, _, rfl, rfl, ha, ex', _, rfl, _, rfl, .inr (.inl ⟨b, _, _, _, rfl, rfl, hb, ey', _, _, rfl, hp.2 i _ _ ex ey, true, rfl, iteF ?_⟩)⟩)⟩
        exact ⟨rfl, _, rfl⟩
      · rintro σ H' ⟨rfl, v, rfl⟩
        exact q
theorem ok_Lsame {f : Addr} {fd : FuncData} (F : Fun K "_law_same" "_law_same" s_Lsame f fd) (T : Txt P w K mg ) (m : mg "_law_same" = some (.ref f)) (kp : PySem.W.keepIn K (.ref f) = true) (b : Binds K fd ["_law_told", "_law_due"] []) :
    ∀ n : Nat, FnOk P w K mg base CX0 (n + 1) f fd ["_law_told", "_law_due"] (sp_Lsame K n)
  | 0 => F.ok sc_Lsame (fun _ _ _ _ h => False.elim h) (fun _ _ _ _ _ _ _ _ _ h => False.elim h)
  | n + 1 => okr_Lsame F T (cal_mk (ok_Lsame F T m kp b n) m kp b)
theorem ok_ucar_demand {f : Addr} {fd : FuncData} (F : Fun K "_car_demand" "_car_demand" s_ucar_demand f fd) (T : Txt P w K mg )  :
    FnOk P w K mg base CX0 1 f fd ["car", "hours"] (sp_cardem K) := by
  refine F.ok sc_ucar_demand (fun vs H Q E h => ?_) (fun cdv A outer s H vs Q E hr h => ?_)
  · obtain ⟨p, l, c, hs, rfl, _⟩ := h
    rfl
  · obtain ⟨p, l, c, hs, rfl, hp, hl, hz, q⟩ := h
    refine ⟨_, (pss_cons (ps_asg (pv 0) (pg_tup rfl (pgs_cons (pg_name (i := 2) sc_ucar_demand.nd rfl (Or.inr rfl)) (pgs_cons (pg_name (i := 3) sc_ucar_demand.nd rfl (Or.inr rfl)) (pgs_cons (pg_name (i := 4) sc_ucar_demand.nd rfl (Or.inl rfl)) pgs_nil)))))
      (pss_cons (ps_set (i := 5) sc_ucar_demand.nd rfl (Or.inl rfl) (pe_callB call_len_seq (by rfl) T.n_len PySem.boot_len (pa_cons (pe_lc (own := [("hour", 6)]) (g := (gName 6)) rfl sc_ucar_demand.nd (pi_list (pv 1)) (blkOk_by (own := [("hour", 6)]) (N := ["car", "hours", "come", "stay", "need", "inside", "hour"]) (sc := defScope s_ucar_demand) (by decide +kernel)) (fun _ _ _ _ _ => (pg_name (i := 6) sc_ucar_demand.nd rfl (Or.inl rfl))) (fun _ _ _ _ _ => (pts_one (PW.pt (pw_and (pt_cmpR op_ge (pv 6) (pv 2) (nomark _)) (pw_and1 (pt_cmpR op_lt (pv 6) (pe_op op_add (pv 2) (pv 3)) (nomark _))))))) (fun _ _ _ _ _ => (pv 6))) pa_nil)))
      (pss_one (ps_ret (pe_callB (call_max2 rfl) (by rfl) T.n_max (by decide +kernel) (pa_cons pe_int (pa_cons (pe_op op_sub (pv 4) (pe_op op_sub (pv 3) (pv 5))) pa_nil))))))), ?_⟩
    refine ⟨_, rfl, p, _, rfl, hp, rfl, _, _, rfl, _, _, rfl, _, _, rfl, rfl, ?_⟩
    refine ⟨_, rfl, l, rfl, ⟨_, hl⟩, fun D hD => lc_list (K := K) (a := l) (xs := hs.map V.int) (fun i H' => Same H H' ∧ H' D = some (.lst ((insd c (hs.take i)).map V.int)))
      ⟨same_upd hD, upd_same⟩ (fun i H' _ ⟨s1, _⟩ => Same.seq s1 hl) ?_ ?_⟩
    · rintro i y H' hy ⟨s1, hD1⟩
      obtain ⟨z, hz1, rfl⟩ := int_at hy
      have e := insd_snoc c (hs.take i) z
      rw [take_snoc hz1] at e
      have no : ¬ (c.1 ≤ z ∧ z < c.1 + c.2.1) → H' D = some (.lst ((insd c (hs.take (i + 1))).map V.int)) := fun h => by
        rw [e, if_neg h, List.append_nil]
        exact hD1
      refine ⟨rfl, _, rfl, _, rfl, _, _, rfl, rfl, _, rfl, ite2 (fun h1 => ⟨_, rfl, _, rfl, _, rfl, _, _, rfl, rfl, _, _, rfl, rfl, _, rfl, ite2 (fun h2 => ?_) (fun h2 => ?_)⟩) (fun h1 => ?_)⟩
      · have h1' := of_decide_eq_true h1
        have h2' := of_decide_eq_true h2
        refine ⟨_, rfl, _, hD1, small1000 ?_, same_app s1 hD, ?_⟩
        · rw [List.length_map]
          have := insd_len c (hs.take i)
          rw [List.length_take] at this
          omega
        · rw [upd_same, e, if_pos ⟨h1', h2'⟩, List.map_append]
          rfl
      · exact ⟨s1, no fun z => h2 (decide_eq_true z.2)⟩
      · exact ⟨s1, no fun z => h1 (decide_eq_true z.1)⟩
    · rintro H1 ⟨s1, hD1⟩
      rw [List.length_map, List.take_length] at hD1
      refine ⟨D, _, rfl, .inl (SqL.of hD1), ?_⟩
      refine ⟨_, rfl, _, rfl, _, rfl, _, _, rfl, rfl, _, _, rfl, rfl, _, _, rfl, ?_⟩
      rw [List.length_map]
      exact q _ s1
theorem ok_demand {f : Addr} {fd : FuncData} (F : Fun K "demand" "demand" s_demand f fd) (T : Txt P w K mg ) (c_ucar_demand : Cal CX0 P w K mg base 1 "_car_demand" (sp_cardem K)) :
    FnOk P w K mg base CX0 2 f fd ["cars", "hours"] (sp_demand K) := by
  refine F.ok sc_demand (fun vs H Q E h => ?_) (fun cdv A outer s H vs Q E hr h => ?_)
  · obtain ⟨cl, l, xs, cs, hs, rfl, _⟩ := h
    rfl
  · obtain ⟨cl, l, xs, cs, hs, rfl, hcl, hcs, hcz, hl, hz, q⟩ := h
    refine ⟨_, (pss_one (ps_ret (pe_callB (cr_sum rfl) (by rfl) T.n_sum (by decide +kernel) (pa_cons (pe_lc (own := [("car", 2)]) (g := (gName 2)) (tt := tYes) rfl sc_demand.nd (pi_list (pv 0)) (blkOk_by (own := [("car", 2)]) (N := ["cars", "hours", "car"]) (sc := defScope s_demand) (by decide +kernel)) (fun _ _ _ _ _ => (pg_name (i := 2) sc_demand.nd rfl (Or.inl rfl))) (fun _ _ _ _ _ => pts_nil) (fun _ _ _ _ _ => (pc_c c_ucar_demand hr (by decide) rfl pass0 (pa_cons (pv 2) (pa_cons (pv 1) pa_nil))))) pa_nil)))), ?_⟩
    have hlen := hcs.len
    refine ⟨_, rfl, cl, rfl, ⟨_, hcl⟩, fun D hD => lc_list (K := K) (a := cl) (xs := xs) (fun i H' => Same H H' ∧ H' D = some (.lst (((cs.take i).map fun c => dem c hs).map V.int)))
      ⟨same_upd hD, upd_same⟩ (fun i H' _ ⟨s1, _⟩ => Same.seq s1 hcl) ?_ ?_⟩
    · rintro i y H' hy ⟨s1, hD1⟩
      obtain ⟨c, hc, pc, rfl, hpc⟩ := hcs.at hy
      refine ⟨rfl, tyes ?_⟩
      refine ⟨_, rfl, _, rfl, pc, l, c, hs, rfl, sqt_same hpc s1, Same.seq s1 hl, hz, fun H2 s2 => ?_⟩
      refine ⟨_, s2 _ _ hD1, small1000 (by rw [List.length_map, List.length_map, List.length_take]; omega), same_app (s1.trans s2) hD, ?_⟩
      rw [upd_same, ← take_snoc hc, List.map_append, List.map_append]
      rfl
    · rintro H1 ⟨s1, hD1⟩
      rw [hlen, List.take_length] at hD1
      exact ⟨D, _, rfl, SqL.of hD1, q _ s1⟩
theorem ok_Lmust {f : Addr} {fd : FuncData} (F : Fun K "_law_must" "_law_must" s_Lmust f fd) (T : Txt P w K mg )  :
    FnOk P w K mg base CX0 1 f fd ["_law_cars", "_law_hours"] (sp_Lmust K) := by
  refine F.ok sc_Lmust (fun vs H Q E h => ?_) (fun cdv A outer s H vs Q E hr h => ?_)
  · obtain ⟨cl, l, xs, cs, hs, rfl, _⟩ := h
    rfl
  · obtain ⟨cl, l, xs, cs, hs, rfl, hcl, hcs, hcz, hl, hz, q⟩ := h
    refine ⟨_, (pss_cons (ps_set (i := 2) sc_Lmust.nd rfl (Or.inl rfl) pe_int)
      (pss_cons (ps_for PassesOwn.never rfl (pi_list (pv 0)) (pg_name (i := 3) sc_Lmust.nd rfl (Or.inl rfl))
        (pss_cons (ps_set (i := 4) sc_Lmust.nd rfl (Or.inr rfl) (pe_ix ix_tup (pv 3) pe_int (fun _ _ => rfl)))
      (pss_cons (ps_set (i := 5) sc_Lmust.nd rfl (Or.inr rfl) (pe_op op_add (pe_ix ix_tup (pv 3) pe_int (fun _ _ => rfl)) (pe_ix ix_tup (pv 3) pe_int (fun _ _ => rfl))))
      (pss_cons (ps_set (i := 6) sc_Lmust.nd rfl (Or.inl rfl) (pe_callB call_len_seq (by rfl) T.n_len PySem.boot_len (pa_cons (pe_lc (own := [("_law_hour", 7)]) (g := (gName 7)) rfl sc_Lmust.nd (pi_list (pv 1)) (blkOk_by (own := [("_law_hour", 7)]) (N := ["_law_cars", "_law_hours", "_law_total", "_law_car", "_law_come", "_law_leave", "_law_inside", "_law_hour"]) (sc := defScope s_Lmust) (by decide +kernel)) (fun _ _ _ _ _ => (pg_name (i := 7) sc_Lmust.nd rfl (Or.inl rfl))) (fun _ _ _ _ _ => (pts_one (PW.pt (pw_and (pt_cmpR op_le (pv 4) (pv 7) (nomark _)) (pw_and1 (pt_cmpR op_lt (pv 7) (pv 5) (nomark _))))))) (fun _ _ _ _ _ => (pv 7))) pa_nil)))
      (pss_one (ps_if (pt_cmpR op_gt (pv 6) (pe_op op_sub (pe_ix ix_tup (pv 3) pe_int (fun _ _ => rfl)) (pe_ix ix_tup (pv 3) pe_int (fun _ _ => rfl))) (nomark _)) (pss_one (ps_set (i := 2) sc_Lmust.nd rfl (Or.inl rfl) (pe_op op_sub (pe_op op_add (pv 2) (pv 6)) (pe_op op_sub (pe_ix ix_tup (pv 3) pe_int (fun _ _ => rfl)) (pe_ix ix_tup (pv 3) pe_int (fun _ _ => rfl)))))) pss_nil))))))
      (pss_one (ps_ret (pv 2))))), ?_⟩
    have hlen := hcs.len
    refine ⟨_, rfl, cl, rfl, ⟨_, hcl⟩, for_list (K := K) (a := cl) (xs := xs) (fun i σ H' => ∃ (v3 v4 v5 v6 v7 : Option V) (t : Int), σ = [some (.ref cl), some (.ref l), some (.int t), v3, v4, v5, v6, v7] ∧ t = demN (cs.take i) hs ∧ Same H H')
      ⟨none, none, none, none, none, 0, rfl, rfl, Same.of _⟩ (fun i σ H' _ ⟨_, _, _, _, _, _, _, _, s1⟩ => Same.seq s1 hcl) ?_ ?_⟩
    · rintro i y σ H' hy ⟨v3, v4, v5, v6, v7, t, rfl, ht, s1⟩
      obtain ⟨c, hc, pc, rfl, hpc⟩ := hcs.at hy
      have hpc' := sqt_same hpc s1
      have e2 := demN_snoc (cs.take i) c hs
      rw [take_snoc hc] at e2
      refine ⟨_, rfl, pc, _, _, _, rfl, rfl, hpc', rfl, ?_⟩
      refine ⟨_, rfl, pc, _, _, _, rfl, rfl, hpc', rfl, _, rfl, pc, _, _, _, rfl, rfl, hpc', rfl, _, _, rfl, rfl, ?_⟩
      have hl1 := Same.seq s1 hl
      refine ⟨_, rfl, l, rfl, ⟨_, hl1⟩, fun D hD => lc_list (K := K) (a := l) (xs := hs.map V.int) (fun i H2 => Same H' H2 ∧ H2 D = some (.lst ((insd c (hs.take i)).map V.int)))
        ⟨same_upd hD, upd_same⟩ (fun i H2 _ ⟨s2, _⟩ => Same.seq s2 hl1) ?_ ?_⟩
      · rintro j y H2 hy ⟨s2, hD1⟩
        obtain ⟨z, hz1, rfl⟩ := int_at hy
        have e := insd_snoc c (hs.take j) z
        rw [take_snoc hz1] at e
        have no : ¬ (c.1 ≤ z ∧ z < c.1 + c.2.1) → H2 D = some (.lst ((insd c (hs.take (j + 1))).map V.int)) := fun h => by
          rw [e, if_neg h, List.append_nil]
          exact hD1
        refine ⟨rfl, _, rfl, _, rfl, _, _, rfl, rfl, _, rfl, ite2 (fun h1 => ⟨_, rfl, _, rfl, _, _, rfl, rfl, _, rfl, ite2 (fun h2 => ?_) (fun h2 => ?_)⟩) (fun h1 => ?_)⟩
        · have h1' := of_decide_eq_true h1
          have h2' := of_decide_eq_true h2
          refine ⟨_, rfl, _, hD1, small1000 ?_, same_app s2 hD, ?_⟩
          · rw [List.length_map]
            have := insd_len c (hs.take j)
            rw [List.length_take] at this
            omega
          · rw [upd_same, e, if_pos ⟨h1', h2'⟩, List.map_append]
            rfl
        · exact ⟨s2, no fun z => h2 (decide_eq_true z.2)⟩
        · exact ⟨s2, no fun z => h1 (decide_eq_true z.1)⟩
      · rintro H2 ⟨s2, hD1⟩
        rw [List.length_map, List.take_length] at hD1
        refine ⟨D, _, rfl, .inl (SqL.of hD1), ?_⟩
        have hpc2 := sqt_same hpc' s2
        refine ⟨_, rfl, _, rfl, pc, _, _, _, rfl, rfl, hpc2, rfl, _, rfl, pc, _, _, _, rfl, rfl, hpc2, rfl, _, _, rfl, rfl, _, _, rfl, rfl, _, rfl, ite2 (fun h1 => ?_) (fun h1 => ?_)⟩
        · refine ⟨_, rfl, _, rfl, _, _, rfl, rfl, _, rfl, pc, _, _, _, rfl, rfl, hpc2, rfl, _, rfl, pc, _, _, _, rfl, rfl, hpc2, rfl, _, _, rfl, rfl, _, _, rfl, rfl, ?_⟩
          refine ⟨_, _, _, _, _, _, rfl, ?_, s1.trans s2⟩
          simp only [decide_eq_true_eq, List.length_map] at h1
          rw [e2, ht, List.length_map]
          unfold dem
          rw [if_pos (by omega)]
          omega
        · refine ⟨_, _, _, _, _, _, rfl, ?_, s1.trans s2⟩
          simp only [decide_eq_true_eq, List.length_map] at h1
          rw [e2, ht]
          unfold dem
          rw [if_neg (by omega)]
          omega
    · rintro σ H' ⟨v3, v4, v5, v6, v7, t, rfl, ht, s1⟩
      rw [hlen, List.take_length] at ht
      refine ⟨_, rfl, ?_⟩
      rw [ht]
      exact q _ s1
theorem ok_Lday {f : Addr} {fd : FuncData} (F : Fun K "_law_day" "_law_day" s_Lday f fd) (T : Txt P w K mg ) (c_Ltake : Cal CX0 P w K mg base 1 "_law_take" sp_Ltake) :
    FnOk P w K mg base CX0 2 f fd ["_law_pool_here", "_law_many", "_law_latest", "_law_longest"] (sp_Lday K) := by
  refine F.ok sc_Lday (fun vs H Q E h => ?_) (fun cdv A outer s H vs Q E hr h => ?_)
  · obtain ⟨p, n, la, lo, rfl, _⟩ := h
    rfl
  · obtain ⟨p, n, la, lo, rfl, hn, la0, la1, lo0, lo1, hp, q⟩ := h
    refine ⟨_, (pss_cons (ps_set (i := 4) sc_Lday.nd rfl (Or.inl rfl) (pe_lst pa_nil))
      (pss_cons (ps_for PassesOwn.never rfl (pi_range1 (by rfl) T.n_range (pa_cons (pv 1) pa_nil)) (pg_name (i := 5) sc_Lday.nd rfl (Or.inl rfl))
        (pss_cons (ps_set (i := 6) sc_Lday.nd rfl (Or.inl rfl) (pc_c c_Ltake hr (by decide) rfl pass0 (pa_cons (pv 0) (pa_cons (pe_op op_add (pv 2) pe_int) pa_nil))))
      (pss_cons (ps_set (i := 7) sc_Lday.nd rfl (Or.inl rfl) (pe_op op_add pe_int (pc_c c_Ltake hr (by decide) rfl pass0 (pa_cons (pv 0) (pa_cons (pv 3) pa_nil)))))
      (pss_one (ps_expr (pe_bm PySem.F.plainAttrs_list PySem.F.slot_list_append PySem.F.type_list_append mt_append (pv 4) (pa_cons (pe_tup (pa_cons (pv 6) (pa_cons (pv 7) (pa_cons (pe_op op_add pe_int (pc_c c_Ltake hr (by decide) rfl pass0 (pa_cons (pv 0) (pa_cons (pv 7) pa_nil)))) pa_nil)))) pa_nil)))))))
      (pss_one (ps_ret (pv 4))))), ?_⟩
    refine ⟨Nat.zero_le _, fun D hD => ?_⟩
    have nD := pool_ne hp hD
    have s0 : Same H (upd H D (.lst [])) := same_upd hD
    refine ⟨_, rfl, _, rfl, by omega, by omega, for_range (lo := 0) (n := ((n : Nat) : Int).toNat) (fun i σ H' => ∃ (v5 v6 v7 : Option V) (xs : List V) (cs : List Dc), σ = [some (.ref p), some (.int (n : Nat)), some (.int la), some (.int lo), some (.ref D), v5, v6, v7] ∧ Kp p H H' ∧ PoolAt H' p ∧ H' D = some (.lst xs) ∧ Dcs K H' xs cs ∧ cs.length = i)
      ⟨none, none, none, [], [], rfl, Kp.of s0, hp.same s0, upd_same, .nil, rfl⟩ ?_ ?_⟩
    · rintro i σ H' hi ⟨v5, v6, v7, xs, cs, rfl, k0, p0, hD0, hc0, hl0⟩
      refine ⟨_, rfl, _, rfl, _, _, rfl, rfl, p, _, rfl, p0, by omega, by omega, fun H1 r1 k1 p1 a0 a1 => ?_⟩
      refine ⟨_, rfl, _, rfl, p, _, rfl, p1, by omega, by omega, fun H2 r2 k2 p2 b0 b1 => ⟨_, _, rfl, rfl, ?_⟩⟩
      have k02 := k1.trans k2
      refine ⟨_, rfl, .inl ⟨rfl, _, SqL.of (k02 _ _ nD hD0)⟩, _, rfl, _, rfl, _, rfl, _, rfl, p, _, rfl, p2, by omega, by omega, fun H4 r4 k4 p4 d0 d1 => ⟨_, _, rfl, rfl, (by show 3 ≤ sizeLine; decide), fun t ht => ?_⟩⟩
      have k04 := k02.trans k4
      have hD4 := k04 _ _ nD hD0
      have hc4 := dcsP hc0 k04 p0
      have st := same_upd (o := .tup [.int r1, .int (1 + r2), .int (1 + r4)]) ht
      refine ⟨D, _, _, rfl, rfl, st _ _ hD4, small1000 (by rw [hc0.len]; omega), ?_⟩
      have ntD : t ≠ D := fun z => by rw [z, hD4] at ht; cases ht
      exact ⟨_, _, _, _, cs ++ [(r1, 1 + r2, 1 + r4)], rfl, kp_app ((k0.trans k04).trans (Kp.of st)) hD, (p4.same st).kp Kp.upd nD.symm, upd_same, (dcsL (dcsS hc4 st) Kp.upd (st _ _ hD4)).snoc ⟨t, rfl, SqT.of (by rw [upd_ne ntD, upd_same])⟩, by rw [List.length_append, hl0] <;> rfl⟩
    · rintro σ H' ⟨v5, v6, v7, xs, cs, rfl, k0, p0, hD0, hc0, hl0⟩
      exact ⟨_, rfl, q _ D xs cs k0 p0 hD hD0 hc0 (by omega)⟩
theorem ok_Llot {f : Addr} {fd : FuncData} (F : Fun K "_law_lot" "_law_lot" s_Llot f fd) (T : Txt P w K mg ) (c_Ltake : Cal CX0 P w K mg base 1 "_law_take" sp_Ltake) (c_Lday : Cal CX0 P w K mg base 2 "_law_day" (sp_Lday K)) :
    FnOk P w K mg base CX0 3 f fd ["_law_pool_here", "_law_most"] (sp_Llot K) := by
  refine F.ok sc_Llot (fun vs H Q E h => ?_) (fun cdv A outer s H vs Q E hr h => ?_)
  · obtain ⟨p, n, rfl, _⟩ := h
    rfl
  · obtain ⟨p, n, rfl, hn, hp, q⟩ := h
    refine ⟨_, (pss_cons (ps_set (i := 2) sc_Llot.nd rfl (Or.inl rfl) (pc_c c_Ltake hr (by decide) rfl pass0 (pa_cons (pv 0) (pa_cons (pe_op op_add (pv 1) pe_int) pa_nil))))
      (pss_cons (ps_set (i := 3) sc_Llot.nd rfl (Or.inl rfl) (pe_ix ix_list (pe_lst (pa_cons pe_int (pa_cons pe_int (pa_cons pe_int (pa_cons pe_int pa_nil))))) (pc_c c_Ltake hr (by decide) rfl pass0 (pa_cons (pv 0) (pa_cons pe_int pa_nil))) (fun _ _ => rfl)))
      (pss_cons (ps_set (i := 4) sc_Llot.nd rfl (Or.inl rfl) (pe_ix ix_list (pe_lst (pa_cons pe_int (pa_cons pe_int (pa_cons pe_int (pa_cons pe_int pa_nil))))) (pc_c c_Ltake hr (by decide) rfl pass0 (pa_cons (pv 0) (pa_cons pe_int pa_nil))) (fun _ _ => rfl)))
      (pss_one (ps_ret (pc_c c_Lday hr (by decide) rfl pass0 (pa_cons (pv 0) (pa_cons (pv 2) (pa_cons (pv 3) (pa_cons (pv 4) pa_nil)))))))))), ?_⟩
    refine ⟨_, rfl, _, rfl, _, _, rfl, rfl, p, _, rfl, hp, by omega, by omega, fun H1 r1 k1 p1 a0 a1 => ?_⟩
    obtain ⟨m, rfl⟩ : ∃ n : Nat, r1 = (n : Int) := ⟨r1.toNat, (Int.toNat_of_nonneg a0).symm⟩
    refine ⟨(by show 4 ≤ sizeLine; decide), fun z hz => ?_⟩
    have sz := same_upd (o := .lst [.int 60, .int 12, .int 5, .int 2]) hz
    have nz := pool_ne p1 hz
    refine ⟨_, rfl, p, 4, rfl, p1.same sz, by decide, by decide, fun H2 r2 k2 p2 b0 b1 => ?_⟩
    obtain ⟨la, hla, ela⟩ := pick4 (a := 60) (b := 12) (c := 5) (d := 2) b0 b1
    refine ⟨z, _, _, _, rfl, rfl, SqL.of (k2 _ _ nz upd_same), hla, ?_⟩
    refine ⟨(by show 4 ≤ sizeLine; decide), fun y hy => ?_⟩
    have sy := same_upd (o := .lst [.int 12, .int 8, .int 5, .int 3]) hy
    have ny := pool_ne p2 hy
    refine ⟨_, rfl, p, 4, rfl, p2.same sy, by decide, by decide, fun H3 r3 k3 p3 c0 c1 => ?_⟩
    obtain ⟨lo, hlo, elo⟩ := pick4 (a := 12) (b := 8) (c := 5) (d := 3) c0 c1
    refine ⟨y, _, _, _, rfl, rfl, SqL.of (k3 _ _ ny upd_same), hlo, ?_⟩
    have k03 : Kp p H H3 := (((k1.trans (Kp.of sz)).trans k2).trans (Kp.of sy)).trans k3
    refine ⟨_, rfl, _, rfl, _, rfl, _, rfl, p, m, la, lo, rfl, by omega, by omega, by omega, by omega, by omega, p3, fun H4 u xs cs k4 p4 hu0 hu hcs hcn => ?_⟩
    exact q _ u xs cs (k03.trans k4) p4 (none_kp k03 (pool_ne p3 hu0) hu0) hu hcs (by omega)
theorem ok_Llisted {f : Addr} {fd : FuncData} (F : Fun K "_law_listed" "_law_listed" s_Llisted f fd) (T : Txt P w K mg ) (c_Ltake : Cal CX0 P w K mg base 1 "_law_take" sp_Ltake) :
    FnOk P w K mg base CX0 2 f fd ["_law_pool_here"] (sp_Llisted K) := by
  refine F.ok sc_Llisted (fun vs H Q E h => ?_) (fun cdv A outer s H vs Q E hr h => ?_)
  · obtain ⟨p, rfl, _⟩ := h
    rfl
  · obtain ⟨p, rfl, hp, q⟩ := h
    refine ⟨_, (pss_cons (ps_set (i := 1) sc_Llisted.nd rfl (Or.inl rfl) (pe_ix ix_list (pe_lst (pa_cons pe_int (pa_cons pe_int (pa_cons pe_int (pa_cons pe_int pa_nil))))) (pc_c c_Ltake hr (by decide) rfl pass0 (pa_cons (pv 0) (pa_cons pe_int pa_nil))) (fun _ _ => rfl)))
      (pss_cons (ps_set (i := 2) sc_Llisted.nd rfl (Or.inl rfl) (pe_ix ix_list (pe_lst (pa_cons pe_int (pa_cons pe_int (pa_cons pe_int (pa_cons pe_int pa_nil))))) (pc_c c_Ltake hr (by decide) rfl pass0 (pa_cons (pv 0) (pa_cons pe_int pa_nil))) (fun _ _ => rfl)))
      (pss_cons (ps_set (i := 3) sc_Llisted.nd rfl (Or.inl rfl) (pc_c c_Ltake hr (by decide) rfl pass0 (pa_cons (pv 0) (pa_cons pe_int pa_nil))))
      (pss_cons (ps_set (i := 4) sc_Llisted.nd rfl (Or.inl rfl) (pe_lst pa_nil))
      (pss_cons (ps_for PassesOwn.never rfl (pi_range1 (by rfl) T.n_range (pa_cons (pv 1) pa_nil)) (pg_name (i := 5) sc_Llisted.nd rfl (Or.inl rfl))
        (pss_one (ps_if (pt_cmpR op_eq (pc_c c_Ltake hr (by decide) rfl pass0 (pa_cons (pv 0) (pa_cons (pv 2) pa_nil))) pe_int (nomark _)) (pss_one (ps_if (pt_cmpR op_eq (pv 3) pe_int (nomark _)) (pss_one (ps_expr (pe_bm PySem.F.plainAttrs_list PySem.F.slot_list_append PySem.F.type_list_append mt_append (pv 4) (pa_cons (pv 5) pa_nil)))) (pss_one (ps_if (pt_cmpR op_eq (pv 3) pe_int (nomark _)) (pss_one (ps_expr (pe_bm PySem.F.plainAttrs_list PySem.F.slot_list_insert PySem.F.type_list_insert mt_insert (pv 4) (pa_cons pe_int (pa_cons (pv 5) pa_nil))))) (pss_one (ps_expr (pe_bm PySem.F.plainAttrs_list PySem.F.slot_list_insert PySem.F.type_list_insert mt_insert (pv 4) (pa_cons (pc_c c_Ltake hr (by decide) rfl pass0 (pa_cons (pv 0) (pa_cons (pe_op op_add (pe_callB call_len_seq (by rfl) T.n_len PySem.boot_len (pa_cons (pv 4) pa_nil)) pe_int) pa_nil))) (pa_cons (pv 5) pa_nil))))))))) pss_nil)))
      (pss_one (ps_ret (pv 4)))))))), ?_⟩
    refine ⟨(by show 4 ≤ sizeLine; decide), fun y hy => ?_⟩
    have sy := same_upd (o := .lst [.int 0, .int 76, .int 25, .int 8]) hy
    have ny := pool_ne hp hy
    refine ⟨_, rfl, p, 4, rfl, hp.same sy, by decide, by decide, fun H0 r0 k0 p0 e0 e1 => ?_⟩
    obtain ⟨tp, htp, etp⟩ := pick4 (a := 0) (b := 76) (c := 25) (d := 8) e0 e1
    refine ⟨y, _, _, _, rfl, rfl, SqL.of (k0 _ _ ny upd_same), htp, ?_⟩
    refine ⟨(by show 4 ≤ sizeLine; decide), fun z hz => ?_⟩
    have sz := same_upd (o := .lst [.int 1, .int 6, .int 3, .int 2]) hz
    have nz := pool_ne p0 hz
    refine ⟨_, rfl, p, 4, rfl, p0.same sz, by decide, by decide, fun H1 r1 k1 p1 a0 a1 => ?_⟩
    obtain ⟨th, hth, eth⟩ := pick4 (a := 1) (b := 6) (c := 3) (d := 2) a0 a1
    refine ⟨z, _, _, _, rfl, rfl, SqL.of (k1 _ _ nz upd_same), hth, ?_⟩
    refine ⟨_, rfl, p, 3, rfl, p1, by decide, by decide, fun H2 wy k2 p2 b0 b1 => ?_⟩
    refine ⟨Nat.zero_le _, fun D hD => ?_⟩
    have k02 : Kp p H H2 := (((Kp.of sy).trans k0).trans ((Kp.of sz).trans k1)).trans k2
    have nD := pool_ne p2 hD
    have hD0 := none_kp k02 nD hD
    have s0 : Same H2 (upd H2 D (.lst [])) := same_upd hD
    refine ⟨_, rfl, _, rfl, by omega, by omega, for_range (lo := 0) (n := tp.toNat) (fun i σ H' => ∃ (v5 : Option V) (ss : List Int), σ = [some (.ref p), some (.int tp), some (.int th), some (.int wy), some (.ref D), v5] ∧ Kp p H H' ∧ PoolAt H' p ∧ H' D = some (.lst (ss.map V.int)) ∧ ss.length ≤ i)
      ⟨none, [], rfl, k02.trans (Kp.of s0), p2.same s0, upd_same, Nat.zero_le _⟩ ?_ ?_⟩
    · rintro i σ H' hi ⟨v5, ss, rfl, k0, p0, hD1, hl0⟩
      refine ⟨_, rfl, _, rfl, p, th, rfl, p0, by omega, by omega, fun H3 r3 k3 p3 c0 c1 => ⟨rfl, _, rfl, ?_⟩⟩
      have hD3 := k3 _ _ nD hD1
      have sml : (ss.map V.int).length < sizeLine := small1000 (by rw [List.length_map]; omega)
      refine ite2 (fun _ => ?_) (fun _ => ⟨_, ss, rfl, k0.trans k3, p3, hD3, by omega⟩)
      refine ⟨_, rfl, rfl, _, rfl, ite2 (fun _ => ?_) (fun _ => ⟨_, rfl, rfl, _, rfl, ite2 (fun _ => ?_) (fun _ => ?_)⟩)⟩
      · refine ⟨_, rfl, .inl ⟨rfl, _, SqL.of hD3⟩, _, rfl, D, _, _, rfl, rfl, hD3, sml, ?_⟩
        exact ⟨_, ss ++ [0 + (i : Int)], rfl, kp_app (k0.trans k3) hD0, p3.kp Kp.upd nD.symm, by rw [upd_same, List.map_append] <;> rfl, by rw [List.length_append]; show ss.length + 1 ≤ _; omega⟩
      · refine ⟨_, rfl, .inl ⟨rfl, _, SqL.of hD3⟩, _, rfl, D, _, _, _, rfl, rfl, hD3, sml, by decide, by decide, ?_⟩
        exact ⟨_, (0 + (i : Int)) :: ss, rfl, kp_app (k0.trans k3) hD0, p3.kp Kp.upd nD.symm, by rw [upd_same]; rfl, by rw [List.length_cons]; omega⟩
      · refine ⟨_, rfl, .inl ⟨rfl, _, SqL.of hD3⟩, _, rfl, _, rfl, D, _, rfl, .inl (SqL.of hD3), _, _, rfl, rfl, p, _, rfl, p3, by omega, by rw [List.length_map]; omega, fun H4 r4 k4 p4 d0 d1 => ?_⟩
        have hD4 := k4 _ _ nD hD3
        rw [List.length_map] at d1
        refine ⟨_, rfl, D, _, _, _, rfl, rfl, hD4, sml, d0, by omega, ?_⟩
        refine ⟨_, ss.take r4.toNat ++ [0 + (i : Int)] ++ ss.drop r4.toNat, rfl, kp_app ((k0.trans k3).trans k4) hD0, p4.kp Kp.upd nD.symm, ?_, ?_⟩
        · rw [upd_same, List.map_append, List.map_append, List.map_take, List.map_drop]
          rfl
        · rw [List.length_append, List.length_append, List.length_take, List.length_drop]
          show min _ _ + 1 + _ ≤ _
          omega
    · rintro σ H' ⟨v5, ss, rfl, k0, p0, hD1, hl0⟩
      exact ⟨_, rfl, q _ D ss k0 p0 hD0 hD1 (by omega)⟩
theorem ok_law {f : Addr} {fd : FuncData} (F : Fun K "law" "law" s_law f fd) (T : Txt P w K mg ) (c_Lpool : Cal CX0 P w K mg base 1 "_law_pool" sp_Lpool) (c_Lcell : Cal CX0 P w K mg base 1 "_law_cell" (sp_Lcell K)) (c_Llot : Cal CX0 P w K mg base 3 "_law_lot" (sp_Llot K)) (c_Ltake : Cal CX0 P w K mg base 1 "_law_take" sp_Ltake) (c_Lday : Cal CX0 P w K mg base 2 "_law_day" (sp_Lday K)) (c_Llisted : Cal CX0 P w K mg base 2 "_law_listed" (sp_Llisted K)) (c_Lsame : Cal CX0 P w K mg base 4 "_law_same" (sp_Lsame K 3)) (c_demand : Cal CX0 P w K mg base 2 "demand" (sp_demand K)) (c_Lmust : Cal CX0 P w K mg base 1 "_law_must" (sp_Lmust K)) :
    FnOk P w K mg base CX0 5 f fd ["_law_script"] (sp_law K) := by
  refine F.ok sc_law (fun vs H Q E h => ?_) (fun cdv A outer s H vs Q E hr h => ?_)
  · obtain ⟨a, ns, rfl, _⟩ := h
    rfl
  · obtain ⟨a, ns, rfl, hS, hlen, q⟩ := h
    refine ⟨_, (pss_cons (ps_set (i := 1) sc_law.nd rfl (Or.inl rfl) (pc_c c_Lpool hr (by decide) rfl pass0 (pa_cons (pc_c c_Lcell hr (by decide) rfl pass0 (pa_cons (pv 0) (pa_cons pe_int pa_nil))) pa_nil)))
      (pss_cons (ps_set (i := 2) sc_law.nd rfl (Or.inl rfl) (pc_c c_Lpool hr (by decide) rfl pass0 (pa_cons (pc_c c_Lcell hr (by decide) rfl pass0 (pa_cons (pv 0) (pa_cons pe_int pa_nil))) pa_nil)))
      (pss_cons (ps_set (i := 3) sc_law.nd rfl (Or.inl rfl) (pc_c c_Llot hr (by decide) rfl pass0 (pa_cons (pv 1) (pa_cons pe_int pa_nil))))
      (C8.pss_cut (ps_if (pt_cmpR op_eq (pc_c c_Ltake hr (by decide) rfl pass0 (pa_cons (pv 2) (pa_cons pe_int pa_nil))) pe_int (nomark _)) (pss_one (ps_set (i := 3) sc_law.nd rfl (Or.inl rfl) (pc_c c_Lday hr (by decide) rfl pass0 (pa_cons (pv 1) (pa_cons pe_int (pa_cons pe_int (pa_cons pe_int pa_nil))))))) pss_nil)
      (pss_cons (ps_set (i := 4) sc_law.nd rfl (Or.inl rfl) (pc_c c_Llisted hr (by decide) rfl pass0 (pa_cons (pv 2) pa_nil)))
      (pss_cons (ps_set (i := 5) sc_law.nd rfl (Or.inl rfl) (pc_c c_Ltake hr (by decide) rfl pass0 (pa_cons (pv 2) (pa_cons pe_int pa_nil))))
      (C8.pss_cut (ps_for PassesOwn.never rfl (pi_range1 (by rfl) T.n_range (pa_cons pe_int pa_nil)) (pg_name (i := 6) sc_law.nd rfl (Or.inl rfl))
        (pss_cons (ps_if (pt_cmpR op_notIn_seq (pv 5) (pv 4) (by rfl)) (pss_one ps_break) pss_nil)
      (pss_one (ps_set (i := 5) sc_law.nd rfl (Or.inl rfl) (pe_op op_add (pv 5) pe_int)))))
      (pss_cons (ps_set (i := 7) sc_law.nd rfl (Or.inl rfl) (pe_callTy call_list_of (by rfl) T.n_list (by decide +kernel) (pa_cons (pv 3) pa_nil)))
      (pss_cons (ps_set (i := 8) sc_law.nd rfl (Or.inl rfl) (pe_callTy call_list_of (by rfl) T.n_list (by decide +kernel) (pa_cons (pv 4) pa_nil)))
      (pss_cons (ps_if (pt_not (pt_val (pc_c c_Lsame hr (by decide) rfl pass0 (pa_cons (pc_c c_demand hr (by decide) rfl pass0 (pa_cons (pv 7) (pa_cons (pv 8) pa_nil))) (pa_cons (pc_c c_Lmust hr (by decide) rfl pass0 (pa_cons (pv 3) (pa_cons (pv 4) pa_nil))) pa_nil))))) (pss_one (ps_ret pe_bl)) pss_nil)
      (pss_cons (ps_expr (pe_bm PySem.F.plainAttrs_list PySem.F.slot_list_insert PySem.F.type_list_insert mt_insert (pv 8) (pa_cons pe_int (pa_cons (pv 5) pa_nil))))
      (pss_cons (ps_if (pt_not (pt_val (pc_c c_Lsame hr (by decide) rfl pass0 (pa_cons (pc_c c_demand hr (by decide) rfl pass0 (pa_cons (pv 7) (pa_cons (pv 8) pa_nil))) (pa_cons (pc_c c_Lmust hr (by decide) rfl pass0 (pa_cons (pv 3) (pa_cons (pe_op op_cat (pe_lst (pa_cons (pv 5) pa_nil)) (pv 4)) pa_nil))) pa_nil))))) (pss_one (ps_ret pe_bl)) pss_nil)
      (pss_cons (ps_expr (pe_bm PySem.F.plainAttrs_list PySem.F.slot_list_pop PySem.F.type_list_pop mt_popAt (pv 8) (pa_cons pe_int pa_nil)))
      (C8.pss_cut (ps_if (pt_cmpR op_gt (pe_callB call_len_seq (by rfl) T.n_len PySem.boot_len (pa_cons (pv 7) pa_nil)) pe_int (nomark _)) (pss_one (ps_expr (pe_bm PySem.F.plainAttrs_list PySem.F.slot_list_pop PySem.F.type_list_pop mt_popAt (pv 7) (pa_cons pe_int pa_nil)))) pss_nil)
      (pss_cons (ps_if (pt_not (pt_val (pc_c c_Lsame hr (by decide) rfl pass0 (pa_cons (pc_c c_demand hr (by decide) rfl pass0 (pa_cons (pv 7) (pa_cons (pv 8) pa_nil))) (pa_cons (pc_c c_Lmust hr (by decide) rfl pass0 (pa_cons (pe_slice sl_list (pv 3) (po_some pe_int) po_none) (pa_cons (pv 4) pa_nil))) pa_nil))))) (pss_one (ps_ret pe_bl)) pss_nil)
      (pss_one (ps_ret (pe_and (pc_c c_Lsame hr (by decide) rfl pass0 (pa_cons (pv 7) (pa_cons (pe_slice sl_list (pv 3) (po_some pe_int) po_none) pa_nil))) (pe_one (pc_c c_Lsame hr (by decide) rfl pass0 (pa_cons (pv 8) (pa_cons (pv 4) pa_nil)))))))))))))))))))))), ?_⟩
    refine ⟨_, rfl, a, ns, 0, rfl, hS, fun c0 _ => ⟨c0, rfl, fun z0 Ha m0 u0 P0 => ?_⟩⟩
    refine ⟨_, rfl, a, ns, 1, rfl, u0.seq hS, fun c1 _ => ⟨c1, rfl, fun z1 Hb m1 u1 P1 => ?_⟩⟩
    have n10 := pool_ne P0 m1
    have P0b := P0.same u1
    refine ⟨_, rfl, z0, 8, rfl, by decide, P0b, fun H2 cl0 xs0 cs0 k2 P02 hcl00 hcl0 hcs0 hcn0 => ?_⟩
    have P12 := P1.kp k2 n10
    have ncl0 : cl0 ≠ z1 := pool_ne P1 hcl00
    refine ⟨fun σ' H' => ∃ (cl : Addr) (xs : List V) (cs : List Dc), σ' = [some (.ref a), some (.ref z0), some (.ref z1), some (.ref cl), none, none, none, none, none] ∧ PoolAt H' z1 ∧ cl ≠ z1 ∧ H' cl = some (.lst xs) ∧ Dcs K H' xs cs ∧ cs.length ≤ 100, ?_, ?_⟩
    · refine ⟨_, rfl, z1, 8, rfl, P12, by decide, by decide, fun H3 r3 k3 P13 _ _ => ⟨rfl, _, rfl, ?_⟩⟩
      refine ite2 (fun _ => ?_) (fun _ => ?_)
      · refine ⟨_, rfl, z0, 60, 60, 12, rfl, by decide, by decide, by decide, by decide, by decide, P02.kp k3 n10.symm, fun H4 cl xs cs k4 P04 hcl0 hcl hcs hcn => ?_⟩
        exact ⟨cl, xs, cs, rfl, P13.kp k4 n10, pool_ne P13 hcl0, hcl, hcs, by omega⟩
      · exact ⟨cl0, xs0, cs0, rfl, P13, ncl0, k3 _ _ ncl0 hcl0, dcsP hcs0 k3 P12, by omega⟩
    · clear P12 ncl0 hcl00 hcl0 hcs0 hcn0 P02 k2 P0b
      rintro σ' I0 ⟨cl, xs, cs, rfl, P1, ncl, hcl, hcs, hcz⟩
      have hlx := hcs.len
      refine ⟨_, rfl, z1, rfl, P1, fun I1 hl hs k1 P11 hl0 hhl hsz => ?_⟩
      have nhl := pool_ne P1 hl0
      replace hcl := k1 _ _ ncl hcl
      replace hcs := dcsP hcs k1 P1
      refine ⟨_, rfl, z1, 76, rfl, P11, by decide, by decide, fun I2 ex k2 P12 e0 e1 => ?_⟩
      replace hcl := k2 _ _ ncl hcl
      replace hcs := dcsP hcs k2 P11
      replace hhl := k2 _ _ nhl hhl
      refine ⟨fun σ' H' => H' = I2 ∧ ∃ (v6 : Option V) (ex : Int), σ' = [some (.ref a), some (.ref z0), some (.ref z1), some (.ref cl), some (.ref hl), some (.int ex), v6, none, none], ?_, ?_⟩
      · refine ⟨77, rfl, by decide, by decide, for_range (lo := 0) (n := 77) (fun i σ' H' => H' = I2 ∧ ∃ (v6 : Option V) (ex : Int), σ' = [some (.ref a), some (.ref z0), some (.ref z1), some (.ref cl), some (.ref hl), some (.int ex), v6, none, none])
          ⟨rfl, none, ex, rfl⟩ ?_ (fun σ H' h => h)⟩
        rintro i σ H' _ ⟨rfl, v6, ex, rfl⟩
        refine ⟨_, rfl, _, rfl, hl, _, rfl, .inl (SqL.of hhl), rfl, flat_ints _, _, rfl, iteB (fun _ => ?_) (fun _ => ?_)⟩
        · exact ⟨rfl, _, _, rfl⟩
        · exact ⟨_, rfl, _, _, rfl, rfl, rfl, _, _, rfl⟩
      · rintro σ' J ⟨rfl, v6, ex, rfl⟩
        refine ⟨_, rfl, cl, _, rfl, .inl (SqL.of hcl), fun pc hpc => ?_⟩
        have S1 := same_upd (o := .lst xs) hpc
        refine ⟨_, rfl, hl, _, rfl, .inl (SqL.of (S1 _ _ hhl)), fun ph hph => ?_⟩
        have S2 := same_upd (o := .lst (hs.map V.int)) hph
        have nph : pc ≠ ph := fun w => by rw [← w, upd_same] at hph; cases hph
        have ncp : cl ≠ ph := ne_of_none (S1 _ _ hcl) hph
        have ncc : cl ≠ pc := ne_of_none hcl hpc
        have nhp : hl ≠ ph := ne_of_none (S1 _ _ hhl) hph
        have nhc : hl ≠ pc := ne_of_none hhl hpc
        have S12 := S1.trans S2
        have hpc1 := S2 _ _ (upd_same (H := J) (a := pc) (o := .lst xs))
        have hph1 := upd_same (H := upd J pc (.lst xs)) (a := ph) (o := .lst (hs.map V.int))
        replace hcl := S12 _ _ hcl
        replace hcs := dcsS hcs S12
        replace hhl := S12 _ _ hhl
        generalize upd (upd J pc (.lst xs)) ph (.lst (hs.map V.int)) = G at *
        refine ⟨_, rfl, _, rfl, pc, ph, xs, cs, hs, rfl, SqL.of hpc1, hcs, by omega, SqL.of hph1, by omega, fun G1 s1 => ?_⟩
        refine ⟨_, rfl, _, rfl, cl, hl, xs, cs, hs, rfl, SqL.of (s1 _ _ hcl), dcsS hcs s1, by omega, SqL.of (s1 _ _ hhl), by omega, fun G2 s2' => ?_⟩
        have s2 := s1.trans s2'
        refine ⟨_, _, rfl, SameV.flat rfl, true, rfl, iteF ?_⟩
        replace hcl := s2 _ _ hcl
        replace hcs := dcsS hcs s2
        replace hhl := s2 _ _ hhl
        replace hpc1 := s2 _ _ hpc1
        replace hph1 := s2 _ _ hph1
        clear s1 s2' s2
        refine ⟨_, rfl, .inl ⟨rfl, _, SqL.of hph1⟩, _, rfl, ph, _, _, _, rfl, rfl, hph1, small1000 (by rw [List.length_map]; omega), by decide, by decide, ?_⟩
        have kk : Kp ph G2 (upd G2 ph (.lst ((ex :: hs).map V.int))) := Kp.upd
        replace hcs := dcsL hcs kk hph1
        replace hcl := kk _ _ ncp hcl
        replace hhl := kk _ _ nhp hhl
        replace hpc1 := kk _ _ nph hpc1
        replace hph1 := upd_same (H := G2) (a := ph) (o := .lst ((ex :: hs).map V.int))
        change tSeq _ _ _ _ (upd G2 ph (.lst ((ex :: hs).map V.int)))
        generalize upd G2 ph (.lst ((ex :: hs).map V.int)) = G3 at *
        clear kk
        refine ⟨_, rfl, _, rfl, pc, ph, xs, cs, ex :: hs, rfl, SqL.of hpc1, hcs, by omega, SqL.of hph1, by rw [List.length_cons]; omega, fun G4 s1 => ?_⟩
        refine ⟨_, rfl, _, rfl, (by show 1 ≤ sizeLine; decide), fun e he => ?_⟩
        have s2 := s1.trans (same_upd (o := .lst [.int ex]) he)
        refine ⟨_, rfl, e, hl, _, _, rfl, rfl, upd_same, s2 _ _ hhl, (by rw [List.length_map, sizeLine_eq]; show 1 + _ ≤ _; omega), fun f hf => ?_⟩
        have s3 := s2.trans (same_upd (o := .lst ([.int ex] ++ hs.map V.int)) hf)
        refine ⟨cl, f, xs, cs, ex :: hs, rfl, SqL.of (s3 _ _ hcl), dcsS hcs s3, by omega, SqL.of upd_same, by rw [List.length_cons]; omega, fun G5 s4' => ?_⟩
        have s4 := s3.trans s4'
        refine ⟨_, _, rfl, SameV.flat rfl, true, rfl, iteF ?_⟩
        replace hcl := s4 _ _ hcl
        replace hcs := dcsS hcs s4
        replace hhl := s4 _ _ hhl
        replace hpc1 := s4 _ _ hpc1
        replace hph1 := s4 _ _ hph1
        clear s1 s2 s3 s4' s4 he hf
        refine ⟨_, rfl, .inl ⟨rfl, _, SqL.of hph1⟩, ph, _, 0, 0, .int ex, rfl, rfl, hph1, by decide, by decide, seq_ix (by decide) (by rw [List.length_map, List.length_cons]; omega), rfl, ?_⟩
        have kk : Kp ph G5 (upd G5 ph (.lst (hs.map V.int))) := Kp.upd
        replace hcs := dcsL hcs kk hph1
        replace hcl := kk _ _ ncp hcl
        replace hhl := kk _ _ nhp hhl
        replace hpc1 := kk _ _ nph hpc1
        replace hph1 := upd_same (H := G5) (a := ph) (o := .lst (hs.map V.int))
        change tSeq _ _ _ _ (upd G5 ph (.lst (hs.map V.int)))
        generalize upd G5 ph (.lst (hs.map V.int)) = G6 at *
        clear kk
        refine ⟨fun σ' H' => σ' = [some (.ref a), some (.ref z0), some (.ref z1), some (.ref cl), some (.ref hl), some (.int ex), v6, some (.ref pc), some (.ref ph)] ∧ H' cl = some (.lst xs) ∧ Dcs K H' xs cs ∧ H' hl = some (.lst (hs.map V.int)) ∧ H' pc = some (.lst (xs.drop 1)) ∧ H' ph = some (.lst (hs.map V.int)), ?_, ?_⟩
        · refine ⟨_, rfl, pc, _, rfl, .inl (SqL.of hpc1), _, _, rfl, rfl, _, rfl, ite2 (fun h1 => ?_) (fun h1 => ?_)⟩
          · have h1' := of_decide_eq_true h1
            cases xs with
            | nil => exact absurd h1' (by decide)
            | cons x0 xs =>
              refine ⟨_, rfl, .inl ⟨rfl, _, SqL.of hpc1⟩, pc, _, 0, 0, x0, rfl, rfl, hpc1, by decide, by decide, seq_ix (by decide) (by rw [List.length_cons]; omega), rfl, ?_⟩
              have kk : Kp pc G6 (upd G6 pc (.lst xs)) := Kp.upd
              exact ⟨rfl, kk _ _ ncc hcl, dcsL hcs kk hpc1, kk _ _ nhc hhl, upd_same, kk _ _ nph.symm hph1⟩
          · have h1' : ¬ ((xs.length : Nat) : Int) > 0 := fun z => h1 (decide_eq_true z)
            cases xs with
            | nil => exact ⟨rfl, hcl, hcs, hhl, hpc1, hph1⟩
            | cons x0 xs => exact absurd (by rw [List.length_cons]; omega) h1'
        · clear hcl hcs hhl hpc1 hph1
          rintro σ' J0 ⟨rfl, hcl, hcs, hhl, hpc, hph⟩
          have hd := hcs.drop 1
          have hdl : (cs.drop 1).length ≤ 100 := by rw [List.length_drop]; omega
          refine ⟨_, rfl, _, rfl, pc, ph, _, _, hs, rfl, SqL.of hpc, hd, by omega, SqL.of hph, by omega, fun G1 s1 => ?_⟩
          refine ⟨_, rfl, _, rfl, cl, _, rfl, SqL.of (s1 _ _ hcl), fun u hu => ?_⟩
          have eu := cut_drop xs 1
          have s2 := s1.trans (same_upd (o := .lst (xs.drop 1)) hu)
          first | rw [eu] | rw [show (1 : Int) = ((1 : Nat) : Int) from rfl, eu]
          refine ⟨_, rfl, u, hl, _, _, hs, rfl, SqL.of upd_same, dcsS hd s2, by omega, SqL.of (s2 _ _ hhl), by omega, fun G2 s3' => ?_⟩
          have s3 := s2.trans s3'
          refine ⟨_, _, rfl, SameV.flat rfl, true, rfl, iteF ?_⟩
          refine ⟨_, rfl, _, rfl, _, rfl, cl, _, rfl, SqL.of (s3 _ _ hcl), fun u2 hu2 => ?_⟩
          first | rw [eu] | rw [show (1 : Int) = ((1 : Nat) : Int) from rfl, eu]
          have s4 := s3.trans (same_upd (o := .lst (xs.drop 1)) hu2)
          refine ⟨_, _, rfl, dcs_sameL (SqL.of (s4 _ _ hpc)) (SqL.of upd_same) (dcsS hd s4) (dcsS hd s4) (by omega), true, rfl, iteT ?_⟩
          exact ⟨_, rfl, _, rfl, _, _, rfl, same_ints (SqL.of (s4 _ _ hph)) (SqL.of (s4 _ _ hhl)) (by omega), q _⟩
end
theorem all_mk {l : PySem.W.OpenLaw} {w : World} {K : PySem.W.Frag} {h : Heap} {mg : Str → Option Value} {fa  : Addr} {f_ucar_demand : Addr} {od_ucar_demand an_ucar_demand : Option Addr} {sl_ucar_demand : Array (Option Value)} {oc_ucar_demand kV_ucar_demand dc_ucar_demand pm_ucar_demand cd_ucar_demand ct_ucar_demand : Value} {f_demand : Addr} {od_demand an_demand : Option Addr} {sl_demand : Array (Option Value)} {oc_demand kV_demand dc_demand pm_demand cd_demand ct_demand : Value} {f_Lcell : Addr} {od_Lcell an_Lcell : Option Addr} {sl_Lcell : Array (Option Value)} {oc_Lcell kV_Lcell dc_Lcell pm_Lcell cd_Lcell ct_Lcell : Value} {f_Lpool : Addr} {od_Lpool an_Lpool : Option Addr} {sl_Lpool : Array (Option Value)} {oc_Lpool kV_Lpool dc_Lpool pm_Lpool cd_Lpool ct_Lpool : Value} {f_Ltake : Addr} {od_Ltake an_Ltake : Option Addr} {sl_Ltake : Array (Option Value)} {oc_Ltake kV_Ltake dc_Ltake pm_Ltake cd_Ltake ct_Ltake : Value} {f_Lsame : Addr} {od_Lsame an_Lsame : Option Addr} {sl_Lsame : Array (Option Value)} {oc_Lsame kV_Lsame dc_Lsame pm_Lsame cd_Lsame ct_Lsame : Value} {f_Lday : Addr} {od_Lday an_Lday : Option Addr} {sl_Lday : Array (Option Value)} {oc_Lday kV_Lday dc_Lday pm_Lday cd_Lday ct_Lday : Value} {f_Llot : Addr} {od_Llot an_Llot : Option Addr} {sl_Llot : Array (Option Value)} {oc_Llot kV_Llot dc_Llot pm_Llot cd_Llot ct_Llot : Value} {f_Lmust : Addr} {od_Lmust an_Lmust : Option Addr} {sl_Lmust : Array (Option Value)} {oc_Lmust kV_Lmust dc_Lmust pm_Lmust cd_Lmust ct_Lmust : Value} {f_Llisted : Addr} {od_Llisted an_Llisted : Option Addr} {sl_Llisted : Array (Option Value)} {oc_Llisted kV_Llisted dc_Llisted pm_Llisted cd_Llisted ct_Llisted : Value} {f_law : Addr} {od_law an_law : Option Addr} {sl_law : Array (Option Value)} {oc_law kV_law dc_law pm_law cd_law ct_law : Value}
    (X : K.In h) (G : h.Ns mainGlobals mg) (hfa : mg "law" = some (.ref fa))
    (n_len : PySem.W.nsIn K mainGlobals "len" = some none)
    (n_max : PySem.W.nsIn K mainGlobals "max" = some none)
    (n_sum : PySem.W.nsIn K mainGlobals "sum" = some none)
    (n_int : PySem.W.nsIn K mainGlobals "int" = some none)
    (n_abs : PySem.W.nsIn K mainGlobals "abs" = some none)
    (n_isinstance : PySem.W.nsIn K mainGlobals "isinstance" = some none)
    (n_bool : PySem.W.nsIn K mainGlobals "bool" = some none)
    (n_str : PySem.W.nsIn K mainGlobals "str" = some none)
    (n_tuple : PySem.W.nsIn K mainGlobals "tuple" = some none)
    (n_list : PySem.W.nsIn K mainGlobals "list" = some none)
    (n_range : PySem.W.nsIn K mainGlobals "range" = some none)
    (a_ucar_demand : PySem.W.nsIn K mainGlobals "_car_demand" = some (some (.ref f_ucar_demand)))
    (l_ucar_demand : K.lookup f_ucar_demand = some ⟨oc_ucar_demand, od_ucar_demand, .func (PySem.W.fnOf "_car_demand" "_car_demand" (defArgs s_ucar_demand) (defBody s_ucar_demand) (defScope s_ucar_demand) .none kV_ucar_demand dc_ucar_demand pm_ucar_demand an_ucar_demand cd_ucar_demand ct_ucar_demand), sl_ucar_demand⟩)
    (q_ucar_demand : PySem.W.codeIn K cd_ucar_demand "_car_demand" = true)
    (k_ucar_demand : PySem.W.keepIn K (.ref f_ucar_demand) = true)
    (a_demand : PySem.W.nsIn K mainGlobals "demand" = some (some (.ref f_demand)))
    (l_demand : K.lookup f_demand = some ⟨oc_demand, od_demand, .func (PySem.W.fnOf "demand" "demand" (defArgs s_demand) (defBody s_demand) (defScope s_demand) .none kV_demand dc_demand pm_demand an_demand cd_demand ct_demand), sl_demand⟩)
    (q_demand : PySem.W.codeIn K cd_demand "demand" = true)
    (k_demand : PySem.W.keepIn K (.ref f_demand) = true)
    (a_Lcell : PySem.W.nsIn K mainGlobals "_law_cell" = some (some (.ref f_Lcell)))
    (l_Lcell : K.lookup f_Lcell = some ⟨oc_Lcell, od_Lcell, .func (PySem.W.fnOf "_law_cell" "_law_cell" (defArgs s_Lcell) (defBody s_Lcell) (defScope s_Lcell) .none kV_Lcell dc_Lcell pm_Lcell an_Lcell cd_Lcell ct_Lcell), sl_Lcell⟩)
    (q_Lcell : PySem.W.codeIn K cd_Lcell "_law_cell" = true)
    (k_Lcell : PySem.W.keepIn K (.ref f_Lcell) = true)
    (a_Lpool : PySem.W.nsIn K mainGlobals "_law_pool" = some (some (.ref f_Lpool)))
    (l_Lpool : K.lookup f_Lpool = some ⟨oc_Lpool, od_Lpool, .func (PySem.W.fnOf "_law_pool" "_law_pool" (defArgs s_Lpool) (defBody s_Lpool) (defScope s_Lpool) .none kV_Lpool dc_Lpool pm_Lpool an_Lpool cd_Lpool ct_Lpool), sl_Lpool⟩)
    (q_Lpool : PySem.W.codeIn K cd_Lpool "_law_pool" = true)
    (k_Lpool : PySem.W.keepIn K (.ref f_Lpool) = true)
    (a_Ltake : PySem.W.nsIn K mainGlobals "_law_take" = some (some (.ref f_Ltake)))
    (l_Ltake : K.lookup f_Ltake = some ⟨oc_Ltake, od_Ltake, .func (PySem.W.fnOf "_law_take" "_law_take" (defArgs s_Ltake) (defBody s_Ltake) (defScope s_Ltake) .none kV_Ltake dc_Ltake pm_Ltake an_Ltake cd_Ltake ct_Ltake), sl_Ltake⟩)
    (q_Ltake : PySem.W.codeIn K cd_Ltake "_law_take" = true)
    (k_Ltake : PySem.W.keepIn K (.ref f_Ltake) = true)
    (a_Lsame : PySem.W.nsIn K mainGlobals "_law_same" = some (some (.ref f_Lsame)))
    (l_Lsame : K.lookup f_Lsame = some ⟨oc_Lsame, od_Lsame, .func (PySem.W.fnOf "_law_same" "_law_same" (defArgs s_Lsame) (defBody s_Lsame) (defScope s_Lsame) .none kV_Lsame dc_Lsame pm_Lsame an_Lsame cd_Lsame ct_Lsame), sl_Lsame⟩)
    (q_Lsame : PySem.W.codeIn K cd_Lsame "_law_same" = true)
    (k_Lsame : PySem.W.keepIn K (.ref f_Lsame) = true)
    (a_Lday : PySem.W.nsIn K mainGlobals "_law_day" = some (some (.ref f_Lday)))
    (l_Lday : K.lookup f_Lday = some ⟨oc_Lday, od_Lday, .func (PySem.W.fnOf "_law_day" "_law_day" (defArgs s_Lday) (defBody s_Lday) (defScope s_Lday) .none kV_Lday dc_Lday pm_Lday an_Lday cd_Lday ct_Lday), sl_Lday⟩)
    (q_Lday : PySem.W.codeIn K cd_Lday "_law_day" = true)
    (k_Lday : PySem.W.keepIn K (.ref f_Lday) = true)
    (a_Llot : PySem.W.nsIn K mainGlobals "_law_lot" = some (some (.ref f_Llot)))
    (l_Llot : K.lookup f_Llot = some ⟨oc_Llot, od_Llot, .func (PySem.W.fnOf "_law_lot" "_law_lot" (defArgs s_Llot) (defBody s_Llot) (defScope s_Llot) .none kV_Llot dc_Llot pm_Llot an_Llot cd_Llot ct_Llot), sl_Llot⟩)
    (q_Llot : PySem.W.codeIn K cd_Llot "_law_lot" = true)
    (k_Llot : PySem.W.keepIn K (.ref f_Llot) = true)
    (a_Lmust : PySem.W.nsIn K mainGlobals "_law_must" = some (some (.ref f_Lmust)))
    (l_Lmust : K.lookup f_Lmust = some ⟨oc_Lmust, od_Lmust, .func (PySem.W.fnOf "_law_must" "_law_must" (defArgs s_Lmust) (defBody s_Lmust) (defScope s_Lmust) .none kV_Lmust dc_Lmust pm_Lmust an_Lmust cd_Lmust ct_Lmust), sl_Lmust⟩)
    (q_Lmust : PySem.W.codeIn K cd_Lmust "_law_must" = true)
    (k_Lmust : PySem.W.keepIn K (.ref f_Lmust) = true)
    (a_Llisted : PySem.W.nsIn K mainGlobals "_law_listed" = some (some (.ref f_Llisted)))
    (l_Llisted : K.lookup f_Llisted = some ⟨oc_Llisted, od_Llisted, .func (PySem.W.fnOf "_law_listed" "_law_listed" (defArgs s_Llisted) (defBody s_Llisted) (defScope s_Llisted) .none kV_Llisted dc_Llisted pm_Llisted an_Llisted cd_Llisted ct_Llisted), sl_Llisted⟩)
    (q_Llisted : PySem.W.codeIn K cd_Llisted "_law_listed" = true)
    (k_Llisted : PySem.W.keepIn K (.ref f_Llisted) = true)
    (a_law : PySem.W.nsIn K mainGlobals "law" = some (some (.ref f_law)))
    (l_law : K.lookup f_law = some ⟨oc_law, od_law, .func (PySem.W.fnOf "law" "law" (defArgs s_law) (defBody s_law) (defScope s_law) .none kV_law dc_law pm_law an_law cd_law ct_law), sl_law⟩)
    (q_law : PySem.W.codeIn K cd_law "law" = true)
    (k_law : PySem.W.keepIn K (.ref f_law) = true) :
    ∃ fd : FuncData, (∀ (s : Shared) (v : Value), BindsTo s fd ⟨[v], []⟩ [("_law_script", v)]) ∧ ∀ base : Heap, K.In base → base.Ns mainGlobals mg → FnOk l.prog w K mg base CX0 5 fa fd ["_law_script"] (sp_law K) := by
  have e := hfa.symm.trans (PySem.W.mg_of X G a_law)
  cases e
  have T : Txt l.prog w K mg  := ⟨PySem.W.mg_none_of X G n_len, PySem.W.mg_none_of X G n_max, PySem.W.mg_none_of X G n_sum, PySem.W.mg_none_of X G n_int, PySem.W.mg_none_of X G n_abs, PySem.W.mg_none_of X G n_isinstance, PySem.W.mg_none_of X G n_bool, PySem.W.mg_none_of X G n_str, PySem.W.mg_none_of X G n_tuple, PySem.W.mg_none_of X G n_list, PySem.W.mg_none_of X G n_range⟩
  have F_ucar_demand := fun_mk (st := s_ucar_demand) l_ucar_demand q_ucar_demand k_ucar_demand
  have b_ucar_demand := F_ucar_demand.binds (ps := ["car", "hours"]) fun _ _ _ _ _ _ us hl => match us, hl with | [_, _], _ => rfl
  have F_demand := fun_mk (st := s_demand) l_demand q_demand k_demand
  have b_demand := F_demand.binds (ps := ["cars", "hours"]) fun _ _ _ _ _ _ us hl => match us, hl with | [_, _], _ => rfl
  have F_Lcell := fun_mk (st := s_Lcell) l_Lcell q_Lcell k_Lcell
  have b_Lcell := F_Lcell.binds (ps := ["_law_script", "_law_at"]) fun _ _ _ _ _ _ us hl => match us, hl with | [_, _], _ => rfl
  have F_Lpool := fun_mk (st := s_Lpool) l_Lpool q_Lpool k_Lpool
  have b_Lpool := F_Lpool.binds (ps := ["_law_cell_here"]) fun _ _ _ _ _ _ us hl => match us, hl with | [_], _ => rfl
  have F_Ltake := fun_mk (st := s_Ltake) l_Ltake q_Ltake k_Ltake
  have b_Ltake := F_Ltake.binds (ps := ["_law_pool_here", "_law_many"]) fun _ _ _ _ _ _ us hl => match us, hl with | [_, _], _ => rfl
  have F_Lsame := fun_mk (st := s_Lsame) l_Lsame q_Lsame k_Lsame
  have b_Lsame := F_Lsame.binds (ps := ["_law_told", "_law_due"]) fun _ _ _ _ _ _ us hl => match us, hl with | [_, _], _ => rfl
  have F_Lday := fun_mk (st := s_Lday) l_Lday q_Lday k_Lday
  have b_Lday := F_Lday.binds (ps := ["_law_pool_here", "_law_many", "_law_latest", "_law_longest"]) fun _ _ _ _ _ _ us hl => match us, hl with | [_, _, _, _], _ => rfl
  have F_Llot := fun_mk (st := s_Llot) l_Llot q_Llot k_Llot
  have b_Llot := F_Llot.binds (ps := ["_law_pool_here", "_law_most"]) fun _ _ _ _ _ _ us hl => match us, hl with | [_, _], _ => rfl
  have F_Lmust := fun_mk (st := s_Lmust) l_Lmust q_Lmust k_Lmust
  have b_Lmust := F_Lmust.binds (ps := ["_law_cars", "_law_hours"]) fun _ _ _ _ _ _ us hl => match us, hl with | [_, _], _ => rfl
  have F_Llisted := fun_mk (st := s_Llisted) l_Llisted q_Llisted k_Llisted
  have b_Llisted := F_Llisted.binds (ps := ["_law_pool_here"]) fun _ _ _ _ _ _ us hl => match us, hl with | [_], _ => rfl
  refine ⟨PySem.W.fnOf "law" "law" (defArgs s_law) (defBody s_law) (defScope s_law) .none kV_law dc_law pm_law an_law cd_law ct_law, fun s v => .of_eq rfl, fun base _ _ => ?_⟩
  have c_ucar_demand := cal_mk (ok_ucar_demand (P := l.prog) (w := w) (base := base) F_ucar_demand T ) (PySem.W.mg_of X G a_ucar_demand) k_ucar_demand b_ucar_demand
  have c_demand := cal_mk (ok_demand (P := l.prog) (w := w) (base := base) F_demand T c_ucar_demand) (PySem.W.mg_of X G a_demand) k_demand b_demand
  have c_Lcell := cal_mk (ok_Lcell (P := l.prog) (w := w) (base := base) F_Lcell T ) (PySem.W.mg_of X G a_Lcell) k_Lcell b_Lcell
  have c_Lpool := cal_mk (ok_Lpool (P := l.prog) (w := w) (base := base) F_Lpool T ) (PySem.W.mg_of X G a_Lpool) k_Lpool b_Lpool
  have c_Ltake := cal_mk (ok_Ltake (P := l.prog) (w := w) (base := base) F_Ltake T ) (PySem.W.mg_of X G a_Ltake) k_Ltake b_Ltake
  have c_Lsame := cal_mk (ok_Lsame (P := l.prog) (w := w) (base := base) F_Lsame T (PySem.W.mg_of X G a_Lsame) k_Lsame b_Lsame 3) (PySem.W.mg_of X G a_Lsame) k_Lsame b_Lsame
  have c_Lday := cal_mk (ok_Lday (P := l.prog) (w := w) (base := base) F_Lday T c_Ltake) (PySem.W.mg_of X G a_Lday) k_Lday b_Lday
  have c_Llot := cal_mk (ok_Llot (P := l.prog) (w := w) (base := base) F_Llot T c_Ltake c_Lday) (PySem.W.mg_of X G a_Llot) k_Llot b_Llot
  have c_Lmust := cal_mk (ok_Lmust (P := l.prog) (w := w) (base := base) F_Lmust T ) (PySem.W.mg_of X G a_Lmust) k_Lmust b_Lmust
  have c_Llisted := cal_mk (ok_Llisted (P := l.prog) (w := w) (base := base) F_Llisted T c_Ltake) (PySem.W.mg_of X G a_Llisted) k_Llisted b_Llisted
  exact ok_law (fun_mk (st := s_law) l_law q_law k_law) T c_Lpool c_Lcell c_Llot c_Ltake c_Lday c_Llisted c_Lsame c_demand c_Lmust

theorem walk {l : PySem.W.OpenLaw} {q : Program} {loose : List Str} {XP : (Str → Option Value) → Heap → Prop} {YP : World → Heap → Prop} {d : DefRec} {K : Params → PySem.W.Frag} (hn : l.most = some 63) (hdf : d.params.defaults = [])
    (hY : ∀ (w : World) (h : Heap), YP w h → (K w.params).In h)
    (F : ∀ (w : World) (mg : Str → Option Value) (fa : Addr) (h : Heap), (K w.params).In h → h.Ns mainGlobals mg → mg d.name = some (.ref fa) →
      ∃ fd : FuncData, (∀ (s : Shared) (u : Value), BindsTo s fd ⟨[u], []⟩ [("_law_script", u)]) ∧ ∀ base : Heap, (K w.params).In base → base.Ns mainGlobals mg → FnOk l.prog w (K w.params) mg base CX0 5 fa fd ["_law_script"] (sp_law (K w.params))) :
    PySem.W.WalkO q loose XP YP l.row.toRowW d [] (fun f vs => PySem.call f vs) :=
  L2.walk_of (n := 63) (k := 5) (x := "_law_script") (CX := fun _ => CX0) (sp := fun w => sp_law (K w.params)) hn (by decide) hdf ⟨rfl, by decide, by decide⟩ hY F (fun _ _ a ns hl _ hS => ⟨a, ns, rfl, hS, hl, fun _ => rfl⟩) fun _ _ _ _ _ z => z
end My

open PySem PySem.W PyProof.Rows in
set_option maxRecDepth 100000 in
set_option maxHeartbeats 0 in
theorem PySem.Challenge.cw_onecable_k20_demand_of_hours_holds : PySem.Challenge.rw_onecable_k20_demand_of_hours.Holds := by
  w_on; o_law; k_head; (case hw => w_witness2)
  k_fill
  refine My.walk (l := PySem.Challenge.rw_onecable_k20_demand_of_hours) rfl rfl (fun w h Y => PySem.W.kIn_of Y) ?F
  case F =>
    intro w mg fa h KX G hmg
    refine' My.all_mk KX G hmg ?n_len ?n_max ?n_sum ?n_int ?n_abs ?n_isinstance ?n_bool ?n_str ?n_tuple ?n_list ?n_range ?a_ucar_demand ?l_ucar_demand ?q_ucar_demand ?k_ucar_demand ?a_demand ?l_demand ?q_demand ?k_demand ?a_Lcell ?l_Lcell ?q_Lcell ?k_Lcell ?a_Lpool ?l_Lpool ?q_Lpool ?k_Lpool ?a_Ltake ?l_Ltake ?q_Ltake ?k_Ltake ?a_Lsame ?l_Lsame ?q_Lsame ?k_Lsame ?a_Lday ?l_Lday ?q_Lday ?k_Lday ?a_Llot ?l_Llot ?q_Llot ?k_Llot ?a_Lmust ?l_Lmust ?q_Lmust ?k_Lmust ?a_Llisted ?l_Llisted ?q_Llisted ?k_Llisted ?a_law ?l_law ?q_law ?k_law
    (case n_len => k_is)
    (case n_max => k_is)
    (case n_sum => k_is)
    (case n_int => k_is)
    (case n_abs => k_is)
    (case n_isinstance => k_is)
    (case n_bool => k_is)
    (case n_str => k_is)
    (case n_tuple => k_is)
    (case n_list => k_is)
    (case n_range => k_is)
    (case a_ucar_demand => k_is)
    (case l_ucar_demand => k_is)
    (case q_ucar_demand => k_is)
    (case k_ucar_demand => k_is)
    (case a_demand => k_is)
    (case l_demand => k_is)
    (case q_demand => k_is)
    (case k_demand => k_is)
    (case a_Lcell => k_is)
    (case l_Lcell => k_is)
    (case q_Lcell => k_is)
    (case k_Lcell => k_is)
    (case a_Lpool => k_is)
    (case l_Lpool => k_is)
    (case q_Lpool => k_is)
    (case k_Lpool => k_is)
    (case a_Ltake => k_is)
    (case l_Ltake => k_is)
    (case q_Ltake => k_is)
    (case k_Ltake => k_is)
    (case a_Lsame => k_is)
    (case l_Lsame => k_is)
    (case q_Lsame => k_is)
    (case k_Lsame => k_is)
    (case a_Lday => k_is)
    (case l_Lday => k_is)
    (case q_Lday => k_is)
    (case k_Lday => k_is)
    (case a_Llot => k_is)
    (case l_Llot => k_is)
    (case q_Llot => k_is)
    (case k_Llot => k_is)
    (case a_Lmust => k_is)
    (case l_Lmust => k_is)
    (case q_Lmust => k_is)
    (case k_Lmust => k_is)
    (case a_Llisted => k_is)
    (case l_Llisted => k_is)
    (case q_Llisted => k_is)
    (case k_Llisted => k_is)
    (case a_law => k_is)
    (case l_law => k_is)
    (case q_law => k_is)
    (case k_law => k_is)

