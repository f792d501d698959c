import PyProof.Rows.All
import Wide.All
import OpenK.AllK
import Wide.FinOn
import HandS.ForMost
import HandS.Exc
import HandS.TryOnly
import HandS.ExcOwn
import HandS.WordsExc
import HandS.Wide
import HandS.Codes
import HandS.IsInst
import HandS.ExcIs
import HandS.More
import HandS.Star
import KE.RegKIsAll
import HandS.OwnEq
import KE.GoesEnum
import HandS.Zip
import HandS.Style
import HandS.NamedTupSort
import HandS.Set
import PySem.Challenge.RW_onecable_k25_serve_one_hour
set_option Elab.async false
set_option maxRecDepth 100000
set_option maxHeartbeats 4000000
set_option linter.all false
namespace My
open PySem PySem.Spec PyProof.Rows L2
/-! ### callables of the text: a def by its name, a method, a class -/
structure Cal (CX : CXT) (P : Program) (w : World) (K : PySem.W.Frag) (mg : Str → Option Value) (base : Heap) (k : Nat) (x : Str) (sp : Sp) : Prop where
  ex : ∃ (f : Addr) (fd : FuncData) (ps : List Str), FnOk P w K mg base CX k f fd ps sp ∧ mg x = some (.ref f) ∧ PySem.W.keepIn K (.ref f) = true ∧ Binds K fd ps []
structure Met (CX : CXT) (P : Program) (w : World) (K : PySem.W.Frag) (mg : Str → Option Value) (base : Heap) (k : Nat) (C : Addr) (m : Str) (sp : Sp) : Prop where
  ex : ∃ (f : Addr) (fd : FuncData) (ps : List Str), Cls K C ∧ Meth K C m f ∧ FnOk P w K mg base CX k f fd ps sp ∧ Binds K fd ps []
  fi : ∀ f, PySem.W.findIn K (.ref C) m = some (some (.ref f)) → PySem.W.fnIn K f = true
structure Mak (CX : CXT) (P : Program) (w : World) (K : PySem.W.Frag) (mg : Str → Option Value) (base : Heap) (k : Nat) (x : Str) (C : Addr) (sp : Sp) : Prop where
  ex : ∃ (f : Addr) (fd : FuncData) (ps : List Str), Mk K C f ∧ FnOk P w K mg base CX k f fd ps sp ∧ mg x = some (.ref C) ∧ Binds K fd ps []
section
variable {CX : CXT} {P : Program} {w : World} {K : PySem.W.Frag} {mg : Str → Option Value} {base : Heap} {k : Nat} {x m : Str} {f C : Addr} {fd : FuncData} {ps : List Str} {sp : Sp}
theorem cal_mk (F : FnOk P w K mg base CX k f fd ps sp) (m : mg x = some (.ref f)) (kp : PySem.W.keepIn K (.ref f) = true) (b : Binds K fd ps []) : Cal CX P w K mg base k x sp := ⟨f, fd, ps, F, m, kp, b⟩
theorem met_mk (F : FnOk P w K mg base CX k f fd ps sp) (c : Cls K C) (me : Meth K C m f) (b : Binds K fd ps []) (fi : PySem.W.fnIn K f = true) : Met CX P w K mg base k C m sp := ⟨⟨f, fd, ps, c, me, F, b⟩, fun g h => by
  have z := me.at_.symm.trans h
  cases z
  exact fi⟩
theorem fn_in {oc : Value} {od : Option Addr} {fdx : FuncData} {sl : Array (Option Value)} (l : K.lookup f = some ⟨oc, od, .func fdx, sl⟩) : PySem.W.fnIn K f = true := by
  unfold PySem.W.fnIn
  rw [l]
theorem mak_mk (F : FnOk P w K mg base CX k f fd ps sp) (m : mg x = some (.ref C)) (M : Mk K C f) (b : Binds K fd ps []) : Mak CX P w K mg base k x C sp := ⟨f, fd, ps, M, F, m, b⟩
end
section
variable {X : Cx} {CX : CXT} {k j : Nat} {C : Addr} {x m : Str} {sp : Sp} {E : XK} {p pos apos : Pos} {e o : Expr} {es : List Expr} {ta : TE} {t : TA}
theorem pc_c (c : Cal CX X.prog X.w X.K X.mg X.base k x sp) (hr : Room j X.A) (hk : k ≤ j) (hg : Gl X x) (hx : Passes CX X E) (ha : PA X (e :: es) t)
    (hdb : (x == ("__debug__" : Str)) = false := by decide) (he : starEach (e :: es) X.env = (false, eval e X.env) :: starEach es X.env := by rfl) (hpl : (backTo pos (starEach es X.env)).any (·.1) = false := by rfl) :
    PE X (.Call (.Name x p) (e :: es) [] pos) (tCall sp [] E t) := by
  obtain ⟨f, fd, ps, F, hm, kp, b⟩ := c.ex
  exact pe_call F (hr.mono hk) hg hm kp b .nil hx ha hdb he hpl
theorem pc_cS {E : L2.St → XK} (c : Cal CX X.prog X.w X.K X.mg X.base k x sp) (hr : Room j X.A) (hk : k ≤ j) (hg : Gl X x) (hx : ∀ σ, PassesAt CX X σ (E σ)) (ha : PA X (e :: es) t)
    (hdb : (x == ("__debug__" : Str)) = false := by decide) (he : starEach (e :: es) X.env = (false, eval e X.env) :: starEach es X.env := by rfl) (hpl : (backTo pos (starEach es X.env)).any (·.1) = false := by rfl) :
    PE X (.Call (.Name x p) (e :: es) [] pos) (tCallS sp E t) := by
  obtain ⟨f, fd, ps, F, hm, kp, b⟩ := c.ex
  exact pe_callS F (hr.mono hk) hg hm kp b hx ha hdb he hpl
theorem pc_mk (c : Mak CX X.prog X.w X.K X.mg X.base k x C sp) (hr : Room j X.A) (hk : k + 1 ≤ j) (hg : Gl X x) (hx : Passes CX X E) (ha : PA X (e :: es) t)
    (hdb : (x == ("__debug__" : Str)) = false := by decide) (he : starEach (e :: es) X.env = (false, eval e X.env) :: starEach es X.env := by rfl) (hpl : (backTo pos (starEach es X.env)).any (·.1) = false := by rfl) :
    PE X (.Call (.Name x p) (e :: es) [] pos) (tMake C sp [] E t) := by
  obtain ⟨f, fd, ps, M, F, hm, b⟩ := c.ex
  exact pe_make M F (hr.mono hk) hg hm b .nil hx ha hdb he hpl
/-- a class made where a try stands around: what is raised is wished for at the slots -/
def tMakeS (C : Addr) (sp : Sp) (E : L2.St → XK) (t : TA) : TE := fun σ H Q => t σ H fun vs H1 => ∀ x dx, H1 x = none → H1 dx = none → dx ≠ x →
  sp (.ref x :: (vs ++ [])) (upd (upd H1 dx (.own x)) x (.ins C dx [])) (fun v H2 => v = .non ∧ Q (.ref x) H2) (E σ)
theorem run_mkS {f : Addr} {fd : FuncData} {ps : List Str} {ds : List Value} {dvs : List V} {pins : List (Addr × Obj)} {σ : L2.St} {H : Hp} {s : Shared} {Q : VK} {us : List Value} {vs : List V} (M : Mk X.K C f) (F : FnOk X.prog X.w X.K X.mg X.base CX k f fd ps sp) (hr : Room (k + 1) X.A) (hb : Binds X.K fd ps ds) (hd : Vals dvs ds)
    (hx : PassesAt CX X σ E) (I : Inv X pins σ H s) (r : Vals vs us)
    (h : ∀ x dx, H x = none → H dx = none → dx ≠ x → sp (.ref x :: (vs ++ dvs)) (upd (upd H dx (.own x)) x (.ins C dx [])) (fun v H2 => v = .non ∧ Q (.ref x) H2) E) :
    wpAny (model X.prog X.w) X.A (call (.ref C) us) (EP X pins σ Q) X.xe s := by
  have hq := h (s.heap.objs.size + 1) s.heap.objs.size (I.hok.fresh (Nat.le_succ _)) (I.hok.fresh (Nat.le_refl _)) (Nat.ne_of_lt (Nat.lt_succ_self _))
  have I2 := Inv.made (C := C) I
  have r2 : Vals (V.ref (s.heap.objs.size + 1) :: (vs ++ dvs)) (Value.ref (s.heap.objs.size + 1) :: (us ++ ds)) := .cons rfl (r.append hd)
  have hl : (Value.ref (s.heap.objs.size + 1) :: us ++ ds).length = ps.length := by
    have e := r2.length
    rw [F.len _ _ _ _ hq] at e
    exact e.symm
  refine wpAny_call (make_map (f := f) I.kIn M.makes M.init (beq_iff_eq.mp M.fn) (codeAny_mono (F.run _ X.stack _ _ ⟨Value.ref (s.heap.objs.size + 1) :: us, []⟩ (Value.ref (s.heap.objs.size + 1) :: (us ++ ds)) _ _ E (hr.make C us [])
    (I2.env0.make C us []) (hb _ (Value.ref (s.heap.objs.size + 1) :: us) I2.kIn hl) r2 hq) fun r s' hq' => ?_))
  cases r with
  | error e => exact hx pins _ _ e s' I2 hq'
  | ok fl =>
    cases fl with
    | ret u =>
      obtain ⟨v, H', I3, rv, ev, q3⟩ := I2.after hq'
      subst ev
      exact ⟨rv, ⟨V.ref (s.heap.objs.size + 1), H', I3, rfl, q3⟩⟩
    | next => exact False.elim hq'
    | brk => exact False.elim hq'
    | cont => exact False.elim hq'
theorem pc_mkS {E : L2.St → XK} (c : Mak CX X.prog X.w X.K X.mg X.base k x C sp) (hr : Room j X.A) (hk : k + 1 ≤ j) (hg : Gl X x) (hx : ∀ σ, PassesAt CX X σ (E σ)) (ha : PA X (e :: es) t)
    (hdb : (x == ("__debug__" : Str)) = false := by decide) (he : starEach (e :: es) X.env = (false, eval e X.env) :: starEach es X.env := by rfl) (hpl : (backTo pos (starEach es X.env)).any (·.1) = false := by rfl) :
    PE X (.Call (.Name x p) (e :: es) [] pos) (tMakeS C sp E t) := by
  obtain ⟨f, fd, ps, M, F, hm, b⟩ := c.ex
  refine ⟨fun pins s σ H Q I h => ?_⟩
  refine wpAny_Call_Name_kw (ld_glob I hg hm ?_ hdb)
  refine PySem.W.callWith_K (h₀ := X.base) I.ok.mod.kin M.kp (thn (ha.run pos pins s σ H _ I h) fun us s1 ⟨vs, H1, I1, r, q⟩ => ⟨I1.kIn, ?_⟩) he hpl
  exact run_mkS M F (hr.mono hk) b .nil (hx σ) I1 r q
theorem pc_mt {pl : Sem Bool} (c : Met CX X.prog X.w X.K X.mg X.base k C m sp) (hr : Room j X.A) (hk : k ≤ j) (hx : Passes CX X E) (he : PE X o ta) (ha : PA X (e :: es) t)
    (hst : starEach (e :: es) X.env = (false, eval e X.env) :: starEach es X.env := by rfl) (hpl : (backTo pos (starEach es X.env)).any (·.1) = false := by rfl)
    (ht : eval (.Call (.Attribute o m apos) (e :: es) [] pos) X.env = (do
      let ov ← eval o X.env
      standAt apos.atName
      let (f, first) ← holding [ov] (getMethod ov m pl)
      callWith pos f first (backTo pos (starEach (e :: es) X.env)) (backToKw pos (keywordEach [] X.env))) := by rfl) :
    PE X (.Call (.Attribute o m apos) (e :: es) [] pos) (tMeth C m sp [] E ta t) := by
  obtain ⟨f, fd, ps, hc, hm, F, b⟩ := c.ex
  exact pe_meth (pl := pl) he hc hm F (hr.mono hk) b .nil hx ha hst hpl ht
theorem pc_mt0 {pl : Sem Bool} (c : Met CX X.prog X.w X.K X.mg X.base k C m sp) (hr : Room j X.A) (hk : k ≤ j) (hx : Passes CX X E) (he : PE X o ta)
    (ht : eval (.Call (.Attribute o m apos) [] [] pos) X.env = (do
      let ov ← eval o X.env
      standAt apos.atName
      let (f, first) ← holding [ov] (getMethod ov m pl)
      callWith pos f first (backTo pos (starEach [] X.env)) (backToKw pos (keywordEach [] X.env))) := by rfl) :
    PE X (.Call (.Attribute o m apos) [] [] pos) (tMeth C m sp [] E ta tNil) := by
  obtain ⟨f, fd, ps, hc, hm, F, b⟩ := c.ex
  exact pe_meth0 (pl := pl) he hc hm F (hr.mono hk) b .nil hx ht
/-! ### further operators -/
/-- * : one factor small, or both below a million bits together -/
def CMulA (i j : Int) : Prop := CMul i j ∨ CMulW i j
theorem op_mulA : OpR X (binaryOp .Mult) (rI CMulA fun i j => .int (i * j)) := opI fun _ _ _ _ _ _ _ hc q => mul_int q (hc.elim CMul.ok CMulW.ok)
/-- // by any divisor but 0 that is no giant -/
def CDivA (_ j : Int) : Prop := j ≠ 0 ∧ j.natAbs.log2 < 9000
theorem op_fdivA : OpR X (binaryOp .FloorDiv) (rI CDivA fun i j => .int (i.fdiv j)) := opI fun _ _ _ _ _ _ _ hc q => floordiv_int hc.1 q (.inl (PyProof.noPylong_of_log2 hc.2))
theorem divA {i j : Int} {b : Nat} (h : j ≠ 0) (hb : j.natAbs < 2 ^ b) (h0 : 0 < b) (h9 : b ≤ 9000) : CDivA i j := ⟨h, Nat.lt_of_lt_of_le (PySem.Flt.log2_lt_of h0 hb) h9⟩
end
/-! ### heaps: all but what stands at p is kept -/
def Kp (p : Addr) (H H' : Hp) : Prop := ∀ b o, b ≠ p → H b = some o → H' b = some o
theorem Kp.refl {p : Addr} {H : Hp} : Kp p H H := fun _ _ _ h => h
theorem Kp.trans {p : Addr} {H H1 H2 : Hp} (a : Kp p H H1) (b : Kp p H1 H2) : Kp p H H2 := fun c o n h => b c o n (a c o n h)
theorem Kp.upd {p : Addr} {H : Hp} {o : HO} : Kp p H (upd H p o) := fun _ _ n h => by rw [upd_ne n]; exact h
theorem Kp.same {p : Addr} {H0 H H' : Hp} (s : Same H0 H) (k : Kp p H H') (n : H0 p = none) : Same H0 H' := fun b o h => k b o (fun e => by rw [e, n] at h; cases h) (s b o h)
theorem same_upd {H : Hp} {p : Addr} {o : HO} (n : H p = none) : Same H (upd H p o) := fun b u h => by rw [upd_ne (ne_of_none h n)]; exact h
theorem Same.of (H : Hp) : Same H H := fun _ _ h => h
/-- isinstance(e, c), e the exception that the suite holds; its class and its dict are told in the reading -/
theorem call_isE2 {X : Cx} {a D : Addr} {oe : Obj} {cls : Value} {d : Option Addr} {pn : List (Addr × Obj)} (C : ExcC X.K D) (hz : Zc cls d oe) (hf : ∃ vs, oe.data = .fields vs) :
    CallR (X.suite a ((a, oe) :: pn)) (.builtin "isinstance") (fun xs H Q => cls = .ref D ∧ d = none ∧ rIsE X.K D a xs H Q) := by
  intro pins s σ H xs us Q I r h
  obtain ⟨rfl, rfl, h⟩ := h
  exact call_isE C hz hf pins s σ H xs us Q I r h
/-- an error of the class at S is what «except S» names -/
theorem exm_self {K : PySem.W.Frag} {S : Addr} (h1 : PySem.W.subIn K (.ref S) (.type "BaseException") = some true) (h2 : PySem.W.isClsIn K S = true) (h3 : PySem.W.typeIn K (.ref S) = some (.type "type")) (h4 : PySem.W.subIn K (.ref S) (.ref S) = some true) :
    PySem.W.exmOne K (.ref S) (.ref S) = some true := by
  have e1 : (PySem.W.subIn K (.ref S) (.type "BaseException") == some true) = true := by rw [h1] <;> rfl
  have e2 : ((PySem.W.clsIn K S).isSome && PySem.W.typeIn K (.ref S) == some (.type "type")) = true := by
    have h2' : (PySem.W.clsIn K S).isSome = true := h2
    rw [h2', h3] <;> rfl
  show (if (PySem.W.subIn K (.ref S) (.type "BaseException") == some true) = true then (if ((PySem.W.clsIn K S).isSome && PySem.W.typeIn K (.ref S) == some (.type "type")) = true then PySem.W.subIn K (.ref S) (.ref S) else none) else none) = some true
  rw [if_pos e1, if_pos e2]
  exact h4
/-- x is True, x is False: whatever x is -/
theorem op_isB {X : Cx} : OpR X (compareOp .Is) (fun x y H Q => ∃ b, y = .bl b ∧ Q (.bl (decide (x = .bl b))) H) := by
  intro pins s σ H x y v u Q I rx ry h
  obtain ⟨b, rfl, q⟩ := h
  cases (show u = Value.bool b from ry)
  have fin : ∀ k : Bool, decide (x = .bl b) = k → EP X pins σ Q (.bool k) s := fun k e => ⟨.bl k, H, I, rfl, by rw [← e]; exact q⟩
  cases x with
  | non => cases (show v = Value.none from rx); exact wpAny_pure (fin _ (by simp))
  | bl c =>
    cases (show v = Value.bool c from rx)
    refine wpAny_pure (fin _ ?_)
    by_cases e : c = b
    · subst e; simp
    · simp [e]
  | int i => obtain ⟨t, e⟩ := (show ∃ t, v = Value.int i t from rx); subst e; exact wpAny_pure (fin _ (by simp))
  | str i => obtain ⟨t, e⟩ := (show ∃ t, v = Value.str i t from rx); subst e; exact wpAny_pure (fin _ (by simp))
  | byt i => obtain ⟨t, e⟩ := (show ∃ t, v = Value.bytes i t from rx); subst e; exact wpAny_pure (fin _ (by simp))
  | flt i => obtain ⟨t, e⟩ := (show ∃ t, v = Value.float i t from rx); subst e; exact wpAny_pure (fin _ (by simp))
  | ref a => cases (show v = Value.ref a from rx); exact wpAny_pure (fin _ (by simp))
  | ty n => cases (show v = Value.type n from rx); exact wpAny_pure (fin _ (by simp))
theorem iteDT {p A B : Prop} [Decidable p] (hp : p) (h : A) : if decide p = true then A else B := by
  rw [decide_eq_true hp]
  exact iteT h
theorem iteDF {p A B : Prop} [Decidable p] (hp : ¬ p) (h : B) : if decide p = true then A else B := by
  rw [decide_eq_false hp]
  exact iteF h
/-! ### a law's cells and pools: what is promised of them -/
def PoolAt (H : Hp) (p : Addr) : Prop := ∃ x y z : Int, H p = some (.lst [.int x, .int y, .int z])
theorem PoolAt.kp {H H' : Hp} {p q : Addr} (h : PoolAt H p) (k : Kp q H H') (n : p ≠ q) : PoolAt H' p := by
  obtain ⟨x, y, z, e⟩ := h
  exact ⟨x, y, z, k _ _ n e⟩
theorem PoolAt.same {H H' : Hp} {p : Addr} (h : PoolAt H p) (k : Same H H') : PoolAt H' p := by
  obtain ⟨x, y, z, e⟩ := h
  exact ⟨x, y, z, k _ _ e⟩
theorem at0 {α : Type} {a b c : α} : atI [a, b, c] (0 : Int) = some a := rfl
theorem at1 {α : Type} {a b c : α} : atI [a, b, c] (1 : Int) = some b := rfl
theorem at2 {α : Type} {a b c : α} : atI [a, b, c] (2 : Int) = some c := rfl
def sp_Lcell (K : PySem.W.Frag) : Sp := fun vs H Q _ => ∃ (l : Addr) (ns : List Int) (j : Nat), vs = [.ref l, .int (j : Int)] ∧ SqL K H l (ns.map V.int) ∧ ∀ c : Int, 0 ≤ c → Q (.int c) H
def sp_Lpool : Sp := fun vs H Q _ => ∃ c : Int, vs = [.int c] ∧ ∀ (p : Addr) (H' : Hp), H p = none → Same H H' → PoolAt H' p → Q (.ref p) H'
def sp_Ltake : Sp := fun vs H Q _ => ∃ (p : Addr) (many : Int), vs = [.ref p, .int many] ∧ PoolAt H p ∧ 0 < many ∧ many.natAbs < 2 ^ 300 ∧
  ∀ (H' : Hp) (r : Int), Kp p H H' → PoolAt H' p → 0 ≤ r → r < many → Q (.int r) H'
/-! ### told and due are the same data -/
def Pairs (R : V → V → Prop) (xs ys : List V) : Prop := xs.length = ys.length ∧ ∀ (i : Nat) (x y : V), xs[i]? = some x → ys[i]? = some y → R x y
def flatD : V → Bool
  | .non => true
  | .bl _ => true
  | .int _ => true
  | .str _ => true
  | _ => false
def SameV (K : PySem.W.Frag) (H : Hp) : Nat → V → V → Prop
  | 0, x, y => flatD x = true ∧ x = y
  | n + 1, x, y => (flatD x = true ∧ x = y) ∨
      (∃ (a b : Addr) (xs ys : List V), x = .ref a ∧ y = .ref b ∧ SqL K H a xs ∧ SqL K H b ys ∧ xs.length ≤ sizeLine ∧ Pairs (SameV K H n) xs ys) ∨
      (∃ (a b : Addr) (xs ys : List V), x = .ref a ∧ y = .ref b ∧ SqT K H a xs ∧ SqT K H b ys ∧ xs.length ≤ sizeLine ∧ Pairs (SameV K H n) xs ys)
def sp_Lsame (K : PySem.W.Frag) : Nat → Sp
  | 0 => fun _ _ _ _ => False
  | n + 1 => fun vs H Q _ => ∃ x y : V, vs = [x, y] ∧ SameV K H n x y ∧ Q (.bl true) H
theorem SameV.flat {K : PySem.W.Frag} {H : Hp} {n : Nat} {x : V} (h : flatD x = true) : SameV K H n x x := by
  cases n with
  | zero => exact ⟨h, rfl⟩
  | succ n => exact .inl ⟨h, rfl⟩
theorem Pairs.refl {R : V → V → Prop} {xs : List V} (h : ∀ x ∈ xs, R x x) : Pairs R xs xs := ⟨rfl, fun i x y h1 h2 => by
  rw [h1] at h2
  cases h2
  exact h x (List.mem_of_getElem? h1)⟩
theorem tyx_list {K : PySem.W.Frag} {H : Hp} {a : Addr} {xs : List V} (h : SqL K H a xs) : TyX K H (.ref a) (.type "list") := by
  rcases h with (h | ⟨o, h⟩) | ⟨o, its, n, h, c, _⟩
  · exact .base (.lst h)
  · exact .base (.frz h)
  · exact .kList h c
theorem tyx_tup {K : PySem.W.Frag} {H : Hp} {a : Addr} {xs : List V} (h : SqT K H a xs) : TyX K H (.ref a) (.type "tuple") := by
  rcases h with (h | ⟨o, h⟩) | ⟨o, its, n, h, c, _⟩
  · exact .base (.tup h)
  · exact .fTuple h
  · exact .kTuple h c
theorem pool_ne {H : Hp} {p q : Addr} (h : PoolAt H p) (n : H q = none) : q ≠ p := fun w => by
  obtain ⟨x, y, z, e⟩ := h
  rw [w, e] at n
  cases n
theorem none_kp {H H' : Hp} {p t : Addr} (s : Kp p H H') (n : t ≠ p) (e : H' t = none) : H t = none := by
  cases h : H t with
  | none => rfl
  | some o =>
    rw [s _ _ n h] at e
    cases e
theorem none_of {H H' : Hp} {t : Addr} (s : Same H H') (n : H' t = none) : H t = none := by
  cases e : H t with
  | none => rfl
  | some o =>
    rw [s _ _ e] at n
    cases n
theorem same_app {H2 H4 : Hp} {t : Addr} {o : HO} (s : Same H2 H4) (n : H2 t = none) : Same H2 (upd H4 t o) := fun b u e => by
  rw [upd_ne (ne_of_none e n)]
  exact s _ _ e
theorem Kp.of {p : Addr} {H H' : Hp} (s : Same H H') : Kp p H H' := fun b o _ e => s b o e
/-- a place that was free takes what it takes -/
theorem kp_app {p : Addr} {H H4 : Hp} {t : Addr} {o : HO} (s : Kp p H H4) (n : H t = none) : Kp p H (upd H4 t o) := fun b u nb e => by
  rw [upd_ne (ne_of_none e n)]
  exact s _ _ nb e
theorem sqt_pool {K : PySem.W.Frag} {H H' : Hp} {a b : Addr} {xs : List V} (h : SqT K H b xs) (k : Kp a H H') (p : PoolAt H a) : SqT K H' b xs := by
  obtain ⟨x, y, z, e⟩ := p
  rcases h with (h | ⟨o, h⟩) | h
  · exact .inl (.inl (k _ _ (fun w => by rw [w, e] at h; cases h) h))
  · exact .inl (.inr ⟨o, k _ _ (fun w => by rw [w, e] at h; cases h) h⟩)
  · exact .inr h
theorem sqt_lst {K : PySem.W.Frag} {H H' : Hp} {a b : Addr} {xs ys : List V} (h : SqT K H b xs) (k : Kp a H H') (hl : H a = some (.lst ys)) : SqT K H' b xs := by
  rcases h with (h | ⟨o, h⟩) | h
  · exact .inl (.inl (k _ _ (fun w => by rw [w, hl] at h; cases h) h))
  · exact .inl (.inr ⟨o, k _ _ (fun w => by rw [w, hl] at h; cases h) h⟩)
  · exact .inr h
/-! ### lists of values, each one of its own kind -/
inductive Al {α : Type} (R : V → α → Prop) : List V → List α → Prop where
  | nil : Al R [] []
  | cons {x : V} {y : α} {xs : List V} {ys : List α} : R x y → Al R xs ys → Al R (x :: xs) (y :: ys)
section
variable {α : Type} {R R' : V → α → Prop}
theorem Al.len : ∀ {xs : List V} {ys : List α}, Al R xs ys → xs.length = ys.length
  | _, _, .nil => rfl
  | _, _, .cons _ t => congrArg Nat.succ t.len
theorem Al.mono (h : ∀ x y, R x y → R' x y) : ∀ {xs : List V} {ys : List α}, Al R xs ys → Al R' xs ys
  | _, _, .nil => .nil
  | _, _, .cons r t => .cons (h _ _ r) (t.mono h)
theorem Al.app : ∀ {xs xs' : List V} {ys ys' : List α}, Al R xs ys → Al R xs' ys' → Al R (xs ++ xs') (ys ++ ys')
  | _, _, _, _, .nil, u => u
  | _, _, _, _, .cons r t, u => .cons r (t.app u)
theorem Al.take : ∀ {xs : List V} {ys : List α} (n : Nat), Al R xs ys → Al R (xs.take n) (ys.take n)
  | _, _, 0, _ => .nil
  | _, _, _ + 1, .nil => .nil
  | _, _, n + 1, .cons r t => .cons r (t.take n)
theorem Al.drop : ∀ {xs : List V} {ys : List α} (n : Nat), Al R xs ys → Al R (xs.drop n) (ys.drop n)
  | _, _, 0, h => h
  | _, _, _ + 1, .nil => .nil
  | _, _, n + 1, .cons _ t => t.drop n
theorem Al.snoc {xs : List V} {ys : List α} {x : V} {y : α} (h : Al R xs ys) (r : R x y) : Al R (xs ++ [x]) (ys ++ [y]) := h.app (.cons r .nil)
theorem Al.rev : ∀ {xs : List V} {ys : List α}, Al R xs ys → Al R xs.reverse ys.reverse
  | _, _, .nil => .nil
  | _, _, .cons r t => by
    rw [List.reverse_cons, List.reverse_cons]
    exact t.rev.app (.cons r .nil)
theorem Al.at : ∀ {xs : List V} {ys : List α} {i : Nat} {x : V}, Al R xs ys → xs[i]? = some x → ∃ y, ys[i]? = some y ∧ R x y
  | _, _, _, _, .nil, h => by simp at h
  | _, _, 0, _, .cons r _, h => ⟨_, rfl, by simp at h; subst h; exact r⟩
  | _, _, i + 1, _, .cons _ t, h => t.at (i := i) (by simpa using h)
theorem Al.at' {xs : List V} {ys : List α} {i : Nat} {y : α} (h : Al R xs ys) (hy : ys[i]? = some y) : ∃ x, xs[i]? = some x ∧ R x y := by
  have hi : i < xs.length := by rw [h.len]; exact (List.getElem?_eq_some_iff.mp hy).1
  obtain ⟨y', e, r⟩ := h.at (List.getElem?_eq_getElem hi)
  rw [hy] at e
  cases e
  exact ⟨_, List.getElem?_eq_getElem hi, r⟩
end
/-! ### enumerate(tuple) -/
theorem meets_enumerate_newT (l : Addr) (items : Array Value) (n : Nat) (dct : Option Addr) (sl : Array (Option Value)) :
    Meets (Builtin.«enumerate.__new__» ⟨[.type "enumerate", .ref l], []⟩) (fun _ R s => s.heap.get? l = some { cls := .type "tuple", dict := dct, data := .seq items n, slots := sl } ∧
      R (.ok (.ret (.ref (s.heap.push { cls := .type "tuple_iterator", data := .fields #[.ref l, .int 0 0] }).objs.size)))
        { s with heap := (s.heap.push { cls := .type "tuple_iterator", data := .fields #[.ref l, .int 0 0] }).push { cls := .type "enumerate", data := .fields #[.none, .bool false, .ref s.heap.objs.size, rawInt 0, .none, .none] } }) :=
  .of_wp fun prog w A R s h => by
    obtain ⟨hp, g, d, tk, os⟩ := s
    obtain ⟨hl, h⟩ := h
    have hsub := sub_enumerate
    have hL : Heap.IsTuple (Shared.heap ⟨hp, g, d, tk, os⟩) l items := ⟨_, hl, rfl, n, rfl⟩
    wp_walk using AutoSeq1.wpAny_loadPart' hl
    refine wpAny_stack_any fun st => wpAny_pure ?_
    split
    · rename_i c _ _ _ _ _
      cases (c == Value.type "enumerate")
      · wp_walk using AutoSeq1.wpAny_loadPart' hl, wpAny_pyIter_tuple hL
        exact ⟨_, rfl, h⟩
      · wp_walk using AutoSeq1.wpAny_loadPart' hl, wpAny_pyIter_tuple hL
        exact ⟨_, rfl, h⟩
    · wp_walk using AutoSeq1.wpAny_loadPart' hl, wpAny_pyIter_tuple hL
      exact ⟨_, rfl, h⟩
theorem call_enumerate_tuple {prog : Program} {w : World} {A : Around} {E : Value → Shared → Prop} {s : Shared} {l : Addr} {items : Array Value} {Q : Value → Shared → Prop} (hL : s.heap.IsTuple l items)
    (h : ∀ h', IsEnum h' (s.heap.objs.size + 1) s.heap.objs.size 0 .none → h'.IsTupleIter s.heap.objs.size l 0 → (∀ b o, s.heap.get? b = some o → h'.get? b = some o) → Q (.ref (s.heap.objs.size + 1)) { s with heap := h' }) :
    wpAny (model prog w) A (call (.type "enumerate") [.ref l]) Q E s := by
  obtain ⟨⟨c, dct, dt, sl⟩, hl, hc, n, hd⟩ := hL
  replace hc : c = .type "tuple" := hc
  replace hd : dt = .seq items n := hd
  subst hc hd
  refine callType_new F.called_enumerate (by decide) (F.typeCall_enumerate_1 _) (F.newCall_enumerate_1 _) (fun obj => F.args_object_init_2 obj _) F.entry_enumerate_new
    (meets_enumerate_newT l items n dct sl) ⟨hl, ?_⟩
  have hz : (s.heap.push { cls := .type "tuple_iterator", data := .fields #[.ref l, .int 0 0] }).objs.size = s.heap.objs.size + 1 := Heap.size_push ..
  show _ ∧ _
  rw [hz]
  have he : IsEnum ((s.heap.push { cls := .type "tuple_iterator", data := .fields #[.ref l, .int 0 0] }).push
      { cls := .type "enumerate", data := .fields #[.none, .bool false, .ref s.heap.objs.size, rawInt 0, .none, .none] }) (s.heap.objs.size + 1) s.heap.objs.size 0 .none := by
    have z := Heap.get?_push_size (s.heap.push { cls := .type "tuple_iterator", data := .fields #[.ref l, .int 0 0] })
      (o := { cls := .type "enumerate", data := .fields #[.none, .bool false, .ref s.heap.objs.size, rawInt 0, .none, .none] }) rfl
    rw [hz] at z
    exact z
  exact ⟨⟨_, he, rfl⟩, h _ he ⟨_, Heap.get?_push_of_some _ (Heap.get?_push_size _ rfl), rfl, rfl⟩ fun b o x => Heap.get?_push_of_some _ (Heap.get?_push_of_some _ x)⟩
theorem pyNext_enumT_end {prog : Program} {w : World} {A : Around} {E : Value → Shared → Prop} {s : Shared} {e it l : Addr} {i : Nat} {items : Array Value} {old : Value} {Q : Option Value → Shared → Prop} (hh : A.handled = none)
    (he : IsEnum s.heap e it i old) (hit : s.heap.IsTupleIter it l i) (hl : s.heap.IsTuple l items) (hx : items[i]? = none)
    (hQ : ∀ h', Heap.ExtBut it s.heap h' → Q none { s with heap := h' }) : wpAny (model prog w) A (pyNext (.ref e)) Q E s := by
  have hT : s.TypeIs (.ref e) "enumerate" := ⟨_, he, rfl⟩
  unfold pyNext
  refine wpAny_bind (wpAny_attempt (wpAny_callSpecial?_slot (name := Str.ofString "__next__") hT F.slot_enumerate_next
    (wpAny_call_entry F.slot_enumerate_next hT F.entry_enumerate_next ?_ (F.args_enumerate_next_1 _))))
  show wpAny _ _ (field (.ref e) 2 >>= _) _ _ _
  refine wpAny_bind (wpAny_field he rfl (x := .ref it) rfl ?_)
  refine wpAny_bind (wpAny_nextOf_tuple_end (A := A.in1) hh hit hl hx fun h' x he' hx' => ?_)
  obtain ⟨o, ho, hc⟩ := hx'
  refine wpAny_bind (wpAny_isInstance (T := "StopIteration") (b := true) ⟨o, ho, hc⟩ isSubtype_stop ?_)
  exact wpAny_pure (hQ _ he')
/-- the tuple at a, each item in a new pair -/
def Iett (K : PySem.W.Frag) (a : Addr) : It :=
  ⟨fun i H => ∃ (xs : List V) (x : V), SqT K H a xs ∧ xs[i]? = some x, fun i H v H' => ∃ T x, v = .ref T ∧ H T = none ∧ H' = upd H T (.tup [.int (i : Nat), x]) ∧ ∀ xs, SqT K H a xs → xs[i]? = some x, fun i H => ∃ xs : List V, SqT K H a xs ∧ xs.length ≤ i⟩
theorem turn_enumT {P : Program} {w : World} {K : PySem.W.Frag} {elts : List Expr} {kk : Nat} {tpos : Pos} (a e it : Addr) :
    Turn P w K (.Tuple elts kk tpos) (Iett K a) [e, it] e (fun i h => (∃ old, IsEnum h e it ((i : Nat) : Int) old) ∧ h.IsTupleIter it a i ∧ e ≠ it ∧ a ≠ it ∧ a ≠ e) where
  mem := by simp
  obj := fun i h st b hb => by
    obtain ⟨⟨old, he⟩, ⟨o, ho, hc, hd⟩, _⟩ := st
    have e' : b = e ∨ b = it := by simpa using hb
    rcases e' with z | z
    · rw [z]; exact ⟨_, he, fun v q => nomatch q⟩
    · rw [z]; exact ⟨o, ho, fun v q => by rw [hd] at q; cases q⟩
  keep := fun i h h' st k => let ⟨⟨old, he⟩, hi, hne⟩ := st; ⟨⟨old, k e (by simp) _ he⟩, hi.at fun o q => k it (by simp) o q, hne⟩
  item := by
    intro X hP hw hK hc i pins s σ H E I hf st hg
    subst hP hw hK
    obtain ⟨⟨old, he⟩, hit, hne, hae, hea⟩ := st
    obtain ⟨xs, x, hq, hx⟩ := hg
    obtain ⟨its, rv, p, hz⟩ := I.tuple hq
    obtain ⟨u, hu, ru⟩ := rv.get hx
    have p' : s.heap.IsTuple a its.toArray := p
    have hel : e < s.heap.objs.size := Heap.lt_size he
    have hil : it < s.heap.objs.size := by obtain ⟨_, q, _⟩ := hit; exact Heap.lt_size q
    have hii : i < its.toArray.size := by
      have := (List.getElem?_eq_some_iff.mp hu).1
      simpa using this
    have D := Draws.tuple (prog := X.prog) (w := X.w) (A := X.A.in1) (I.ok.hd hc) it a hae its.toArray
    refine PySem.wpAny_pyNext_enum_itemC D he ⟨hit, p'⟩ hii hne (by simp [Ne.symm hea, hne]) fun y h' tk hy ho hst' hT hsz hk => ?_
    have hyu : y = u := by
      have e1 : its.toArray[i]? = some y := hy
      rw [List.getElem?_toArray] at e1
      rw [hu] at e1
      exact (Option.some.inj e1).symm
    subst hyu
    refine ⟨_, rfl, wpAny_letOwnedTupleGo_enum (s := { s with heap := h', toks := tk + 1 }) ho fun h'' he' sb => ?_⟩
    have hT2 : h''.get? s.heap.objs.size = some { cls := .type "tuple", data := .seq #[.int i tk, y] } := (sb.2 _ (Nat.ne_of_gt hel)).trans hT
    have new : ObjOk X.prog X.w (upd H s.heap.objs.size (.tup [.int (i : Nat), x])) h'' s.heap.objs.size (.tup [.int (i : Nat), x]) :=
      ⟨by show 2 ≤ sizeLine; decide, [.int i tk, y], .cons ⟨_, rfl⟩ (.cons ru .nil), ⟨_, hT2, rfl, _, rfl⟩⟩
    have I1 : Inv X pins σ (upd H s.heap.objs.size (.tup [.int (i : Nat), x])) { s with heap := h'', toks := tk + 1 } :=
      I.turnedNew (ch := [e, it]) (fun b ob hb q => (sb.2 b (fun z => hb (by simp [z]))).trans (hk b ob (fun z => hb (by simp [z])) (fun z => hb (by simp [z])) q)) hf (Nat.le_refl _) new
    refine ⟨.ref s.heap.objs.size, _, I1, rfl, ⟨_, x, rfl, I.hok.fresh (Nat.le_refl _), rfl, fun ys hy => by rw [I.tuple_inj hy hq]; exact hx⟩, ⟨⟨y, ?_⟩, hst'.1.at fun o q => (sb.2 it (Ne.symm hne)).trans q, hne, hae, hea⟩, fun b hb => ?_⟩
    · have e1 : ((i + 1 : Nat) : Int) = (i : Int) + 1 := by omega
      rw [e1]; exact he'
    · have hb' : b < s.heap.objs.size := by
        have e' : b = e ∨ b = it := by simpa using hb
        rcases e' with z | z
        · rw [z]; exact hel
        · rw [z]; exact hil
      rw [upd_ne (Nat.ne_of_lt hb')]
      exact (hf b hb).1
  done := by
    intro X hP hw hK hc i pins s σ H E I hf st hg
    subst hP hw hK
    obtain ⟨⟨old, he⟩, hit, hne, hae, hea⟩ := st
    obtain ⟨xs, hq, hx⟩ := hg
    obtain ⟨its, rv, p, hz⟩ := I.tuple hq
    obtain ⟨f0, f1, f2, f3, f4, f5⟩ := hf it (by simp)
    have hl := rv.length
    have p' : s.heap.IsTuple a its.toArray := p
    exact pyNext_enumT_end (I.ok.hd hc) he hit p' (by simp; omega) fun h' eb => ⟨rfl, I.turned (t' := s.toks) (fun b o hb q => eb b o hb q) f0 f1 f3 f4 f5⟩
  self := fun A i s Q E st h => let ⟨⟨_, he⟩, _⟩ := st; wpAny_pyIter_enum he h
/-- what stands at a: a list or a tuple -/
def SqB (K : PySem.W.Frag) (b : Bool) (H : Hp) (a : Addr) (xs : List V) : Prop := if b then SqT K H a xs else SqL K H a xs
def ItB (K : PySem.W.Frag) (b : Bool) (a : Addr) : It := if b then Iett K a else Ite K a
/-- enumerate over a list or a tuple -/
def iEnumS (K : PySem.W.Frag) (ta : TA) : TI := fun σ H R => ta σ H fun vs H1 => ∃ a xs b, vs = [.ref a] ∧ SqB K b H1 a xs ∧ R (ItB K b a) H1
theorem pi_enumS {X : Cx} {e : Expr} {ta : TA} {p pos tpos : Pos} {elts : List Expr} {kk : Nat} (hg : Gl X "enumerate") (hm : X.mg "enumerate" = none) (ha : PA X [e] ta) (hs : starEach [e] X.env = [(false, eval e X.env)] := by rfl) :
    PI X (.Tuple elts kk tpos) (.Call (.Name "enumerate" p) [e] [] pos) (iEnumS X.K ta) := by
  refine ⟨fun pins s σ H R I h => ?_⟩
  refine Call_ (ld_blt I hg hm boot_enumerate (PyProof.Rows.callWith_type1 (thn (ha.run pos pins s σ H _ I h) fun us s1 ⟨vs, H1, I1, r1, q1⟩ => ?_) hs rfl))
  obtain ⟨a, xs, bb, ex, hq, q⟩ := q1
  subst ex
  cases r1 with
  | cons r rr =>
    cases rr
    cases r
    cases bb
    · obtain ⟨its, rv, p', hz⟩ := I1.list hq
      refine call_enumerate_list p'.isList fun h' he hit hsz hk => wpAny_pyIter_enum he ?_
      have I2 : Inv X pins σ H1 { s1 with heap := h' } := I1.kept (t' := s1.toks) hk
      refine ⟨s1.heap.objs.size + 1, [s1.heap.objs.size + 1, s1.heap.objs.size], _, _, H1, rfl, I2, turn_enum a (s1.heap.objs.size + 1) s1.heap.objs.size, ⟨⟨.none, he⟩, hit, Nat.succ_ne_self _⟩, fun b hb => ?_, q⟩
      have e' : b = s1.heap.objs.size + 1 ∨ b = s1.heap.objs.size := by simpa using hb
      have hle : s1.heap.objs.size ≤ b := by
        rcases e' with z | z
        · rw [z]; exact Nat.le_add_right _ _
        · rw [z]; exact Nat.le_refl _
      exact I1.fpOk hle (I1.hok.fresh hle)
    · obtain ⟨its, rv, p', hz⟩ := I1.tuple hq
      have hL : s1.heap.IsTuple a its.toArray := p'
      have hlt : a < s1.heap.objs.size := by obtain ⟨_, q0, _⟩ := hL; exact Heap.lt_size q0
      refine call_enumerate_tuple hL fun h' he hit hk => wpAny_pyIter_enum he ?_
      have I2 : Inv X pins σ H1 { s1 with heap := h' } := I1.kept (t' := s1.toks) hk
      refine ⟨s1.heap.objs.size + 1, [s1.heap.objs.size + 1, s1.heap.objs.size], _, _, H1, rfl, I2, turn_enumT a (s1.heap.objs.size + 1) s1.heap.objs.size, ⟨⟨.none, he⟩, hit, Nat.succ_ne_self _, Nat.ne_of_lt hlt, Nat.ne_of_lt (Nat.lt_succ_of_lt hlt)⟩, fun b hb => ?_, q⟩
      have e' : b = s1.heap.objs.size + 1 ∨ b = s1.heap.objs.size := by simpa using hb
      have hle : s1.heap.objs.size ≤ b := by
        rcases e' with z | z
        · rw [z]; exact Nat.le_add_right _ _
        · rw [z]; exact Nat.le_refl _
      exact I1.fpOk hle (I1.hok.fresh hle)
/-- the turns of enumerate over a list or a tuple: Sq is how the items stand there -/
theorem for_enumI {K : PySem.W.Frag} {I : It} {Sq : Hp → Prop} {xs : List V} {g : TG} {tb : TS} {D : Ends} {σ : L2.St} {H : Hp} (Pv : Nat → L2.St → Hp → Prop) (h0 : Pv 0 σ H) (hl : ∀ i σ H, i ≤ xs.length → Pv i σ H → Sq H)
    (hgo : ∀ H i x, Sq H → xs[i]? = some x → I.go i H) (hy : ∀ H i x H', Sq H → I.yld i H x H' → ∃ T z, x = .ref T ∧ H T = none ∧ H' = upd H T (.tup [.int (i : Nat), z]) ∧ xs[i]? = some z) (hst : ∀ H, Sq H → I.stop xs.length H)
    (hs : ∀ i x σ H T, xs[i]? = some x → Pv i σ H → H T = none → g (.ref T) σ (upd H T (.tup [.int (i : Nat), x])) fun σ2 H2 => tb { D with nx := Pv (i + 1), ct := Pv (i + 1), bk := D.nx } σ2 H2) (hd : ∀ σ H, Pv xs.length σ H → D.nx σ H) :
    ∃ W : Nat → Nat → L2.St → Hp → Prop, (∃ m, W 0 m σ H) ∧ ∀ i m σ H, W i m σ H →
      (I.stop i H ∧ D.nx σ H) ∨ (I.go i H ∧ ∃ N : L2.St → Hp → Prop, (∀ σ' H', N σ' H' → ∃ m', m' < m ∧ W (i + 1) m' σ' H') ∧ ∀ x H', I.yld i H x H' → g x σ H' fun σ2 H2 => tb { D with nx := N, ct := N, bk := D.nx } σ2 H2) := by
  refine ⟨fun i m σ H => m = xs.length - i ∧ i ≤ xs.length ∧ Pv i σ H, ⟨xs.length, by simp, Nat.zero_le _, h0⟩, ?_⟩
  rintro i m σ H ⟨rfl, hi, p⟩
  have q := hl i σ H hi p
  by_cases hlt : i < xs.length
  · refine .inr ⟨hgo H i xs[i] q (by simp [hlt]), Pv (i + 1), fun σ' H' p' => ⟨xs.length - (i + 1), by omega, rfl, hlt, p'⟩, fun x H' y => ?_⟩
    obtain ⟨T, z, e1, e2, e3, e4⟩ := hy _ _ _ _ q y
    subst e1 e3
    exact hs i z σ H T e4 p e2
  · have e : i = xs.length := by omega
    subst e
    exact .inl ⟨hst H q, hd σ H p⟩
theorem for_enumB {K : PySem.W.Frag} {bb : Bool} {a : Addr} {xs : List V} {g : TG} {tb : TS} {D : Ends} {σ : L2.St} {H : Hp} (Pv : Nat → L2.St → Hp → Prop) (h0 : Pv 0 σ H) (hl : ∀ i σ H, i ≤ xs.length → Pv i σ H → SqB K bb H a xs)
    (hs : ∀ i x σ H T, xs[i]? = some x → Pv i σ H → H T = none → g (.ref T) σ (upd H T (.tup [.int (i : Nat), x])) fun σ2 H2 => tb { D with nx := Pv (i + 1), ct := Pv (i + 1), bk := D.nx } σ2 H2) (hd : ∀ σ H, Pv xs.length σ H → D.nx σ H) :
    ∃ W : Nat → Nat → L2.St → Hp → Prop, (∃ m, W 0 m σ H) ∧ ∀ i m σ H, W i m σ H →
      ((ItB K bb a).stop i H ∧ D.nx σ H) ∨ ((ItB K bb a).go i H ∧ ∃ N : L2.St → Hp → Prop, (∀ σ' H', N σ' H' → ∃ m', m' < m ∧ W (i + 1) m' σ' H') ∧ ∀ x H', (ItB K bb a).yld i H x H' → g x σ H' fun σ2 H2 => tb { D with nx := N, ct := N, bk := D.nx } σ2 H2) := by
  refine for_enumI (K := K) (I := ItB K bb a) (Sq := fun H => SqB K bb H a xs) Pv h0 hl ?_ ?_ ?_ hs hd
  · cases bb
    · exact fun H i x q e => ⟨xs, x, q, e⟩
    · exact fun H i x q e => ⟨xs, x, q, e⟩
  · cases bb
    · rintro H i x H' q ⟨T, z, e1, e2, e3, e4⟩
      exact ⟨T, z, e1, e2, e3, e4 xs q⟩
    · rintro H i x H' q ⟨T, z, e1, e2, e3, e4⟩
      exact ⟨T, z, e1, e2, e3, e4 xs q⟩
  · cases bb
    · exact fun H q => ⟨xs, q, Nat.le_refl _⟩
    · exact fun H q => ⟨xs, q, Nat.le_refl _⟩
/-! ### cars in lists -/
theorem sqt_same {K : PySem.W.Frag} {H H' : Hp} {a : Addr} {xs : List V} (h : SqT K H a xs) (e : Same H H') : SqT K H' a xs := by
  rcases h with (h | ⟨o, h⟩) | h
  · exact .inl (.inl (e _ _ h))
  · exact .inl (.inr ⟨o, e _ _ h⟩)
  · exact .inr h
theorem tyes {σ : L2.St} {H : Hp} {A B : Hp → Prop} (h : A H) : tYes σ H (fun b H3 => if b = true then A H3 else B H3) := by
  show (if true = true then A H else B H)
  rw [if_pos rfl]
  exact h
abbrev Car := Int × Int × Int × Int
def cr (c : Car) : List V := [.int c.1, .int c.2.1, .int c.2.2.1, .int c.2.2.2]
def CrV (K : PySem.W.Frag) (H : Hp) (x : V) (c : Car) : Prop := ∃ p : Addr, x = .ref p ∧ SqT K H p [.int c.1, .int c.2.1, .int c.2.2.1, .int c.2.2.2]
theorem CrV.same {K : PySem.W.Frag} {H H' : Hp} {x : V} {c : Car} (h : CrV K H x c) (e : Same H H') : CrV K H' x c := by
  obtain ⟨p, ex, hp⟩ := h
  exact ⟨p, ex, sqt_same hp e⟩
theorem CrV.lst {K : PySem.W.Frag} {H H' : Hp} {a : Addr} {x : V} {c : Car} {ys : List V} (h : CrV K H x c) (e : Kp a H H') (hl : H a = some (.lst ys)) : CrV K H' x c := by
  obtain ⟨p, ex, hp⟩ := h
  exact ⟨p, ex, sqt_lst hp e hl⟩
abbrev Cars (K : PySem.W.Frag) (H : Hp) := Al (CrV K H)
theorem carsS {K : PySem.W.Frag} {H H' : Hp} {xs : List V} {cs : List Car} (h : Cars K H xs cs) (e : Same H H') : Cars K H' xs cs := Al.mono (fun _ _ r => r.same e) h
theorem carsL {K : PySem.W.Frag} {H H' : Hp} {a : Addr} {ys : List V} {xs : List V} {cs : List Car} (h : Cars K H xs cs) (e : Kp a H H') (hl : H a = some (.lst ys)) : Cars K H' xs cs := Al.mono (fun _ _ r => r.lst e hl) h
theorem carsP {K : PySem.W.Frag} {H H' : Hp} {a : Addr} {xs : List V} {cs : List Car} (h : Cars K H xs cs) (e : Kp a H H') (p : PoolAt H a) : Cars K H' xs cs := by
  obtain ⟨x, y, z, e'⟩ := p
  exact carsL h e e'
theorem sqb_same {K : PySem.W.Frag} {b : Bool} {H H' : Hp} {a : Addr} {xs : List V} (h : SqB K b H a xs) (e : Same H H') : SqB K b H' a xs := by
  cases b
  · exact Same.seq e h
  · exact sqt_same h e
theorem sqb_or {K : PySem.W.Frag} {b : Bool} {H : Hp} {a : Addr} {xs : List V} (h : SqB K b H a xs) : SqL K H a xs ∨ SqT K H a xs := by
  cases b
  · exact .inl h
  · exact .inr h
theorem take_snoc {α : Type} {l : List α} {i : Nat} {x : α} (h : l[i]? = some x) : l.take i ++ [x] = l.take (i + 1) := by
  rw [List.take_add_one, h]
  rfl
theorem flat_ints (l : List Int) : (l.map V.int).all flatV = true := by
  rw [List.all_map, List.all_eq_true]
  intro j _
  rfl
/-- the same items, each flat -/
theorem same_ints {K : PySem.W.Frag} {H : Hp} {a b : Addr} {l : List Int} {n : Nat} (ha : SqL K H a (l.map V.int)) (hb : SqL K H b (l.map V.int)) (hz : l.length ≤ 100000) : SameV K H (n + 1) (.ref a) (.ref b) :=
  .inr (.inl ⟨a, b, _, _, rfl, rfl, ha, hb, by rw [List.length_map, sizeLine_eq]; omega, Pairs.refl fun x hx => by
    obtain ⟨t, _, e⟩ := List.mem_map.mp hx
    subst e
    exact SameV.flat rfl⟩)
theorem car_same {K : PySem.W.Frag} {H : Hp} {x y : V} {c : Car} {n : Nat} (hx : CrV K H x c) (hy : CrV K H y c) : SameV K H (n + 1) x y := by
  obtain ⟨p, rfl, hp⟩ := hx
  obtain ⟨q, rfl, hq⟩ := hy
  exact .inr (.inr ⟨p, q, _, _, rfl, rfl, hp, hq, by rw [sizeLine_eq]; show 4 ≤ 16777216; decide, Pairs.refl fun y hy => by
      simp only [List.mem_cons, List.not_mem_nil, or_false] at hy
      rcases hy with rfl | rfl | rfl | rfl <;> exact SameV.flat rfl⟩)
theorem Al.pairs {α : Type} {R : V → α → Prop} {S : V → V → Prop} (h : ∀ x y c, R x c → R y c → S x y) {xs ys : List V} {cs : List α} (a : Al R xs cs) (b : Al R ys cs) : Pairs S xs ys :=
  ⟨by rw [a.len, b.len], fun i x y hx hy => by
    obtain ⟨c, hc, r⟩ := a.at hx
    obtain ⟨c', hc', r'⟩ := b.at hy
    rw [hc] at hc'
    cases hc'
    exact h _ _ _ r r'⟩
theorem cars_sameL {K : PySem.W.Frag} {H : Hp} {a b : Addr} {xs ys : List V} {cs : List Car} {n : Nat} (ha : SqL K H a xs) (hb : SqL K H b ys) (hx : Cars K H xs cs) (hy : Cars K H ys cs) (hz : cs.length ≤ 100000) : SameV K H (n + 2) (.ref a) (.ref b) :=
  .inr (.inl ⟨a, b, _, _, rfl, rfl, ha, hb, by rw [hx.len, sizeLine_eq]; omega, Al.pairs (R := CrV K H) (S := SameV K H (n + 1)) (fun _ _ _ h1 h2 => car_same h1 h2) hx hy⟩)
theorem cars_sameT {K : PySem.W.Frag} {H : Hp} {a b : Addr} {xs ys : List V} {cs : List Car} {n : Nat} (ha : SqT K H a xs) (hb : SqT K H b ys) (hx : Cars K H xs cs) (hy : Cars K H ys cs) (hz : cs.length ≤ 100000) : SameV K H (n + 2) (.ref a) (.ref b) :=
  .inr (.inr ⟨a, b, _, _, rfl, rfl, ha, hb, by rw [hx.len, sizeLine_eq]; omega, Al.pairs (R := CrV K H) (S := SameV K H (n + 1)) (fun _ _ _ h1 h2 => car_same h1 h2) hx hy⟩)
theorem iteB {b : Bool} {A B : Prop} (hA : b = true → A) (hB : b = false → B) : if b = true then A else B := by
  cases b
  · exact iteF (hB rfl)
  · exact iteT (hA rfl)
theorem iteNe {x y : V} {A B : Prop} (e : x = y) (h : B) : if (!decide (x = y)) = true then A else B := by
  rw [decide_eq_true e]
  exact iteF h
theorem pick4 {a b c d r : Int} (h0 : 0 ≤ r) (h1 : r < 4) : ∃ v : Int, atI [V.int a, V.int b, V.int c, V.int d] r = some (V.int v) ∧ (v = a ∨ v = b ∨ v = c ∨ v = d) := by
  have : r = 0 ∨ r = 1 ∨ r = 2 ∨ r = 3 := by omega
  rcases this with e | e | e | e
  · subst e; exact ⟨a, rfl, .inl rfl⟩
  · subst e; exact ⟨b, rfl, .inr (.inl rfl)⟩
  · subst e; exact ⟨c, rfl, .inr (.inr (.inl rfl))⟩
  · subst e; exact ⟨d, rfl, .inr (.inr (.inr rfl))⟩
def inS (ss : List Int) (i : Nat) : Bool := inV (.int (i : Nat)) (ss.map V.int)
def wnt (ss : List Int) (i : Nat) (c : Car) : Int := c.2.2.2 - (if inS ss i = true then 1 else 0)
def aft1 (ss : List Int) (i : Nat) (c : Car) : List Car := if wnt ss i c > 0 ∧ c.2.2.1 > 1 then [(c.1, c.2.1, c.2.2.1 - 1, wnt ss i c)] else []
def aftN (cs : List Car) (ss : List Int) (n : Nat) : List Car := (List.range n).flatMap fun i => aft1 ss i (cs.getD i (0, 0, 0, 0))
def sho1 (ss : List Int) (i : Nat) (c : Car) : Int := if wnt ss i c > 0 ∧ ¬ c.2.2.1 > 1 then wnt ss i c else 0
def shoN (cs : List Car) (ss : List Int) (n : Nat) : Int := ((List.range n).map fun i => sho1 ss i (cs.getD i (0, 0, 0, 0))).sum
theorem getD_at {α : Type} {l : List α} {i : Nat} {c d : α} (h : l[i]? = some c) : l.getD i d = c := by
  rw [List.getD_eq_getElem?_getD, h]
  rfl
theorem aftN_succ {cs : List Car} {ss : List Int} {i : Nat} {c : Car} (h : cs[i]? = some c) : aftN cs ss (i + 1) = aftN cs ss i ++ aft1 ss i c := by
  unfold aftN
  rw [List.range_succ, List.flatMap_append, List.flatMap_singleton, getD_at h]
theorem shoN_succ {cs : List Car} {ss : List Int} {i : Nat} {c : Car} (h : cs[i]? = some c) : shoN cs ss (i + 1) = shoN cs ss i + sho1 ss i c := by
  unfold shoN
  rw [List.range_succ, List.map_append, List.sum_append, List.map_singleton, getD_at h]
  simp
theorem aft1_len (ss : List Int) (i : Nat) (c : Car) : (aft1 ss i c).length ≤ 1 := by
  unfold aft1
  split
  · exact Nat.le_refl _
  · exact Nat.zero_le _
theorem aftN_len (cs : List Car) (ss : List Int) : ∀ n, (aftN cs ss n).length ≤ n
  | 0 => Nat.le_refl _
  | n + 1 => by
    have h := aftN_len cs ss n
    have h2 := aft1_len ss n (cs.getD n (0, 0, 0, 0))
    unfold aftN at h ⊢
    rw [List.range_succ, List.flatMap_append, List.flatMap_singleton, List.length_append]
    omega
/-- what the law draws of a car -/
def CarG (c : Car) : Prop := 1 ≤ c.2.2.1 ∧ 1 ≤ c.2.2.2
theorem aftN_good {cs : List Car} {ss : List Int} : ∀ n, ∀ c ∈ aftN cs ss n, CarG c
  | 0, c, h => by cases h
  | n + 1, c, h => by
    unfold aftN at h
    rw [List.range_succ, List.flatMap_append, List.flatMap_singleton] at h
    rcases List.mem_append.mp h with h | h
    · exact aftN_good n c h
    · unfold aft1 at h
      split at h
      · rename_i hc
        rw [List.mem_singleton.mp h]
        exact ⟨by show 1 ≤ _ - 1; omega, by show 1 ≤ wnt _ _ _; omega⟩
      · cases h
def sp_serve_hour (K : PySem.W.Frag) : Sp := fun vs H Q _ => ∃ (cl sl : Addr) (b : Bool) (xs : List V) (cs : List Car) (ss : List Int), vs = [.ref cl, .ref sl] ∧ SqB K b H cl xs ∧ Cars K H xs cs ∧ cs.length ≤ 100 ∧ SqL K H sl (ss.map V.int) ∧
  ∀ (H' : Hp) (p tp : Addr) (ys : List V), Same H H' → H p = none → H' p = some (.tup [.ref tp, .int (shoN cs ss cs.length)]) → SqT K H' tp ys → Cars K H' ys (aftN cs ss cs.length) → Q (.ref p) H'
def sp_Lopen (K : PySem.W.Frag) : Sp := fun vs H Q _ => ∃ (p : Addr) (n : Nat) (m : Int), vs = [.ref p, .int (n : Nat), .int m] ∧ n ≤ 100 ∧ 0 < m ∧ m < 2 ^ 60 ∧ PoolAt H p ∧
  ∀ (H' : Hp) (q : Addr) (xs : List V) (cs : List Car), Kp p H H' → PoolAt H' p → H q = none → H' q = some (.lst xs) → Cars K H' xs cs → cs.length = n → (∀ c ∈ cs, CarG c) → Q (.ref q) H'
def sp_Lchosen (K : PySem.W.Frag) : Sp := fun vs H Q _ => ∃ (p : Addr) (n : Nat), vs = [.ref p, .int (n : Nat)] ∧ n ≤ 100 ∧ PoolAt H p ∧
  ∀ (H' : Hp) (q : Addr) (ss : List Int), Kp p H H' → PoolAt H' p → H q = none → H' q = some (.lst (ss.map V.int)) → ss.length ≤ n → Q (.ref q) H'
def topS (i : Nat) : Stmt := PySem.Challenge.pw_onecable_k25_serve_one_hour.main.body.getD i (.Pass ⟨0, 0, 0, 0⟩)
abbrev s_serve_hour : Stmt := topS 1
theorem sc_serve_hour : FnScope ["cars", "served", "remaining", "short", "index", "stay", "need", "left", "want", "wanted"] ["cars", "served"] (defScope s_serve_hour) := ⟨rfl, rfl, rfl, by decide +kernel, rfl, by decide +kernel, by decide +kernel⟩
abbrev s_Lcell : Stmt := topS 3
theorem sc_Lcell : FnScope ["_law_script", "_law_at"] ["_law_script", "_law_at"] (defScope s_Lcell) := ⟨rfl, rfl, rfl, by decide +kernel, rfl, by decide +kernel, by decide +kernel⟩
abbrev s_Lpool : Stmt := topS 4
theorem sc_Lpool : FnScope ["_law_cell_here"] ["_law_cell_here"] (defScope s_Lpool) := ⟨rfl, rfl, rfl, by decide +kernel, rfl, by decide +kernel, by decide +kernel⟩
abbrev s_Ltake : Stmt := topS 5
theorem sc_Ltake : FnScope ["_law_pool_here", "_law_many", "_law_digit", "_law_mixed"] ["_law_pool_here", "_law_many"] (defScope s_Ltake) := ⟨rfl, rfl, rfl, by decide +kernel, rfl, by decide +kernel, by decide +kernel⟩
abbrev s_Lsame : Stmt := topS 6
theorem sc_Lsame : FnScope ["_law_told", "_law_due", "_law_k"] ["_law_told", "_law_due"] (defScope s_Lsame) := ⟨rfl, rfl, rfl, by decide +kernel, rfl, by decide +kernel, by decide +kernel⟩
abbrev s_Lopen_cars : Stmt := topS 7
theorem sc_Lopen_cars : FnScope ["_law_pool_here", "_law_many", "_law_longest", "_law_cars", "_law_k", "_law_stay", "_law_need", "_law_left", "_law_units"] ["_law_pool_here", "_law_many", "_law_longest"] (defScope s_Lopen_cars) := ⟨rfl, rfl, rfl, by decide +kernel, rfl, by decide +kernel, by decide +kernel⟩
abbrev s_Lchosen : Stmt := topS 8
theorem sc_Lchosen : FnScope ["_law_pool_here", "_law_many", "_law_thin", "_law_way", "_law_chosen_here", "_law_k"] ["_law_pool_here", "_law_many"] (defScope s_Lchosen) := ⟨rfl, rfl, rfl, by decide +kernel, rfl, by decide +kernel, by decide +kernel⟩
abbrev s_law : Stmt := topS 9
theorem sc_law : FnScope ["_law_script", "_law_pool_here", "_law_chance", "_law_cars", "_law_turn", "_law_served", "_law_passed", "_law_told", "_law_at", "_law_rest", "_law_after", "_law_short"] ["_law_script"] (defScope s_law) := ⟨rfl, rfl, rfl, by decide +kernel, rfl, by decide +kernel, by decide +kernel⟩
def sp_law (K : PySem.W.Frag) : Sp := fun vs H Q _ => ∃ (a : Addr) (ns : List Int), vs = [.ref a] ∧ SqL K H a (ns.map V.int) ∧ ns.length ≤ 63 ∧ ∀ H', Q (.bl true) H'
structure Txt (P : Program) (w : World) (K : PySem.W.Frag) (mg : Str → Option Value) : Prop where
  n_enumerate : mg "enumerate" = none
  n_tuple : mg "tuple" = none
  n_len : mg "len" = none
  n_int : mg "int" = none
  n_abs : mg "abs" = none
  n_isinstance : mg "isinstance" = none
  n_bool : mg "bool" = none
  n_str : mg "str" = none
  n_list : mg "list" = none
  n_range : mg "range" = none
  n_sum : mg "sum" = none

section
variable {P : Program} {w : World} {K : PySem.W.Frag} {mg : Str → Option Value} {base : Heap}
theorem ok_Lcell {f : Addr} {fd : FuncData} (F : Fun K "_law_cell" "_law_cell" s_Lcell f fd) (T : Txt P w K mg )  :
    FnOk P w K mg base CX0 1 f fd ["_law_script", "_law_at"] (sp_Lcell K) := by
  refine F.ok sc_Lcell (fun vs H Q E h => ?_) (fun cdv A outer s H vs Q E hr h => ?_)
  · obtain ⟨l, ns, j, rfl, _⟩ := h
    rfl
  · obtain ⟨l, ns, j, rfl, hs, q⟩ := h
    refine ⟨_, (pss_cons (ps_if (pt_cmpR op_lt (pv 1) (pe_callB call_len_seq (by rfl) T.n_len PySem.boot_len (pa_cons (pv 0) pa_nil)) (nomark _)) (pss_one (ps_ret (pe_callB call_abs (by rfl) T.n_abs (by decide +kernel) (pa_cons (pe_callTy call_int1 (by rfl) T.n_int (by decide +kernel) (pa_cons (pe_ix ix_list (pv 0) (pv 1) (fun _ _ => rfl)) pa_nil)) pa_nil)))) pss_nil)
      (pss_one (ps_ret pe_int))), ?_⟩
    refine ⟨_, rfl, _, rfl, l, _, rfl, .inl hs, _, _, rfl, rfl, _, rfl, ?_⟩
    refine ite2 (fun hlt => ?_) (fun _ => q 0 (by decide))
    have hj : j < ns.length := by
      have z := of_decide_eq_true hlt
      rw [List.length_map] at z
      omega
    have hat : (ns.map V.int)[j]? = some (V.int ns[j]) := by rw [List.getElem?_map, List.getElem?_eq_getElem hj] <;> rfl
    refine ⟨_, rfl, _, rfl, l, _, _, _, rfl, rfl, hs, atI_nat hat, .inl ⟨_, rfl, _, rfl, q _ ?_⟩⟩
    split <;> omega
theorem ok_Lpool {f : Addr} {fd : FuncData} (F : Fun K "_law_pool" "_law_pool" s_Lpool f fd) (T : Txt P w K mg )  :
    FnOk P w K mg base CX0 1 f fd ["_law_cell_here"] sp_Lpool := by
  refine F.ok sc_Lpool (fun vs H Q E h => ?_) (fun cdv A outer s H vs Q E hr h => ?_)
  · obtain ⟨c, rfl, _⟩ := h
    rfl
  · obtain ⟨c, rfl, q⟩ := h
    refine ⟨_, (pss_cons (ps_if (pt_cmpR op_ge (pv 0) (pe_op op_pow pe_int pe_int) (nomark _)) (pss_one (ps_ret (pe_lst (pa_cons (pv 0) (pa_cons (pv 0) (pa_cons pe_int pa_nil)))))) pss_nil)
      (pss_one (ps_ret (pe_lst (pa_cons pe_int (pa_cons (pv 0) (pa_cons pe_int pa_nil))))))), ?_⟩
    refine ⟨_, rfl, _, _, rfl, rfl, ⟨by decide, by decide, by decide⟩, _, _, rfl, rfl, _, rfl, ?_⟩
    refine ite2 (fun _ => ?_) (fun _ => ?_)
    · exact ⟨_, rfl, _, rfl, (by show 3 ≤ sizeLine; decide), fun p hp => q p _ hp (same_upd hp) ⟨_, _, _, upd_same⟩⟩
    · exact ⟨_, rfl, (by show 3 ≤ sizeLine; decide), fun p hp => q p _ hp (same_upd hp) ⟨_, _, _, upd_same⟩⟩
theorem ok_Ltake {f : Addr} {fd : FuncData} (F : Fun K "_law_take" "_law_take" s_Ltake f fd) (T : Txt P w K mg )  :
    FnOk P w K mg base CX0 1 f fd ["_law_pool_here", "_law_many"] sp_Ltake := by
  refine F.ok sc_Ltake (fun vs H Q E h => ?_) (fun cdv A outer s H vs Q E hr h => ?_)
  · obtain ⟨p, many, rfl, _⟩ := h
    rfl
  · obtain ⟨p, many, rfl, ⟨x, y, z, hp⟩, hm, hb, q⟩ := h
    refine ⟨_, (pss_cons (ps_asg (pe_op op_add (pe_ix ix_list (pv 0) pe_int (fun _ _ => rfl)) pe_int) (pg_sub (pv 0) pe_int set_list))
      (pss_cons (ps_if (pt_cmpR op_gt (pe_ix ix_list (pv 0) pe_int (fun _ _ => rfl)) pe_int (nomark _)) (pss_cons (ps_set (i := 2) sc_Ltake.nd rfl (Or.inl rfl) (pe_op op_mod (pe_callTy call_int1 (by rfl) T.n_int (by decide +kernel) (pa_cons (pe_ix ix_list (pv 0) pe_int (fun _ _ => rfl)) pa_nil)) (pv 1)))
      (pss_cons (ps_asg (pe_op op_fdivW (pe_ix ix_list (pv 0) pe_int (fun _ _ => rfl)) (pv 1)) (pg_sub (pv 0) pe_int set_list))
      (pss_one (ps_ret (pv 2))))) pss_nil)
      (pss_cons (ps_set (i := 3) sc_Ltake.nd rfl (Or.inl rfl) (pe_op op_mod (pe_callTy call_int1 (by rfl) T.n_int (by decide +kernel) (pa_cons (pe_op op_mulA (pe_op op_add (pe_ix ix_list (pv 0) pe_int (fun _ _ => rfl)) (pe_op op_mulA pe_int (pe_ix ix_list (pv 0) pe_int (fun _ _ => rfl)))) pe_int) pa_nil)) pe_int))
      (pss_cons (ps_set (i := 3) sc_Ltake.nd rfl (Or.inl rfl) (pe_op op_mod (pe_callTy call_int1 (by rfl) T.n_int (by decide +kernel) (pa_cons (pe_op op_add (pe_op op_mulA (pv 3) pe_int) (pe_op op_mulA pe_int (pe_ix ix_list (pv 0) pe_int (fun _ _ => rfl)))) pa_nil)) pe_int))
      (pss_one (ps_ret (pe_op op_mod (pe_callTy call_int1 (by rfl) T.n_int (by decide +kernel) (pa_cons (pe_op op_fdivW (pv 3) pe_int) pa_nil)) (pv 1)))))))), ?_⟩
    refine ⟨_, rfl, p, _, _, _, rfl, rfl, SqL.of hp, at2, _, _, rfl, rfl, _, rfl, p, _, _, _, rfl, rfl, hp, rfl, ?_⟩
    refine ⟨_, rfl, p, _, _, _, rfl, rfl, SqL.of upd_same, at0, _, _, rfl, rfl, _, rfl, ?_⟩
    refine ite2 (fun _ => ?_) (fun _ => ?_)
    · refine ⟨_, rfl, p, _, _, _, rfl, rfl, SqL.of upd_same, at0, .inl ⟨_, rfl, _, rfl, _, _, rfl, rfl, hm, ?_⟩⟩
      refine ⟨_, rfl, p, _, _, _, rfl, rfl, SqL.of upd_same, at0, _, rfl, _, _, rfl, rfl, wide_div hm hb (by decide) (by decide), _, rfl, p, _, _, _, rfl, rfl, upd_same, rfl, ?_⟩
      exact ⟨_, rfl, q _ _ (Kp.trans Kp.upd Kp.upd) ⟨_, _, _, upd_same⟩ (Int.emod_nonneg _ (by omega)) (Int.emod_lt_of_pos _ hm)⟩
    · refine ⟨_, rfl, p, _, _, _, rfl, rfl, SqL.of upd_same, at1, _, rfl, p, _, _, _, rfl, rfl, SqL.of upd_same, at2, _, _, rfl, rfl, .inl (.inl ⟨by decide, by decide⟩), _, _, rfl, rfl, _, _, rfl, rfl, .inl (.inr ⟨by decide, by decide⟩), .inl ⟨_, rfl, _, _, rfl, rfl, (by show (0 : Int) < 2147483647; decide), ?_⟩⟩
      refine ⟨_, rfl, _, _, rfl, rfl, .inl (.inr ⟨by decide, by decide⟩), _, rfl, p, _, _, _, rfl, rfl, SqL.of upd_same, at2, _, _, rfl, rfl, .inl (.inl ⟨by decide, by decide⟩), _, _, rfl, rfl, .inl ⟨_, rfl, _, _, rfl, rfl, (by show (0 : Int) < 2147483399; decide), ?_⟩⟩
      refine ⟨_, rfl, _, _, rfl, rfl, wide_div (b := 300) (by decide) (by decide) (by decide) (by decide), .inl ⟨_, rfl, _, rfl, _, _, rfl, rfl, hm, ?_⟩⟩
      exact q _ _ Kp.upd ⟨_, _, _, upd_same⟩ (Int.emod_nonneg _ (by omega)) (Int.emod_lt_of_pos _ hm)
theorem okr_Lsame {f : Addr} {fd : FuncData} {j n : Nat} (F : Fun K "_law_same" "_law_same" s_Lsame f fd) (T : Txt P w K mg ) (c_Lsame : Cal CX0 P w K mg base j "_law_same" (sp_Lsame K n)) :
    FnOk P w K mg base CX0 (j + 1) f fd ["_law_told", "_law_due"] (sp_Lsame K (n + 1)) := by
  refine F.ok sc_Lsame (fun vs H Q E h => ?_) (fun cdv A outer s H vs Q E hr h => ?_)
  · obtain ⟨x, y, rfl, _⟩ := h
    rfl
  · obtain ⟨x, y, rfl, hv, q⟩ := h
    refine ⟨_, (pss_cons (ps_if (pt_cmpR op_isN (pv 1) pe_non (nomark _)) (pss_one (ps_ret (pe_cmpR op_isN (pv 0) pe_non (nomark _)))) pss_nil)
      (pss_cons (ps_if (pt_cmpR op_isB (pv 1) pe_bl (nomark _)) (pss_one (ps_ret (pe_cmpR op_isB (pv 0) pe_bl (nomark _)))) pss_nil)
      (pss_cons (ps_if (pt_cmpR op_isB (pv 1) pe_bl (nomark _)) (pss_one (ps_ret (pe_cmpR op_isB (pv 0) pe_bl (nomark _)))) pss_nil)
      (pss_cons (ps_if (pt_val (pe_callB call_isi (by rfl) T.n_isinstance (by decide +kernel) (pa_cons (pv 1) (pa_cons (pe_bltn (v := .ty "int") (by rfl) T.n_int (by decide +kernel) rfl) pa_nil)))) (pss_one (ps_ret (pe_and (pe_callB call_isi (by rfl) T.n_isinstance (by decide +kernel) (pa_cons (pv 0) (pa_cons (pe_bltn (v := .ty "int") (by rfl) T.n_int (by decide +kernel) rfl) pa_nil))) (pe_and (pe_not (pe_callB call_isi (by rfl) T.n_isinstance (by decide +kernel) (pa_cons (pv 0) (pa_cons (pe_bltn (v := .ty "bool") (by rfl) T.n_bool (by decide +kernel) rfl) pa_nil)))) (pe_one (pe_cmpR op_eq (pv 0) (pv 1) (nomark _))))))) pss_nil)
      (pss_cons (ps_if (pt_val (pe_callB call_isi (by rfl) T.n_isinstance (by decide +kernel) (pa_cons (pv 1) (pa_cons (pe_bltn (v := .ty "str") (by rfl) T.n_str (by decide +kernel) rfl) pa_nil)))) (pss_one (ps_ret (pe_and (pe_callB call_isi (by rfl) T.n_isinstance (by decide +kernel) (pa_cons (pv 0) (pa_cons (pe_bltn (v := .ty "str") (by rfl) T.n_str (by decide +kernel) rfl) pa_nil))) (pe_one (pe_cmpR op_eq (pv 0) (pv 1) (nomark _)))))) pss_nil)
      (pss_cons (ps_if (PW.pt (pw_and (pt_val (pe_callB call_isi (by rfl) T.n_isinstance (by decide +kernel) (pa_cons (pv 1) (pa_cons (pe_bltn (v := .ty "tuple") (by rfl) T.n_tuple (by decide +kernel) rfl) pa_nil)))) (pw_and1 (pt_not (pt_val (pe_callB call_isi (by rfl) T.n_isinstance (by decide +kernel) (pa_cons (pv 0) (pa_cons (pe_bltn (v := .ty "tuple") (by rfl) T.n_tuple (by decide +kernel) rfl) pa_nil)))))))) (pss_one (ps_ret pe_bl)) pss_nil)
      (pss_cons (ps_if (PW.pt (pw_and (pt_val (pe_callB call_isi (by rfl) T.n_isinstance (by decide +kernel) (pa_cons (pv 1) (pa_cons (pe_bltn (v := .ty "list") (by rfl) T.n_list (by decide +kernel) rfl) pa_nil)))) (pw_and1 (pt_not (pt_val (pe_callB call_isi (by rfl) T.n_isinstance (by decide +kernel) (pa_cons (pv 0) (pa_cons (pe_bltn (v := .ty "list") (by rfl) T.n_list (by decide +kernel) rfl) pa_nil)))))))) (pss_one (ps_ret pe_bl)) pss_nil)
      (pss_cons (ps_if (pt_cmpR op_ne (pe_callB call_len_seq (by rfl) T.n_len PySem.boot_len (pa_cons (pv 0) pa_nil)) (pe_callB call_len_seq (by rfl) T.n_len PySem.boot_len (pa_cons (pv 1) pa_nil)) (nomark _)) (pss_one (ps_ret pe_bl)) pss_nil)
      (pss_cons (ps_for PassesOwn.never rfl (pi_range1 (by rfl) T.n_range (pa_cons (pe_callB call_len_seq (by rfl) T.n_len PySem.boot_len (pa_cons (pv 1) pa_nil)) pa_nil)) (pg_name (i := 2) sc_Lsame.nd rfl (Or.inl rfl))
        (pss_one (ps_if (pt_not (pt_val (pc_c c_Lsame hr (Nat.le_refl _) rfl pass0 (pa_cons (pe_ix ix_seq (pv 0) (pv 2) (fun _ _ => rfl)) (pa_cons (pe_ix ix_seq (pv 1) (pv 2) (fun _ _ => rfl)) pa_nil))))) (pss_one (ps_ret pe_bl)) pss_nil)))
      (pss_one (ps_ret pe_bl))))))))))), ?_⟩
    have kL1 : PySem.W.kitOne K (.type "list") (.type "int") = some false := kit_ty (by decide +kernel)
    have kL2 : PySem.W.kitOne K (.type "list") (.type "str") = some false := kit_ty (by decide +kernel)
    have kL3 : PySem.W.kitOne K (.type "list") (.type "tuple") = some false := kit_ty (by decide +kernel)
    have kL4 : PySem.W.kitOne K (.type "list") (.type "list") = some true := kit_ty (by decide +kernel)
    have kT1 : PySem.W.kitOne K (.type "tuple") (.type "int") = some false := kit_ty (by decide +kernel)
    have kT2 : PySem.W.kitOne K (.type "tuple") (.type "str") = some false := kit_ty (by decide +kernel)
    have kT3 : PySem.W.kitOne K (.type "tuple") (.type "tuple") = some true := kit_ty (by decide +kernel)
    have kT4 : PySem.W.kitOne K (.type "tuple") (.type "list") = some false := kit_ty (by decide +kernel)
    have hv' : (flatD x = true ∧ x = y) ∨ (∃ m, n = m + 1 ∧ ∃ (a b : Addr) (xs ys : List V), x = .ref a ∧ y = .ref b ∧ SqL K H a xs ∧ SqL K H b ys ∧ xs.length ≤ sizeLine ∧ Pairs (SameV K H m) xs ys) ∨
        (∃ m, n = m + 1 ∧ ∃ (a b : Addr) (xs ys : List V), x = .ref a ∧ y = .ref b ∧ SqT K H a xs ∧ SqT K H b ys ∧ xs.length ≤ sizeLine ∧ Pairs (SameV K H m) xs ys) := by
      cases n with
      | zero => exact .inl hv
      | succ m =>
        rcases hv with h | h | h
        · exact .inl h
        · exact .inr (.inl ⟨m, rfl, h⟩)
        · exact .inr (.inr ⟨m, rfl, h⟩)
    rcases hv' with ⟨hf, e⟩ | ⟨m, rfl, a, b, xs, ys, rfl, rfl, ha, hb, hl, hp⟩ | ⟨m, rfl, a, b, xs, ys, rfl, rfl, ha, hb, hl, hp⟩
    · subst e
      cases x with
      | non => exact ⟨_, rfl, rfl, _, rfl, iteDT rfl ⟨_, rfl, rfl, q⟩⟩
      | bl b =>
        refine ⟨_, rfl, rfl, _, rfl, iteDF (by intro z; cases z) ?_⟩
        cases b with
        | true => exact ⟨_, rfl, _, rfl, _, rfl, iteDT rfl ⟨_, rfl, _, rfl, q⟩⟩
        | false => exact ⟨_, rfl, _, rfl, _, rfl, iteDF (by intro z; cases z) ⟨_, rfl, _, rfl, _, rfl, iteDT rfl ⟨_, rfl, _, rfl, q⟩⟩⟩
      | int i =>
        refine ⟨_, rfl, rfl, _, rfl, iteDF (by intro z; cases z) ?_⟩
        refine ⟨_, rfl, _, rfl, _, rfl, iteDF (by intro z; cases z) ?_⟩
        refine ⟨_, rfl, _, rfl, _, rfl, iteDF (by intro z; cases z) ?_⟩
        refine ⟨_, rfl, _, _, _, .type "int", true, rfl, .ty "int", .base (.int i), kit_ty (by decide +kernel), true, rfl, iteT ?_⟩
        refine ⟨_, rfl, _, _, _, .type "int", true, rfl, .ty "int", .base (.int i), kit_ty (by decide +kernel), true, rfl, iteT ?_⟩
        refine ⟨_, rfl, _, _, _, .type "bool", false, rfl, .ty "bool", .base (.int i), kit_ty (by decide +kernel), false, rfl, true, rfl, iteT ?_⟩
        refine ⟨_, rfl, _, rfl, rfl, ?_⟩
        rw [decide_eq_true (show V.int i = V.int i from rfl)]
        exact q
      | str i =>
        refine ⟨_, rfl, rfl, _, rfl, iteDF (by intro z; cases z) ?_⟩
        refine ⟨_, rfl, _, rfl, _, rfl, iteDF (by intro z; cases z) ?_⟩
        refine ⟨_, rfl, _, rfl, _, rfl, iteDF (by intro z; cases z) ?_⟩
        refine ⟨_, rfl, _, _, _, .type "int", false, rfl, .ty "int", .base (.str i), kit_ty (by decide +kernel), false, rfl, iteF ?_⟩
        refine ⟨_, rfl, _, _, _, .type "str", true, rfl, .ty "str", .base (.str i), kit_ty (by decide +kernel), true, rfl, iteT ?_⟩
        refine ⟨_, rfl, _, _, _, .type "str", true, rfl, .ty "str", .base (.str i), kit_ty (by decide +kernel), true, rfl, iteT ?_⟩
        refine ⟨_, rfl, _, rfl, rfl, ?_⟩
        rw [decide_eq_true (show V.str i = V.str i from rfl)]
        exact q
      | _ => exact absurd (show false = true from hf) Bool.false_ne_true
    · refine ⟨_, rfl, rfl, _, rfl, iteDF (by intro z; cases z) ?_⟩
      refine ⟨_, rfl, _, rfl, _, rfl, iteDF (by intro z; cases z) ?_⟩
      refine ⟨_, rfl, _, rfl, _, rfl, iteDF (by intro z; cases z) ?_⟩
      refine ⟨_, rfl, _, _, _, .type "int", false, rfl, .ty "int", tyx_list hb, kL1, false, rfl, iteF ?_⟩
      refine ⟨_, rfl, _, _, _, .type "str", false, rfl, .ty "str", tyx_list hb, kL2, false, rfl, iteF ?_⟩
      refine ⟨_, rfl, _, _, _, .type "tuple", false, rfl, .ty "tuple", tyx_list hb, kL3, false, rfl, iteF (iteF ?_)⟩
      refine ⟨_, rfl, _, _, _, .type "list", true, rfl, .ty "list", tyx_list hb, kL4, true, rfl, iteT ?_⟩
      refine ⟨_, rfl, _, _, _, .type "list", true, rfl, .ty "list", tyx_list ha, kL4, true, rfl, iteF ?_⟩
      refine ⟨_, rfl, a, _, rfl, .inl ha, _, rfl, b, _, rfl, .inl hb, rfl, _, rfl, ?_⟩
      rw [decide_eq_true (show V.int (xs.length : Nat) = V.int (ys.length : Nat) by rw [hp.1])]
      refine iteF ?_
      have hy : ys.length ≤ 16777216 := by rw [← hp.1, ← sizeLine_eq]; exact hl
      refine ⟨_, rfl, b, _, rfl, .inl hb, _, rfl, by omega, by omega, for_range (lo := 0) (n := ((ys.length : Nat) : Int).toNat) (fun i σ H' => H' = H ∧ ∃ v : Option V, σ = [some (.ref a), some (.ref b), v]) ⟨rfl, none, rfl⟩ ?_ ?_⟩
      · rintro i σ H' hi ⟨rfl, v, rfl⟩
        have i1 : i < ys.length := by omega
        have i2 : i < xs.length := by rw [hp.1]; exact i1
        have ex : xs[i]? = some xs[i] := List.getElem?_eq_getElem i2
        have ey : ys[i]? = some ys[i] := List.getElem?_eq_getElem i1
        have ex' := atI_nat ex
        have ey' := atI_nat ey
        rw [show ((i : Nat) : Int) = 0 + ((i : Nat) : Int) by omega] at ex' ey'
        refine ⟨_, rfl, _, rfl, .inl ⟨a, _, _, _, rfl, rfl, ha, ex', _, rfl, _, rfl, .inl ⟨b, _, _, _, rfl, rfl, hb, ey', _, _, rfl, hp.2 i _ _ ex ey, true, rfl, iteF ?_⟩⟩⟩
        exact ⟨rfl, _, rfl⟩
      · rintro σ H' ⟨rfl, v, rfl⟩
        exact q
    · refine ⟨_, rfl, rfl, _, rfl, iteDF (by intro z; cases z) ?_⟩
      refine ⟨_, rfl, _, rfl, _, rfl, iteDF (by intro z; cases z) ?_⟩
      refine ⟨_, rfl, _, rfl, _, rfl, iteDF (by intro z; cases z) ?_⟩
      refine ⟨_, rfl, _, _, _, .type "int", false, rfl, .ty "int", tyx_tup hb, kT1, false, rfl, iteF ?_⟩
      refine ⟨_, rfl, _, _, _, .type "str", false, rfl, .ty "str", tyx_tup hb, kT2, false, rfl, iteF ?_⟩
      refine ⟨_, rfl, _, _, _, .type "tuple", true, rfl, .ty "tuple", tyx_tup hb, kT3, true, rfl, iteT ?_⟩
      refine ⟨_, rfl, _, _, _, .type "tuple", true, rfl, .ty "tuple", tyx_tup ha, kT3, true, rfl, iteF ?_⟩
      refine ⟨_, rfl, _, _, _, .type "list", false, rfl, .ty "list", tyx_tup hb, kT4, false, rfl, iteF (iteF ?_)⟩
      refine ⟨_, rfl, a, _, rfl, .inr ha, _, rfl, b, _, rfl, .inr hb, rfl, _, rfl, ?_⟩
      rw [decide_eq_true (show V.int (xs.length : Nat) = V.int (ys.length : Nat) by rw [hp.1])]
      refine iteF ?_
      have hy : ys.length ≤ 16777216 := by rw [← hp.1, ← sizeLine_eq]; exact hl
      refine ⟨_, rfl, b, _, rfl, .inr hb, _, rfl, by omega, by omega, for_range (lo := 0) (n := ((ys.length : Nat) : Int).toNat) (fun i σ H' => H' = H ∧ ∃ v : Option V, σ = [some (.ref a), some (.ref b), v]) ⟨rfl, none, rfl⟩ ?_ ?_⟩
      · rintro i σ H' hi ⟨rfl, v, rfl⟩
        have i1 : i < ys.length := by omega
        have i2 : i < xs.length := by rw [hp.1]; exact i1
        have ex : xs[i]? = some xs[i] := List.getElem?_eq_getElem i2
        have ey : ys[i]? = some ys[i] := List.getElem?_eq_getElem i1
        have ex' := atI_nat ex
        have ey' := atI_nat ey
        rw [show ((i : Nat) : Int) = 0 + ((i : Nat) : Int) by omega] at ex' ey'
        refine ⟨_, rfl, _, rfl, .inr (.inl ⟨a, _, _, _, rfl, rfl, ha, ex', _, rfl, _, rfl, .inr (.inl ⟨b, _, _, _, rfl, rfl, hb, ey', _, _, rfl, hp.2 i _ _ ex ey, true, rfl, iteF ?_⟩)⟩)⟩
        exact ⟨rfl, _, rfl⟩
      · rintro σ H' ⟨rfl, v, rfl⟩
        exact q
theorem ok_Lsame {f : Addr} {fd : FuncData} (F : Fun K "_law_same" "_law_same" s_Lsame f fd) (T : Txt P w K mg ) (m : mg "_law_same" = some (.ref f)) (kp : PySem.W.keepIn K (.ref f) = true) (b : Binds K fd ["_law_told", "_law_due"] []) :
    ∀ n : Nat, FnOk P w K mg base CX0 (n + 1) f fd ["_law_told", "_law_due"] (sp_Lsame K n)
  | 0 => F.ok sc_Lsame (fun _ _ _ _ h => False.elim h) (fun _ _ _ _ _ _ _ _ _ h => False.elim h)
  | n + 1 => okr_Lsame F T (cal_mk (ok_Lsame F T m kp b n) m kp b)
theorem ok_serve_hour {f : Addr} {fd : FuncData} (F : Fun K "serve_hour" "serve_hour" s_serve_hour f fd) (T : Txt P w K mg )  :
    FnOk P w K mg base CX0 1 f fd ["cars", "served"] (sp_serve_hour K) := by
  refine F.ok sc_serve_hour (fun vs H Q E h => ?_) (fun cdv A outer s H vs Q E hr h => ?_)
  · obtain ⟨cl, sl, b, xs, cs, ss, rfl, _⟩ := h
    rfl
  · obtain ⟨cl, sl, bb, xs, cs, ss, rfl, hcl, hcs, hcz, hsl, q⟩ := h
    refine ⟨_, (pss_cons (ps_set (i := 2) sc_serve_hour.nd rfl (Or.inl rfl) (pe_lst pa_nil))
      (pss_cons (ps_set (i := 3) sc_serve_hour.nd rfl (Or.inl rfl) pe_int)
      (pss_cons (ps_for PassesOwn.never rfl (pi_enumS (by rfl) T.n_enumerate (pa_cons (pv 0) pa_nil)) (pg_tup rfl (pgs_cons (pg_name (i := 4) sc_serve_hour.nd rfl (Or.inl rfl)) (pgs_cons (pg_tup rfl (pgs_cons (pg_name (i := 5) sc_serve_hour.nd rfl (Or.inl rfl)) (pgs_cons (pg_name (i := 6) sc_serve_hour.nd rfl (Or.inl rfl)) (pgs_cons (pg_name (i := 7) sc_serve_hour.nd rfl (Or.inl rfl)) (pgs_cons (pg_name (i := 8) sc_serve_hour.nd rfl (Or.inl rfl)) pgs_nil))))) pgs_nil)))
        (pss_cons (ps_set (i := 9) sc_serve_hour.nd rfl (Or.inl rfl) (pe_ifExp (pt_cmpR op_in_seq (pv 4) (pv 1) (by rfl)) (pe_op op_sub (pv 8) pe_int) (pv 8)))
      (pss_one (ps_if (PW.pt (pw_and (pt_cmpR op_gt (pv 9) pe_int (nomark _)) (pw_and1 (pt_cmpR op_gt (pv 7) pe_int (nomark _))))) (pss_one (ps_expr (pe_bm PySem.F.plainAttrs_list PySem.F.slot_list_append PySem.F.type_list_append mt_append (pv 2) (pa_cons (pe_tup (pa_cons (pv 5) (pa_cons (pv 6) (pa_cons (pe_op op_sub (pv 7) pe_int) (pa_cons (pv 9) pa_nil))))) pa_nil)))) (pss_one (ps_if (pt_cmpR op_gt (pv 9) pe_int (nomark _)) (pss_one (ps_aug (i := 3) sc_serve_hour.nd rfl (Or.inl rfl) (pv 9) ip_add)) pss_nil))))))
      (pss_one (ps_ret (pe_tup (pa_cons (pe_callTy call_tuple_of (by rfl) T.n_tuple (by decide +kernel) (pa_cons (pv 2) pa_nil)) (pa_cons (pv 3) pa_nil)))))))), ?_⟩
    refine ⟨Nat.zero_le _, fun D hD => ?_⟩
    have s0 : Same H (upd H D (.lst [])) := same_upd hD
    have hlen := hcs.len
    refine ⟨_, rfl, cl, xs, bb, rfl, sqb_same hcl s0, for_enumB (K := K) (bb := bb) (a := cl) (xs := xs) (fun i σ H' => ∃ (v4 v5 v6 v7 v8 v9 : Option V) (sh : Int) (ys : List V), σ = [some (.ref cl), some (.ref sl), some (.ref D), some (.int sh), v4, v5, v6, v7, v8, v9] ∧ sh = shoN cs ss i ∧ Same H H' ∧ H' D = some (.lst ys) ∧ Cars K H' ys (aftN cs ss i))
      ⟨none, none, none, none, none, none, 0, [], rfl, rfl, s0, upd_same, .nil⟩ (fun i σ H' _ ⟨_, _, _, _, _, _, _, _, _, _, s1, _⟩ => sqb_same hcl s1) ?_ ?_⟩
    · rintro i y σ H' T' hy ⟨v4, v5, v6, v7, v8, v9, sh, ys, rfl, hsh, s1, hD1, hk1⟩ hT
      obtain ⟨c, hc, pc, rfl, hpc⟩ := hcs.at hy
      have hi : i < cs.length := (List.getElem?_eq_some_iff.mp hc).1
      have s1' : Same H' (upd H' T' (.tup [.int (i : Nat), .ref pc])) := same_upd hT
      have s2 := s1.trans s1'
      have hD2 := s1' _ _ hD1
      have hk2 := carsS hk1 s1'
      have hT2 : SqT K (upd H' T' (.tup [.int (i : Nat), .ref pc])) T' [.int (i : Nat), .ref pc] := SqT.of upd_same
      generalize upd H' T' (.tup [.int (i : Nat), .ref pc]) = H2 at *
      refine ⟨T', _, rfl, hT2, rfl, _, _, rfl, _, _, rfl, pc, _, rfl, sqt_same hpc s2, rfl, _, _, rfl, _, _, rfl, _, _, rfl, _, _, rfl, rfl, rfl, ?_⟩
      refine ⟨_, rfl, _, rfl, sl, _, rfl, .inl (Same.seq s2 hsl), rfl, flat_ints _, _, rfl, ?_⟩
      change (if inS ss i = true then _ else _)
      have hyl : ys.length ≤ 1000 := by
        have z := aftN_len cs ss i
        rw [hk2.len]
        omega
      have e1 := shoN_succ (ss := ss) hc
      have e2 := aftN_succ (ss := ss) hc
      refine iteB (fun hb => ⟨_, rfl, _, _, rfl, rfl, ?_⟩) (fun hb => ⟨_, rfl, ?_⟩)
      all_goals
        first
          | have hw : wnt ss i c = c.2.2.2 - 1 := by unfold wnt; rw [hb, if_pos rfl]
          | have hw : wnt ss i c = c.2.2.2 := by unfold wnt; rw [hb, if_neg Bool.false_ne_true]; omega
        refine ⟨_, rfl, _, _, rfl, rfl, _, rfl, ite2 (fun h1 => ⟨_, rfl, _, _, rfl, rfl, _, rfl, ite2 (fun h2 => ?_) (fun h2 => ?_)⟩) (fun h1 => ?_)⟩
        · have h1' := of_decide_eq_true h1
          have h2' := of_decide_eq_true h2
          refine ⟨_, rfl, .inl ⟨rfl, _, SqL.of hD2⟩, _, rfl, _, rfl, _, rfl, _, _, rfl, rfl, _, rfl, (by show 4 ≤ sizeLine; decide), fun t ht => ?_⟩
          have st := same_upd (o := .tup [.int c.1, .int c.2.1, .int (c.2.2.1 - 1), .int (wnt ss i c)]) ht
          rw [hw] at st
          have hD3 := st _ _ hD2
          refine ⟨D, _, _, rfl, rfl, hD3, small1000 hyl, ?_⟩
          refine ⟨_, _, _, _, _, _, sh, _, rfl, ?_, same_app (s2.trans st) hD, upd_same, ?_⟩
          · rw [hsh, e1]
            unfold sho1
            rw [if_neg (by omega)]
            omega
          · rw [e2]
            unfold aft1
            rw [if_pos (by omega), hw]
            have ntD : t ≠ D := fun z => by rw [z, hD2] at ht; cases ht
            exact (carsL (carsS hk2 st) Kp.upd hD3).snoc ⟨t, rfl, SqT.of (by rw [upd_ne ntD, upd_same])⟩
        · have h1' := of_decide_eq_true h1
          have h2' : ¬ c.2.2.1 > 1 := fun z => h2 (decide_eq_true z)
          refine ⟨_, rfl, _, _, rfl, rfl, _, rfl, ite2 (fun h3 => ?_) (fun h3 => absurd (decide_eq_true h1') h3)⟩
          refine ⟨_, rfl, _, rfl, _, _, rfl, rfl, ?_⟩
          refine ⟨_, _, _, _, _, _, _, _, rfl, ?_, s2, hD2, ?_⟩
          · rw [hsh, e1]
            unfold sho1
            rw [if_pos (by omega), hw]
          · rw [e2]
            unfold aft1
            rw [if_neg (by omega), List.append_nil]
            exact hk2
        · have h1' := h1
          simp only [decide_eq_true_eq] at h1'
          refine ⟨_, rfl, _, _, rfl, rfl, _, rfl, ite2 (fun h3 => absurd h3 h1) (fun h3 => ?_)⟩
          refine ⟨_, _, _, _, _, _, sh, _, rfl, ?_, s2, hD2, ?_⟩
          · rw [hsh, e1]
            unfold sho1
            rw [if_neg (by omega)]
            omega
          · rw [e2]
            unfold aft1
            rw [if_neg (by omega), List.append_nil]
            exact hk2
    · rintro σ H' ⟨v4, v5, v6, v7, v8, v9, sh, ys, rfl, hsh, s1, hD1, hk1⟩
      rw [hlen] at hsh hk1
      refine ⟨_, rfl, D, _, rfl, .inl ⟨SqL.of hD1, fun l hl => ?_⟩⟩
      refine ⟨_, rfl, (by show 2 ≤ sizeLine; decide), fun t ht => ?_⟩
      have sl1 := same_upd (o := .tup ys) hl
      have st1 := same_upd (o := .tup [.ref l, .int sh]) ht
      refine q _ t l ys ((s1.trans sl1).trans st1) (none_of (s1.trans sl1) ht) (by rw [← hsh]; exact upd_same) (sqt_same (SqT.of upd_same) st1) (carsS (carsS hk1 sl1) st1)
theorem ok_Lopen_cars {f : Addr} {fd : FuncData} (F : Fun K "_law_open_cars" "_law_open_cars" s_Lopen_cars f fd) (T : Txt P w K mg ) (c_Ltake : Cal CX0 P w K mg base 1 "_law_take" sp_Ltake) :
    FnOk P w K mg base CX0 2 f fd ["_law_pool_here", "_law_many", "_law_longest"] (sp_Lopen K) := by
  refine F.ok sc_Lopen_cars (fun vs H Q E h => ?_) (fun cdv A outer s H vs Q E hr h => ?_)
  · obtain ⟨p, n, m, rfl, _⟩ := h
    rfl
  · obtain ⟨p, n, m, rfl, hn, m0, m1, hp, q⟩ := h
    refine ⟨_, (pss_cons (ps_set (i := 3) sc_Lopen_cars.nd rfl (Or.inl rfl) (pe_lst pa_nil))
      (pss_cons (ps_for PassesOwn.never rfl (pi_range1 (by rfl) T.n_range (pa_cons (pv 1) pa_nil)) (pg_name (i := 4) sc_Lopen_cars.nd rfl (Or.inl rfl))
        (pss_cons (ps_set (i := 5) sc_Lopen_cars.nd rfl (Or.inl rfl) (pe_op op_add pe_int (pc_c c_Ltake hr (by decide) rfl pass0 (pa_cons (pv 0) (pa_cons (pv 2) pa_nil)))))
      (pss_cons (ps_set (i := 6) sc_Lopen_cars.nd rfl (Or.inl rfl) (pe_op op_add pe_int (pc_c c_Ltake hr (by decide) rfl pass0 (pa_cons (pv 0) (pa_cons (pv 5) pa_nil)))))
      (pss_cons (ps_set (i := 7) sc_Lopen_cars.nd rfl (Or.inl rfl) (pe_op op_add pe_int (pc_c c_Ltake hr (by decide) rfl pass0 (pa_cons (pv 0) (pa_cons (pv 5) pa_nil)))))
      (pss_cons (ps_set (i := 8) sc_Lopen_cars.nd rfl (Or.inl rfl) (pe_op op_sub (pv 5) (pv 7)))
      (pss_cons (ps_if (pt_cmpR op_gt (pv 8) (pe_op op_sub (pv 6) pe_int) (nomark _)) (pss_one (ps_set (i := 8) sc_Lopen_cars.nd rfl (Or.inl rfl) (pe_op op_sub (pv 6) pe_int))) pss_nil)
      (pss_one (ps_expr (pe_bm PySem.F.plainAttrs_list PySem.F.slot_list_append PySem.F.type_list_append mt_append (pv 3) (pa_cons (pe_tup (pa_cons (pv 5) (pa_cons (pv 6) (pa_cons (pv 7) (pa_cons (pe_op op_sub (pv 6) (pc_c c_Ltake hr (by decide) rfl pass0 (pa_cons (pv 0) (pa_cons (pe_op op_add (pv 8) pe_int) pa_nil)))) pa_nil))))) pa_nil))))))))))
      (pss_one (ps_ret (pv 3))))), ?_⟩
    refine ⟨Nat.zero_le _, fun D hD => ?_⟩
    have nD := pool_ne hp hD
    have s0 : Same H (upd H D (.lst [])) := same_upd hD
    refine ⟨_, rfl, _, rfl, by omega, by omega, for_range (lo := 0) (n := ((n : Nat) : Int).toNat) (fun i σ H' => ∃ (v4 v5 v6 v7 v8 : Option V) (xs : List V) (cs : List Car), σ = [some (.ref p), some (.int (n : Nat)), some (.int m), some (.ref D), v4, v5, v6, v7, v8] ∧ Kp p H H' ∧ PoolAt H' p ∧ H' D = some (.lst xs) ∧ Cars K H' xs cs ∧ cs.length = i ∧ ∀ c ∈ cs, CarG c)
      ⟨none, none, none, none, none, [], [], rfl, Kp.of s0, hp.same s0, upd_same, .nil, rfl, by intro c h; cases h⟩ ?_ ?_⟩
    · rintro i σ H' hi ⟨v4, v5, v6, v7, v8, xs, cs, rfl, k0, p0, hD0, hc0, hl0, hg⟩
      refine ⟨_, rfl, _, rfl, p, m, rfl, p0, m0, by omega, fun H1 r1 k1 p1 a0 a1 => ⟨_, _, rfl, rfl, ?_⟩⟩
      refine ⟨_, rfl, _, rfl, p, _, rfl, p1, by omega, by omega, fun H2 r2 k2 p2 b0 b1 => ⟨_, _, rfl, rfl, ?_⟩⟩
      refine ⟨_, rfl, _, rfl, p, _, rfl, p2, by omega, by omega, fun H3 r3 k3 p3 c0 c1 => ⟨_, _, rfl, rfl, ?_⟩⟩
      refine ⟨_, rfl, _, rfl, _, _, rfl, rfl, ?_⟩
      refine ⟨_, rfl, _, rfl, _, _, rfl, rfl, _, _, rfl, rfl, _, rfl, ?_⟩
      have k03 := (k1.trans k2).trans k3
      refine ite2 (fun hc => ⟨_, rfl, _, _, rfl, rfl, ?_⟩) (fun hc => ?_)
      all_goals
        simp only [decide_eq_true_eq] at hc
        refine ⟨_, rfl, .inl ⟨rfl, _, SqL.of (k03 _ _ nD hD0)⟩, _, rfl, _, rfl, _, rfl, _, rfl, _, rfl, _, rfl, _, _, rfl, rfl, p, _, rfl, p3, by omega, by omega, fun H4 r4 k4 p4 d0 d1 => ⟨_, _, rfl, rfl, (by show 4 ≤ sizeLine; decide), fun t ht => ?_⟩⟩
        have k04 := k03.trans k4
        have hD4 := k04 _ _ nD hD0
        have hc4 := carsP hc0 k04 p0
        have st := same_upd (o := .tup [.int (1 + r1), .int (1 + r2), .int (1 + r3), .int (1 + r2 - r4)]) ht
        refine ⟨D, _, _, rfl, rfl, st _ _ hD4, small1000 (by rw [hc0.len]; omega), ?_⟩
        have ntD : t ≠ D := fun z => by rw [z, hD4] at ht; cases ht
        refine ⟨_, _, _, _, _, _, cs ++ [(1 + r1, 1 + r2, 1 + r3, 1 + r2 - r4)], rfl, kp_app ((k0.trans k04).trans (Kp.of st)) hD, (p4.same st).kp Kp.upd nD.symm, upd_same, (carsL (carsS hc4 st) Kp.upd (st _ _ hD4)).snoc ⟨t, rfl, SqT.of (by rw [upd_ne ntD, upd_same])⟩, by rw [List.length_append, hl0] <;> rfl, fun c hc => ?_⟩
        rcases List.mem_append.mp hc with h | h
        · exact hg c h
        · rw [List.mem_singleton.mp h]
          exact ⟨by show 1 ≤ 1 + r3; omega, by show 1 ≤ 1 + r2 - r4; omega⟩
    · rintro σ H' ⟨v4, v5, v6, v7, v8, xs, cs, rfl, k0, p0, hD0, hc0, hl0, hg⟩
      exact ⟨_, rfl, q _ D xs cs k0 p0 hD hD0 hc0 (by omega) hg⟩
theorem ok_Lchosen {f : Addr} {fd : FuncData} (F : Fun K "_law_chosen" "_law_chosen" s_Lchosen f fd) (T : Txt P w K mg ) (c_Ltake : Cal CX0 P w K mg base 1 "_law_take" sp_Ltake) :
    FnOk P w K mg base CX0 2 f fd ["_law_pool_here", "_law_many"] (sp_Lchosen K) := by
  refine F.ok sc_Lchosen (fun vs H Q E h => ?_) (fun cdv A outer s H vs Q E hr h => ?_)
  · obtain ⟨p, n, rfl, _⟩ := h
    rfl
  · obtain ⟨p, n, rfl, hn, hp, q⟩ := h
    refine ⟨_, (pss_cons (ps_set (i := 2) sc_Lchosen.nd rfl (Or.inl rfl) (pe_ix ix_list (pe_lst (pa_cons pe_int (pa_cons pe_int (pa_cons pe_int (pa_cons pe_int pa_nil))))) (pc_c c_Ltake hr (by decide) rfl pass0 (pa_cons (pv 0) (pa_cons pe_int pa_nil))) (fun _ _ => rfl)))
      (pss_cons (ps_set (i := 3) sc_Lchosen.nd rfl (Or.inl rfl) (pc_c c_Ltake hr (by decide) rfl pass0 (pa_cons (pv 0) (pa_cons pe_int pa_nil))))
      (pss_cons (ps_set (i := 4) sc_Lchosen.nd rfl (Or.inl rfl) (pe_lst pa_nil))
      (pss_cons (ps_for PassesOwn.never rfl (pi_range1 (by rfl) T.n_range (pa_cons (pv 1) pa_nil)) (pg_name (i := 5) sc_Lchosen.nd rfl (Or.inl rfl))
        (pss_one (ps_if (pt_cmpR op_eq (pc_c c_Ltake hr (by decide) rfl pass0 (pa_cons (pv 0) (pa_cons (pv 2) pa_nil))) pe_int (nomark _)) (pss_one (ps_if (pt_cmpR op_eq (pv 3) pe_int (nomark _)) (pss_one (ps_expr (pe_bm PySem.F.plainAttrs_list PySem.F.slot_list_append PySem.F.type_list_append mt_append (pv 4) (pa_cons (pv 5) pa_nil)))) (pss_one (ps_if (pt_cmpR op_eq (pv 3) pe_int (nomark _)) (pss_one (ps_expr (pe_bm PySem.F.plainAttrs_list PySem.F.slot_list_insert PySem.F.type_list_insert mt_insert (pv 4) (pa_cons pe_int (pa_cons (pv 5) pa_nil))))) (pss_one (ps_expr (pe_bm PySem.F.plainAttrs_list PySem.F.slot_list_insert PySem.F.type_list_insert mt_insert (pv 4) (pa_cons (pc_c c_Ltake hr (by decide) rfl pass0 (pa_cons (pv 0) (pa_cons (pe_op op_add (pe_callB call_len_seq (by rfl) T.n_len PySem.boot_len (pa_cons (pv 4) pa_nil)) pe_int) pa_nil))) (pa_cons (pv 5) pa_nil))))))))) pss_nil)))
      (pss_one (ps_ret (pv 4))))))), ?_⟩
    refine ⟨(by show 4 ≤ sizeLine; decide), fun z hz => ?_⟩
    have sz := same_upd (o := .lst [.int 1, .int 5, .int 3, .int 2]) hz
    have nz := pool_ne hp hz
    refine ⟨_, rfl, p, 4, rfl, hp.same sz, by decide, by decide, fun H1 r1 k1 p1 a0 a1 => ?_⟩
    obtain ⟨th, hth, eth⟩ := pick4 (a := 1) (b := 5) (c := 3) (d := 2) a0 a1
    refine ⟨z, _, _, _, rfl, rfl, SqL.of (k1 _ _ nz upd_same), hth, ?_⟩
    refine ⟨_, rfl, p, 3, rfl, p1, by decide, by decide, fun H2 wy k2 p2 b0 b1 => ?_⟩
    refine ⟨Nat.zero_le _, fun D hD => ?_⟩
    have k02 : Kp p H H2 := ((Kp.of sz).trans k1).trans k2
    have nD := pool_ne p2 hD
    have hD0 := none_kp k02 nD hD
    have s0 : Same H2 (upd H2 D (.lst [])) := same_upd hD
    refine ⟨_, rfl, _, rfl, by omega, by omega, for_range (lo := 0) (n := ((n : Nat) : Int).toNat) (fun i σ H' => ∃ (v5 : Option V) (ss : List Int), σ = [some (.ref p), some (.int (n : Nat)), some (.int th), some (.int wy), some (.ref D), v5] ∧ Kp p H H' ∧ PoolAt H' p ∧ H' D = some (.lst (ss.map V.int)) ∧ ss.length ≤ i)
      ⟨none, [], rfl, k02.trans (Kp.of s0), p2.same s0, upd_same, Nat.zero_le _⟩ ?_ ?_⟩
    · rintro i σ H' hi ⟨v5, ss, rfl, k0, p0, hD1, hl0⟩
      refine ⟨_, rfl, _, rfl, p, th, rfl, p0, by omega, by omega, fun H3 r3 k3 p3 c0 c1 => ⟨rfl, _, rfl, ?_⟩⟩
      have hD3 := k3 _ _ nD hD1
      have sml : (ss.map V.int).length < sizeLine := small1000 (by rw [List.length_map]; omega)
      refine ite2 (fun _ => ?_) (fun _ => ⟨_, ss, rfl, k0.trans k3, p3, hD3, by omega⟩)
      refine ⟨_, rfl, rfl, _, rfl, ite2 (fun _ => ?_) (fun _ => ⟨_, rfl, rfl, _, rfl, ite2 (fun _ => ?_) (fun _ => ?_)⟩)⟩
      · refine ⟨_, rfl, .inl ⟨rfl, _, SqL.of hD3⟩, _, rfl, D, _, _, rfl, rfl, hD3, sml, ?_⟩
        exact ⟨_, ss ++ [0 + (i : Int)], rfl, kp_app (k0.trans k3) hD0, p3.kp Kp.upd nD.symm, by rw [upd_same, List.map_append] <;> rfl, by rw [List.length_append]; show ss.length + 1 ≤ _; omega⟩
      · refine ⟨_, rfl, .inl ⟨rfl, _, SqL.of hD3⟩, _, rfl, D, _, _, _, rfl, rfl, hD3, sml, by decide, by decide, ?_⟩
        exact ⟨_, (0 + (i : Int)) :: ss, rfl, kp_app (k0.trans k3) hD0, p3.kp Kp.upd nD.symm, by rw [upd_same]; rfl, by rw [List.length_cons]; omega⟩
      · refine ⟨_, rfl, .inl ⟨rfl, _, SqL.of hD3⟩, _, rfl, _, rfl, D, _, rfl, .inl (SqL.of hD3), _, _, rfl, rfl, p, _, rfl, p3, by omega, by rw [List.length_map]; omega, fun H4 r4 k4 p4 d0 d1 => ?_⟩
        have hD4 := k4 _ _ nD hD3
        rw [List.length_map] at d1
        refine ⟨_, rfl, D, _, _, _, rfl, rfl, hD4, sml, d0, by omega, ?_⟩
        refine ⟨_, ss.take r4.toNat ++ [0 + (i : Int)] ++ ss.drop r4.toNat, rfl, kp_app ((k0.trans k3).trans k4) hD0, p4.kp Kp.upd nD.symm, ?_, ?_⟩
        · rw [upd_same, List.map_append, List.map_append, List.map_take, List.map_drop]
          rfl
        · rw [List.length_append, List.length_append, List.length_take, List.length_drop]
          show min _ _ + 1 + _ ≤ _
          omega
    · rintro σ H' ⟨v5, ss, rfl, k0, p0, hD1, hl0⟩
      exact ⟨_, rfl, q _ D ss k0 p0 hD0 hD1 (by omega)⟩
theorem ok_law {f : Addr} {fd : FuncData} (F : Fun K "law" "law" s_law f fd) (T : Txt P w K mg ) (c_Lpool : Cal CX0 P w K mg base 1 "_law_pool" sp_Lpool) (c_Lcell : Cal CX0 P w K mg base 1 "_law_cell" (sp_Lcell K)) (c_Lopen_cars : Cal CX0 P w K mg base 2 "_law_open_cars" (sp_Lopen K)) (c_Ltake : Cal CX0 P w K mg base 1 "_law_take" sp_Ltake) (c_Lchosen : Cal CX0 P w K mg base 2 "_law_chosen" (sp_Lchosen K)) (c_serve_hour : Cal CX0 P w K mg base 1 "serve_hour" (sp_serve_hour K)) (c_Lsame : Cal CX0 P w K mg base 5 "_law_same" (sp_Lsame K 4)) :
    FnOk P w K mg base CX0 6 f fd ["_law_script"] (sp_law K) := by
  refine F.ok sc_law (fun vs H Q E h => ?_) (fun cdv A outer s H vs Q E hr h => ?_)
  · obtain ⟨a, ns, rfl, _⟩ := h
    rfl
  · obtain ⟨a, ns, rfl, hS, hlen, q⟩ := h
    refine ⟨_, (pss_cons (ps_set (i := 1) sc_law.nd rfl (Or.inl rfl) (pc_c c_Lpool hr (by decide) rfl pass0 (pa_cons (pc_c c_Lcell hr (by decide) rfl pass0 (pa_cons (pv 0) (pa_cons pe_int pa_nil))) pa_nil)))
      (pss_cons (ps_set (i := 2) sc_law.nd rfl (Or.inl rfl) (pc_c c_Lpool hr (by decide) rfl pass0 (pa_cons (pc_c c_Lcell hr (by decide) rfl pass0 (pa_cons (pv 0) (pa_cons pe_int pa_nil))) pa_nil)))
      (pss_cons (ps_set (i := 3) sc_law.nd rfl (Or.inr rfl) (pc_c c_Lopen_cars hr (by decide) rfl pass0 (pa_cons (pv 1) (pa_cons (pc_c c_Ltake hr (by decide) rfl pass0 (pa_cons (pv 1) (pa_cons (pe_ix ix_list (pe_lst (pa_cons pe_int (pa_cons pe_int (pa_cons pe_int (pa_cons pe_int pa_nil))))) (pc_c c_Ltake hr (by decide) rfl pass0 (pa_cons (pv 1) (pa_cons pe_int pa_nil))) (fun _ _ => rfl)) pa_nil))) (pa_cons pe_int pa_nil)))))
      (pss_cons (ps_for PassesOwn.never rfl (pi_range1 (by rfl) T.n_range (pa_cons (pe_op op_add pe_int (pc_c c_Ltake hr (by decide) rfl pass0 (pa_cons (pv 2) (pa_cons pe_int pa_nil)))) pa_nil)) (pg_name (i := 4) sc_law.nd rfl (Or.inl rfl))
        (pss_cons (ps_set (i := 5) sc_law.nd rfl (Or.inr rfl) (pc_c c_Lchosen hr (by decide) rfl pass0 (pa_cons (pv 2) (pa_cons (pe_callB call_len_seq (by rfl) T.n_len PySem.boot_len (pa_cons (pv 3) pa_nil)) pa_nil))))
      (pss_cons (ps_set (i := 6) sc_law.nd rfl (Or.inl rfl) (pe_lst (pa_cons (pe_callTy call_list_of (by rfl) T.n_list (by decide +kernel) (pa_cons (pv 3) pa_nil)) (pa_cons (pe_callTy call_list_of (by rfl) T.n_list (by decide +kernel) (pa_cons (pv 5) pa_nil)) pa_nil))))
      (pss_cons (ps_set (i := 7) sc_law.nd rfl (Or.inl rfl) pe_non)
      (C8.pss_cut (ps_if (pt_cmpR op_eq (pc_c c_Ltake hr (by decide) rfl pass0 (pa_cons (pv 2) (pa_cons pe_int pa_nil))) pe_int (nomark _)) (pss_one (ps_set (i := 7) sc_law.nd rfl (Or.inl rfl) (pc_c c_serve_hour hr (by decide) rfl pass0 (pa_cons (pe_ix ix_list (pv 6) pe_int (fun _ _ => rfl)) (pa_cons (pe_ix ix_list (pv 6) pe_int (fun _ _ => rfl)) pa_nil))))) (pss_one (ps_set (i := 7) sc_law.nd rfl (Or.inl rfl) (pc_c c_serve_hour hr (by decide) rfl pass0 (pa_cons (pe_callTy call_tuple_of (by rfl) T.n_tuple (by decide +kernel) (pa_cons (pv 3) pa_nil)) (pa_cons (pe_ix ix_list (pv 6) pe_int (fun _ _ => rfl)) pa_nil))))))
      (pss_cons (ps_set (i := 9) sc_law.nd rfl (Or.inr rfl) (pe_lc (own := [("_law_at", 8)]) (g := (gName 8)) (tt := tYes) rfl sc_law.nd (pi_range1 (by rfl) T.n_range (pa_cons (pe_callB call_len_seq (by rfl) T.n_len PySem.boot_len (pa_cons (pv 3) pa_nil)) pa_nil)) (blkOk_by (own := [("_law_at", 8)]) (N := ["_law_script", "_law_pool_here", "_law_chance", "_law_cars", "_law_turn", "_law_served", "_law_passed", "_law_told", "_law_at", "_law_rest", "_law_after", "_law_short"]) (sc := defScope s_law) (by decide +kernel)) (fun _ _ _ _ _ => (pg_name (i := 8) sc_law.nd rfl (Or.inl rfl))) (fun _ _ _ _ _ => pts_nil) (fun _ _ _ _ _ => (pe_op op_sub (pe_ix (show IxR _ (rIxT K) from ix_tup) (pe_ix (show IxR _ (rIxL K) from ix_list) (pv 3) (pv 8) (fun _ _ => rfl)) pe_int (fun _ _ => rfl)) (pe_callTy call_int1 (by rfl) T.n_int (by decide +kernel) (pa_cons (pe_cmpR (show OpR _ (compareOp .In) (rIn K false) from op_in_seq) (pv 8) (pv 5) (by rfl)) pa_nil))))))
      (pss_cons (ps_set (i := 10) sc_law.nd rfl (Or.inl rfl) (pe_lst pa_nil))
      (pss_cons (ps_for PassesOwn.never rfl (pi_range1 (by rfl) T.n_range (pa_cons (pe_callB call_len_seq (by rfl) T.n_len PySem.boot_len (pa_cons (pv 3) pa_nil)) pa_nil)) (pg_name (i := 8) sc_law.nd rfl (Or.inl rfl))
        (pss_one (ps_if (PW.pt (pw_and (pt_cmpR op_gt (pe_ix ix_list (pv 9) (pv 8) (fun _ _ => rfl)) pe_int (nomark _)) (pw_and1 (pt_cmpR op_gt (pe_ix ix_tup (pe_ix ix_list (pv 3) (pv 8) (fun _ _ => rfl)) pe_int (fun _ _ => rfl)) pe_int (nomark _))))) (pss_one (ps_expr (pe_bm PySem.F.plainAttrs_list PySem.F.slot_list_append PySem.F.type_list_append mt_append (pv 10) (pa_cons (pe_tup (pa_cons (pe_ix ix_tup (pe_ix ix_list (pv 3) (pv 8) (fun _ _ => rfl)) pe_int (fun _ _ => rfl)) (pa_cons (pe_ix ix_tup (pe_ix ix_list (pv 3) (pv 8) (fun _ _ => rfl)) pe_int (fun _ _ => rfl)) (pa_cons (pe_op op_sub (pe_ix ix_tup (pe_ix ix_list (pv 3) (pv 8) (fun _ _ => rfl)) pe_int (fun _ _ => rfl)) pe_int) (pa_cons (pe_ix ix_list (pv 9) (pv 8) (fun _ _ => rfl)) pa_nil))))) pa_nil)))) pss_nil)))
      (pss_cons (ps_set (i := 11) sc_law.nd rfl (Or.inl rfl) (pe_callB (cr_sum rfl) (by rfl) T.n_sum (by decide +kernel) (pa_cons (pe_lc (own := [("_law_at", 8)]) (g := (gName 8)) rfl sc_law.nd (pi_range1 (by rfl) T.n_range (pa_cons (pe_callB call_len_seq (by rfl) T.n_len PySem.boot_len (pa_cons (pv 3) pa_nil)) pa_nil)) (blkOk_by (own := [("_law_at", 8)]) (N := ["_law_script", "_law_pool_here", "_law_chance", "_law_cars", "_law_turn", "_law_served", "_law_passed", "_law_told", "_law_at", "_law_rest", "_law_after", "_law_short"]) (sc := defScope s_law) (by decide +kernel)) (fun _ _ _ _ _ => (pg_name (i := 8) sc_law.nd rfl (Or.inl rfl))) (fun _ _ _ _ _ => (pts_one (pt_cmpR op_eq (pe_ix (show IxR _ (rIxT K) from ix_tup) (pe_ix (show IxR _ (rIxL K) from ix_list) (pv 3) (pv 8) (fun _ _ => rfl)) pe_int (fun _ _ => rfl)) pe_int (nomark _)))) (fun _ _ _ _ _ => (pe_ix (show IxR _ (rIxL K) from ix_list) (pv 9) (pv 8) (fun _ _ => rfl)))) pa_nil)))
      (pss_cons (ps_if (PW.pt (pw_or (pt_not (pt_val (pe_callB call_isi (by rfl) T.n_isinstance (by decide +kernel) (pa_cons (pv 7) (pa_cons (pe_bltn (v := .ty "tuple") (by rfl) T.n_tuple (by decide +kernel) rfl) pa_nil))))) (pw_or (pt_cmpR op_ne (pe_callB call_len_seq (by rfl) T.n_len PySem.boot_len (pa_cons (pv 7) pa_nil)) pe_int (nomark _)) (pw_or1 (pt_not (pt_val (pc_c c_Lsame hr (by decide) rfl pass0 (pa_cons (pv 7) (pa_cons (pe_tup (pa_cons (pe_callTy call_tuple_of (by rfl) T.n_tuple (by decide +kernel) (pa_cons (pv 10) pa_nil)) (pa_cons (pv 11) pa_nil))) pa_nil))))))))) (pss_one (ps_ret pe_bl)) pss_nil)
      (pss_cons (ps_if (PW.pt (pw_or (pt_not (pt_val (pc_c c_Lsame hr (by decide) rfl pass0 (pa_cons (pe_ix ix_list (pv 6) pe_int (fun _ _ => rfl)) (pa_cons (pv 3) pa_nil))))) (pw_or1 (pt_not (pt_val (pc_c c_Lsame hr (by decide) rfl pass0 (pa_cons (pe_ix ix_list (pv 6) pe_int (fun _ _ => rfl)) (pa_cons (pv 5) pa_nil)))))))) (pss_one (ps_ret pe_bl)) pss_nil)
      (pss_one (ps_set (i := 3) sc_law.nd rfl (Or.inr rfl) (pv 10))))))))))))))
      (pss_one (ps_ret pe_bl)))))), ?_⟩
    refine ⟨_, rfl, a, ns, 0, rfl, hS, fun c0 _ => ⟨c0, rfl, fun z0 Ha m0 u0 P0 => ?_⟩⟩
    refine ⟨_, rfl, a, ns, 1, rfl, u0.seq hS, fun c1 _ => ⟨c1, rfl, fun z1 Hb m1 u1 P1 => ?_⟩⟩
    have n10 := pool_ne P0 m1
    refine ⟨_, rfl, _, rfl, (by show 4 ≤ sizeLine; decide), fun z hz => ?_⟩
    have sz := same_upd (o := .lst [.int 61, .int 10, .int 6, .int 4]) hz
    have P0b := P0.same u1
    have nz := pool_ne P0b hz
    refine ⟨_, rfl, z0, 4, rfl, P0b.same sz, by decide, by decide, fun H1 r1 k1 p1 a0 a1 => ?_⟩
    obtain ⟨tm, htm, etm⟩ := pick4 (a := 61) (b := 10) (c := 6) (d := 4) a0 a1
    refine ⟨z, _, _, _, rfl, rfl, SqL.of (k1 _ _ nz upd_same), htm, ?_⟩
    refine ⟨z0, tm, rfl, p1, by omega, by omega, fun H2 r2 k2 p2 b0 b1 => ?_⟩
    obtain ⟨n, rfl⟩ : ∃ n : Nat, r2 = (n : Int) := ⟨r2.toNat, (Int.toNat_of_nonneg b0).symm⟩
    refine ⟨z0, n, 12, rfl, by omega, by decide, by decide, p2, fun H3 cl xs cs k3 p3 hcl0 hcl hcs hcn hcg => ?_⟩
    have k13 : Kp z0 Hb H3 := (((Kp.of sz).trans k1).trans k2).trans k3
    have PC : PoolAt H3 z1 := P1.kp k13 n10
    have ncl : cl ≠ z1 := pool_ne (P1.kp (((Kp.of sz).trans k1).trans k2) n10) hcl0
    refine ⟨_, rfl, z1, 3, rfl, PC, by decide, by decide, fun H4 tr k4 p4 t0 t1 => ⟨_, _, rfl, rfl, ?_⟩⟩
    refine ⟨_, rfl, by omega, by omega, for_range (lo := 0) (n := (1 + tr).toNat) (fun i σ H' => ∃ (v4 v5 v6 v7 v8 v9 v10 v11 : Option V) (cl : Addr) (xs : List V) (cs : List Car), σ = [some (.ref a), some (.ref z0), some (.ref z1), some (.ref cl), v4, v5, v6, v7, v8, v9, v10, v11] ∧ PoolAt H' z1 ∧ cl ≠ z1 ∧ H' cl = some (.lst xs) ∧ Cars K H' xs cs ∧ cs.length ≤ 100 ∧ ∀ c ∈ cs, CarG c)
      ⟨none, none, none, none, none, none, none, none, cl, xs, cs, rfl, p4, ncl, k4 _ _ ncl hcl, carsP hcs k4 PC, by omega, hcg⟩ ?_ (fun σ H' _ => q H')⟩
    clear hcg hcn hcs hcl hcl0 ncl cl xs cs
    rintro i σ H' _ ⟨v4, v5, v6, v7, v8, v9, v10, v11, cl, xs, cs, rfl, p0, ncl, hcl, hcs, hcz, hcg⟩
    have hlx := hcs.len
    refine ⟨_, rfl, _, rfl, cl, _, rfl, .inl (SqL.of hcl), z1, _, rfl, by omega, p0, fun I1 sl ss k1 p1 hsl0 hsl hsn => ?_⟩
    have nsl := pool_ne p0 hsl0
    replace hcl := k1 _ _ ncl hcl
    replace hcs := carsP hcs k1 p0
    refine ⟨_, rfl, cl, _, rfl, .inl (SqL.of hcl), fun l1 hl1 => ?_⟩
    have S1 := same_upd (o := .lst xs) hl1
    have n1 := pool_ne p1 hl1
    refine ⟨_, rfl, sl, _, rfl, .inl (SqL.of (S1 _ _ hsl)), fun l2 hl2 => ?_⟩
    have S2 := same_upd (o := .lst (ss.map V.int)) hl2
    have n2 := pool_ne (p1.same S1) hl2
    refine ⟨(by show 2 ≤ sizeLine; decide), fun pl hpl => ?_⟩
    have S3 := same_upd (o := .lst [.ref l1, .ref l2]) hpl
    have n3 := pool_ne ((p1.same S1).same S2) hpl
    have S13 := (S1.trans S2).trans S3
    replace p1 := p1.same S13
    replace hcl := S13 _ _ hcl
    replace hcs := carsS hcs S13
    replace hsl := S13 _ _ hsl
    have hl1' := S3 _ _ (S2 _ _ (upd_same (H := I1) (a := l1) (o := .lst xs)))
    have hl2' := S3 _ _ (upd_same (H := upd I1 l1 (.lst xs)) (a := l2) (o := .lst (ss.map V.int)))
    have hpl' := upd_same (H := upd (upd I1 l1 (.lst xs)) l2 (.lst (ss.map V.int))) (a := pl) (o := .lst [.ref l1, .ref l2])
    generalize upd (upd (upd I1 l1 (.lst xs)) l2 (.lst (ss.map V.int))) pl (.lst [.ref l1, .ref l2]) = I2 at *
    refine ⟨fun σ' H' => ∃ (tl tp : Addr) (ys : List V), σ' = [some (.ref a), some (.ref z0), some (.ref z1), some (.ref cl), some (.int (0 + (i : Nat))), some (.ref sl), some (.ref pl), some (.ref tl), v8, v9, v10, v11] ∧ PoolAt H' z1 ∧ H' cl = some (.lst xs) ∧ Cars K H' xs cs ∧ H' sl = some (.lst (ss.map V.int)) ∧ H' l1 = some (.lst xs) ∧ H' l2 = some (.lst (ss.map V.int)) ∧ H' pl = some (.lst [.ref l1, .ref l2]) ∧ H' tl = some (.tup [.ref tp, .int (shoN cs ss cs.length)]) ∧ SqT K H' tp ys ∧ Cars K H' ys (aftN cs ss cs.length), ?_, ?_⟩
    · refine ⟨_, rfl, z1, 2, rfl, p1, by decide, by decide, fun I3 r3 k3 p3 _ _ => ⟨rfl, _, rfl, ?_⟩⟩
      replace hcl := k3 _ _ ncl hcl
      replace hcs := carsP hcs k3 p1
      replace hsl := k3 _ _ nsl hsl
      replace hl1' := k3 _ _ n1 hl1'
      replace hl2' := k3 _ _ n2 hl2'
      replace hpl' := k3 _ _ n3 hpl'
      refine ite2 (fun _ => ?_) (fun _ => ?_)
      · refine ⟨_, rfl, pl, _, _, _, rfl, rfl, SqL.of hpl', rfl, _, rfl, pl, _, _, _, rfl, rfl, SqL.of hpl', rfl, ?_⟩
        refine ⟨l1, l2, false, xs, cs, ss, rfl, SqL.of hl1', hcs, hcz, SqL.of hl2', fun I4 tl tp ys S4 _ h1 h2 h3 => ?_⟩
        exact ⟨tl, tp, ys, rfl, p3.same S4, S4 _ _ hcl, carsS hcs S4, S4 _ _ hsl, S4 _ _ hl1', S4 _ _ hl2', S4 _ _ hpl', h1, h2, h3⟩
      · refine ⟨_, rfl, cl, _, rfl, .inl ⟨SqL.of hcl, fun u hu => ?_⟩⟩
        have S5 := same_upd (o := .tup xs) hu
        refine ⟨_, rfl, pl, _, _, _, rfl, rfl, SqL.of (S5 _ _ hpl'), rfl, ?_⟩
        refine ⟨u, l2, true, xs, cs, ss, rfl, SqT.of upd_same, carsS hcs S5, hcz, SqL.of (S5 _ _ hl2'), fun I4 tl tp ys S4' _ h1 h2 h3 => ?_⟩
        have S4 := S5.trans S4'
        exact ⟨tl, tp, ys, rfl, p3.same S4, S4 _ _ hcl, carsS hcs S4, S4 _ _ hsl, S4 _ _ hl1', S4 _ _ hl2', S4 _ _ hpl', h1, h2, h3⟩
    · clear hcl hcs hsl hl1' hl2' hpl' p1
      rintro σ' J0 ⟨tl, tp, ys, rfl, pp, hcl, hcs, hsl, hl1, hl2, hpl, htl, htp, hys⟩
      have hlen2 := aftN_len cs ss cs.length
      refine ⟨_, rfl, cl, _, rfl, .inl (SqL.of hcl), _, rfl, by omega, by omega, fun D hD => lc_range (lo := 0) (n := ((xs.length : Nat) : Int).toNat) (fun i H' => Same J0 H' ∧ H' D = some (.lst (((List.range i).map fun k => wnt ss k (cs.getD k (0, 0, 0, 0))).map V.int)))
        ⟨same_upd hD, upd_same⟩ ?_ ?_⟩
      · rintro k J hk ⟨S, hD1⟩
        have hk' : k < cs.length := by omega
        have hc : cs[k]? = some cs[k] := List.getElem?_eq_getElem hk'
        obtain ⟨x, hx, pc, rfl, hpc⟩ := hcs.at' hc
        have hx' := atI_nat hx
        rw [show ((k : Nat) : Int) = 0 + ((k : Nat) : Int) by omega] at hx'
        refine ⟨rfl, tyes ?_⟩
        refine ⟨_, rfl, _, rfl, cl, _, _, _, rfl, rfl, SqL.of (S _ _ hcl), hx', pc, _, _, _, rfl, rfl, sqt_same hpc S, rfl, _, rfl, _, rfl, sl, _, rfl, .inl (SqL.of (S _ _ hsl)), rfl, flat_ints _, .inr ⟨_, rfl, _, _, rfl, rfl, ?_⟩⟩
        refine ⟨_, hD1, small1000 (by rw [List.length_map, List.length_map, List.length_range]; omega), same_app S hD, ?_⟩
        rw [upd_same, List.range_succ, List.map_append, List.map_append, List.map_singleton, List.map_singleton, getD_at hc, Int.zero_add]
        rfl
      · rintro J1 ⟨S1, hD1⟩
        have nDn : J0 D = none := hD
        rw [show ((xs.length : Nat) : Int).toNat = cs.length by omega] at hD1
        refine ⟨Nat.zero_le _, fun B hB => ?_⟩
        have SB := same_upd (o := .lst []) hB
        have hcl1 := SB _ _ (S1 _ _ hcl)
        refine ⟨_, rfl, cl, _, rfl, .inl (SqL.of hcl1), _, rfl, by omega, by omega, for_range (lo := 0) (n := ((xs.length : Nat) : Int).toNat) (fun i' σ H' => ∃ (v8 v11 : Option V) (zs : List V), σ = [some (.ref a), some (.ref z0), some (.ref z1), some (.ref cl), some (.int (0 + (i : Nat))), some (.ref sl), some (.ref pl), some (.ref tl), v8, some (.ref D), some (.ref B), v11] ∧ Same J1 H' ∧ H' B = some (.lst zs) ∧ Cars K H' zs (aftN cs ss i'))
          ⟨_, _, [], rfl, SB, upd_same, .nil⟩ ?_ ?_⟩
        · rintro k σ J hk ⟨v8, v11, zs, rfl, S, hB1, hzs⟩
          have hk' : k < cs.length := by omega
          have hc : cs[k]? = some cs[k] := List.getElem?_eq_getElem hk'
          obtain ⟨x, hx, pc, rfl, hpc⟩ := hcs.at' hc
          have hx' := atI_nat hx
          have S0 := S1.trans S
          have hD2 := S _ _ hD1
          have hr : (((List.range cs.length).map fun k => wnt ss k (cs.getD k (0, 0, 0, 0))).map V.int)[k]? = some (V.int (wnt ss k cs[k])) := by
            rw [List.getElem?_map, List.getElem?_map, List.getElem?_range hk', Option.map_some, Option.map_some, getD_at hc]
          have hr' := atI_nat hr
          rw [show ((k : Nat) : Int) = 0 + ((k : Nat) : Int) by omega] at hx' hr'
          have hpc' := sqt_same hpc S0
          have e2 := aftN_succ (ss := ss) hc
          have hzl : zs.length ≤ 1000 := by
            have z := aftN_len cs ss k
            rw [hzs.len]
            omega
          have no : ¬ (wnt ss k cs[k] > 0 ∧ cs[k].2.2.1 > 1) → Cars K J zs (aftN cs ss (k + 1)) := fun h => by
            rw [e2]
            unfold aft1
            rw [if_neg h, List.append_nil]
            exact hzs
          refine ⟨_, rfl, _, rfl, D, _, _, _, rfl, rfl, SqL.of hD2, hr', _, _, rfl, rfl, _, rfl, ite2 (fun h1 => ⟨_, rfl, _, rfl, cl, _, _, _, rfl, rfl, SqL.of (S0 _ _ hcl), hx', pc, _, _, _, rfl, rfl, hpc', rfl, _, _, rfl, rfl, _, rfl, ite2 (fun h2 => ?_) (fun h2 => ?_)⟩) (fun h1 => ?_)⟩
          · have h1' := of_decide_eq_true h1
            have h2' := of_decide_eq_true h2
            refine ⟨_, rfl, .inl ⟨rfl, _, SqL.of hB1⟩, _, rfl, _, rfl, cl, _, _, _, rfl, rfl, SqL.of (S0 _ _ hcl), hx', pc, _, _, _, rfl, rfl, hpc', rfl, ?_⟩
            refine ⟨_, rfl, _, rfl, cl, _, _, _, rfl, rfl, SqL.of (S0 _ _ hcl), hx', pc, _, _, _, rfl, rfl, hpc', rfl, ?_⟩
            refine ⟨_, rfl, _, rfl, cl, _, _, _, rfl, rfl, SqL.of (S0 _ _ hcl), hx', pc, _, _, _, rfl, rfl, hpc', rfl, _, _, rfl, rfl, ?_⟩
            refine ⟨_, rfl, _, rfl, D, _, _, _, rfl, rfl, SqL.of hD2, hr', (by show 4 ≤ sizeLine; decide), fun t ht => ?_⟩
            have st := same_upd (o := .tup [.int cs[k].1, .int cs[k].2.1, .int (cs[k].2.2.1 - 1), .int (wnt ss k cs[k])]) ht
            have hB2 := st _ _ hB1
            refine ⟨B, _, _, rfl, rfl, hB2, small1000 hzl, ?_⟩
            refine ⟨_, _, _, rfl, same_app (S.trans st) hB, upd_same, ?_⟩
            rw [e2]
            unfold aft1
            rw [if_pos ⟨h1', h2'⟩]
            have ntB : t ≠ B := fun z => by rw [z, hB1] at ht; cases ht
            exact (carsL (carsS hzs st) Kp.upd hB2).snoc ⟨t, rfl, SqT.of (by rw [upd_ne ntB, upd_same])⟩
          · exact ⟨_, _, _, rfl, S, hB1, no fun z => h2 (decide_eq_true z.2)⟩
          · exact ⟨_, _, _, rfl, S, hB1, no fun z => h1 (decide_eq_true z.1)⟩
        · rintro σ J2 ⟨v8, v11, zs, rfl, S2, hB1, hzs⟩
          rw [show ((xs.length : Nat) : Int).toNat = cs.length by omega] at hzs
          have S02 := S1.trans S2
          have hD2 := S2 _ _ hD1
          refine ⟨_, rfl, cl, _, rfl, .inl (SqL.of (S02 _ _ hcl)), _, rfl, by omega, by omega, fun E hE => lc_range (lo := 0) (n := ((xs.length : Nat) : Int).toNat) (fun i H' => Same J2 H' ∧ ∃ ls : List Int, H' E = some (.lst (ls.map V.int)) ∧ ls.sum = shoN cs ss i ∧ ls.length ≤ i)
            ⟨same_upd hE, [], upd_same, rfl, Nat.zero_le _⟩ ?_ ?_⟩
          · rintro k J hk ⟨S, ls, hE1, hls, hll⟩
            have hk' : k < cs.length := by omega
            have hc : cs[k]? = some cs[k] := List.getElem?_eq_getElem hk'
            obtain ⟨x, hx, pc, rfl, hpc⟩ := hcs.at' hc
            have hx' := atI_nat hx
            have S0 := S02.trans S
            have hr : (((List.range cs.length).map fun k => wnt ss k (cs.getD k (0, 0, 0, 0))).map V.int)[k]? = some (V.int (wnt ss k cs[k])) := by
              rw [List.getElem?_map, List.getElem?_map, List.getElem?_range hk', Option.map_some, Option.map_some, getD_at hc]
            have hr' := atI_nat hr
            rw [show ((k : Nat) : Int) = 0 + ((k : Nat) : Int) by omega] at hx' hr'
            have e1 := shoN_succ (ss := ss) hc
            have hg := hcg _ (List.mem_of_getElem? hc)
            have hge : 0 ≤ wnt ss k cs[k] := by
              have := hg.2
              unfold wnt
              split <;> omega
            have hg1 := hg.1
            refine ⟨rfl, _, rfl, _, rfl, cl, _, _, _, rfl, rfl, SqL.of (S0 _ _ hcl), hx', pc, _, _, _, rfl, rfl, sqt_same hpc S0, rfl, rfl, _, rfl, ite2 (fun h => ?_) (fun h => ?_)⟩
            · have h' : cs[k].2.2.1 = 1 := by
                have := of_decide_eq_true h
                exact V.int.inj this
              refine ⟨_, rfl, _, rfl, D, _, _, _, rfl, rfl, SqL.of (S _ _ hD2), hr', ?_⟩
              refine ⟨_, hE1, small1000 (by rw [List.length_map]; omega), same_app S hE, ls ++ [wnt ss k cs[k]], by rw [upd_same, List.map_append] <;> rfl, ?_, by rw [List.length_append]; show ls.length + 1 ≤ _; omega⟩
              rw [List.sum_append, hls, e1]
              unfold sho1
              by_cases hp : wnt ss k cs[k] > 0
              · rw [if_pos ⟨hp, by omega⟩]
                simp
              · rw [if_neg (fun z => hp z.1)]
                have : wnt ss k cs[k] = 0 := by omega
                rw [this]
                rfl
            · have h' : ¬ cs[k].2.2.1 = 1 := fun z => h (decide_eq_true (by rw [z]))
              refine ⟨S, ls, hE1, ?_, by omega⟩
              rw [hls, e1]
              unfold sho1
              rw [if_neg (fun z => z.2 (by omega))]
              simp
          · rintro J3 ⟨S3, ls, hE1, hls, hll⟩
            rw [show ((xs.length : Nat) : Int).toNat = cs.length by omega] at hls hll
            refine ⟨E, ls, rfl, SqL.of hE1, ?_⟩
            have S03 := S02.trans S3
            have kT3 : PySem.W.kitOne K (.type "tuple") (.type "tuple") = some true := kit_ty (by decide +kernel)
            have htl3 := S03 _ _ htl
            have hB3 := S3 _ _ hB1
            refine ⟨_, rfl, _, _, _, .type "tuple", true, rfl, .ty "tuple", tyx_tup (SqT.of htl3), kT3, true, rfl, iteF ?_⟩
            refine ⟨_, rfl, tl, _, rfl, .inr (SqT.of htl3), rfl, _, rfl, iteNe rfl ?_⟩
            refine ⟨_, rfl, _, rfl, B, _, rfl, .inl ⟨SqL.of hB3, fun u hu => ?_⟩⟩
            have S4 := same_upd (o := .tup zs) hu
            refine ⟨_, rfl, (by show 2 ≤ sizeLine; decide), fun t ht => ?_⟩
            have S5 := same_upd (o := .tup [.ref u, .int ls.sum]) ht
            have S45 := S4.trans S5
            have S05 := S03.trans S45
            refine ⟨_, _, rfl, .inr (.inr ⟨tl, t, _, _, rfl, rfl, SqT.of (S05 _ _ htl), SqT.of upd_same, (by rw [sizeLine_eq]; show 2 ≤ 16777216; decide), rfl, fun j x y hx hy => ?_⟩), true, rfl, iteF ?_⟩
            · match j, hx, hy with
              | 0, hx, hy =>
                cases hx
                cases hy
                exact cars_sameT (sqt_same htp S05) (SqT.of (S5 _ _ upd_same)) (carsS hys S05) (carsS hzs (S3.trans S45)) (by omega)
              | 1, hx, hy =>
                cases hx
                cases hy
                rw [hls]
                exact SameV.flat rfl
              | j + 2, hx, hy => simp at hx
            · refine ⟨_, rfl, pl, _, _, _, rfl, rfl, SqL.of (S05 _ _ hpl), rfl, _, rfl, _, _, rfl, cars_sameL (SqL.of (S05 _ _ hl1)) (SqL.of (S05 _ _ hcl)) (carsS hcs S05) (carsS hcs S05) (by omega), true, rfl, iteF ?_⟩
              refine ⟨_, rfl, pl, _, _, _, rfl, rfl, SqL.of (S05 _ _ hpl), rfl, _, rfl, _, _, rfl, same_ints (SqL.of (S05 _ _ hl2)) (SqL.of (S05 _ _ hsl)) (by omega), true, rfl, iteF ?_⟩
              have S35 := S3.trans S45
              refine ⟨_, rfl, _, _, _, _, _, _, _, _, B, zs, aftN cs ss cs.length, rfl, pp.same S05, ?_, S35 _ _ hB1, carsS hzs S35, by omega, aftN_good _⟩
              exact pool_ne (pp.same S1) hB
end
theorem all_mk {l : PySem.W.OpenLaw} {w : World} {K : PySem.W.Frag} {h : Heap} {mg : Str → Option Value} {fa  : Addr} {f_serve_hour : Addr} {od_serve_hour an_serve_hour : Option Addr} {sl_serve_hour : Array (Option Value)} {oc_serve_hour kV_serve_hour dc_serve_hour pm_serve_hour cd_serve_hour ct_serve_hour : Value} {f_Lcell : Addr} {od_Lcell an_Lcell : Option Addr} {sl_Lcell : Array (Option Value)} {oc_Lcell kV_Lcell dc_Lcell pm_Lcell cd_Lcell ct_Lcell : Value} {f_Lpool : Addr} {od_Lpool an_Lpool : Option Addr} {sl_Lpool : Array (Option Value)} {oc_Lpool kV_Lpool dc_Lpool pm_Lpool cd_Lpool ct_Lpool : Value} {f_Ltake : Addr} {od_Ltake an_Ltake : Option Addr} {sl_Ltake : Array (Option Value)} {oc_Ltake kV_Ltake dc_Ltake pm_Ltake cd_Ltake ct_Ltake : Value} {f_Lsame : Addr} {od_Lsame an_Lsame : Option Addr} {sl_Lsame : Array (Option Value)} {oc_Lsame kV_Lsame dc_Lsame pm_Lsame cd_Lsame ct_Lsame : Value} {f_Lopen_cars : Addr} {od_Lopen_cars an_Lopen_cars : Option Addr} {sl_Lopen_cars : Array (Option Value)} {oc_Lopen_cars kV_Lopen_cars dc_Lopen_cars pm_Lopen_cars cd_Lopen_cars ct_Lopen_cars : Value} {f_Lchosen : Addr} {od_Lchosen an_Lchosen : Option Addr} {sl_Lchosen : Array (Option Value)} {oc_Lchosen kV_Lchosen dc_Lchosen pm_Lchosen cd_Lchosen ct_Lchosen : Value} {f_law : Addr} {od_law an_law : Option Addr} {sl_law : Array (Option Value)} {oc_law kV_law dc_law pm_law cd_law ct_law : Value}
    (X : K.In h) (G : h.Ns mainGlobals mg) (hfa : mg "law" = some (.ref fa))
    (n_enumerate : PySem.W.nsIn K mainGlobals "enumerate" = some none)
    (n_tuple : PySem.W.nsIn K mainGlobals "tuple" = some none)
    (n_len : PySem.W.nsIn K mainGlobals "len" = some none)
    (n_int : PySem.W.nsIn K mainGlobals "int" = some none)
    (n_abs : PySem.W.nsIn K mainGlobals "abs" = some none)
    (n_isinstance : PySem.W.nsIn K mainGlobals "isinstance" = some none)
    (n_bool : PySem.W.nsIn K mainGlobals "bool" = some none)
    (n_str : PySem.W.nsIn K mainGlobals "str" = some none)
    (n_list : PySem.W.nsIn K mainGlobals "list" = some none)
    (n_range : PySem.W.nsIn K mainGlobals "range" = some none)
    (n_sum : PySem.W.nsIn K mainGlobals "sum" = some none)
    (a_serve_hour : PySem.W.nsIn K mainGlobals "serve_hour" = some (some (.ref f_serve_hour)))
    (l_serve_hour : K.lookup f_serve_hour = some ⟨oc_serve_hour, od_serve_hour, .func (PySem.W.fnOf "serve_hour" "serve_hour" (defArgs s_serve_hour) (defBody s_serve_hour) (defScope s_serve_hour) .none kV_serve_hour dc_serve_hour pm_serve_hour an_serve_hour cd_serve_hour ct_serve_hour), sl_serve_hour⟩)
    (q_serve_hour : PySem.W.codeIn K cd_serve_hour "serve_hour" = true)
    (k_serve_hour : PySem.W.keepIn K (.ref f_serve_hour) = true)
    (a_Lcell : PySem.W.nsIn K mainGlobals "_law_cell" = some (some (.ref f_Lcell)))
    (l_Lcell : K.lookup f_Lcell = some ⟨oc_Lcell, od_Lcell, .func (PySem.W.fnOf "_law_cell" "_law_cell" (defArgs s_Lcell) (defBody s_Lcell) (defScope s_Lcell) .none kV_Lcell dc_Lcell pm_Lcell an_Lcell cd_Lcell ct_Lcell), sl_Lcell⟩)
    (q_Lcell : PySem.W.codeIn K cd_Lcell "_law_cell" = true)
    (k_Lcell : PySem.W.keepIn K (.ref f_Lcell) = true)
    (a_Lpool : PySem.W.nsIn K mainGlobals "_law_pool" = some (some (.ref f_Lpool)))
    (l_Lpool : K.lookup f_Lpool = some ⟨oc_Lpool, od_Lpool, .func (PySem.W.fnOf "_law_pool" "_law_pool" (defArgs s_Lpool) (defBody s_Lpool) (defScope s_Lpool) .none kV_Lpool dc_Lpool pm_Lpool an_Lpool cd_Lpool ct_Lpool), sl_Lpool⟩)
    (q_Lpool : PySem.W.codeIn K cd_Lpool "_law_pool" = true)
    (k_Lpool : PySem.W.keepIn K (.ref f_Lpool) = true)
    (a_Ltake : PySem.W.nsIn K mainGlobals "_law_take" = some (some (.ref f_Ltake)))
    (l_Ltake : K.lookup f_Ltake = some ⟨oc_Ltake, od_Ltake, .func (PySem.W.fnOf "_law_take" "_law_take" (defArgs s_Ltake) (defBody s_Ltake) (defScope s_Ltake) .none kV_Ltake dc_Ltake pm_Ltake an_Ltake cd_Ltake ct_Ltake), sl_Ltake⟩)
    (q_Ltake : PySem.W.codeIn K cd_Ltake "_law_take" = true)
    (k_Ltake : PySem.W.keepIn K (.ref f_Ltake) = true)
    (a_Lsame : PySem.W.nsIn K mainGlobals "_law_same" = some (some (.ref f_Lsame)))
    (l_Lsame : K.lookup f_Lsame = some ⟨oc_Lsame, od_Lsame, .func (PySem.W.fnOf "_law_same" "_law_same" (defArgs s_Lsame) (defBody s_Lsame) (defScope s_Lsame) .none kV_Lsame dc_Lsame pm_Lsame an_Lsame cd_Lsame ct_Lsame), sl_Lsame⟩)
    (q_Lsame : PySem.W.codeIn K cd_Lsame "_law_same" = true)
    (k_Lsame : PySem.W.keepIn K (.ref f_Lsame) = true)
    (a_Lopen_cars : PySem.W.nsIn K mainGlobals "_law_open_cars" = some (some (.ref f_Lopen_cars)))
    (l_Lopen_cars : K.lookup f_Lopen_cars = some ⟨oc_Lopen_cars, od_Lopen_cars, .func (PySem.W.fnOf "_law_open_cars" "_law_open_cars" (defArgs s_Lopen_cars) (defBody s_Lopen_cars) (defScope s_Lopen_cars) .none kV_Lopen_cars dc_Lopen_cars pm_Lopen_cars an_Lopen_cars cd_Lopen_cars ct_Lopen_cars), sl_Lopen_cars⟩)
    (q_Lopen_cars : PySem.W.codeIn K cd_Lopen_cars "_law_open_cars" = true)
    (k_Lopen_cars : PySem.W.keepIn K (.ref f_Lopen_cars) = true)
    (a_Lchosen : PySem.W.nsIn K mainGlobals "_law_chosen" = some (some (.ref f_Lchosen)))
    (l_Lchosen : K.lookup f_Lchosen = some ⟨oc_Lchosen, od_Lchosen, .func (PySem.W.fnOf "_law_chosen" "_law_chosen" (defArgs s_Lchosen) (defBody s_Lchosen) (defScope s_Lchosen) .none kV_Lchosen dc_Lchosen pm_Lchosen an_Lchosen cd_Lchosen ct_Lchosen), sl_Lchosen⟩)
    (q_Lchosen : PySem.W.codeIn K cd_Lchosen "_law_chosen" = true)
    (k_Lchosen : PySem.W.keepIn K (.ref f_Lchosen) = true)
    (a_law : PySem.W.nsIn K mainGlobals "law" = some (some (.ref f_law)))
    (l_law : K.lookup f_law = some ⟨oc_law, od_law, .func (PySem.W.fnOf "law" "law" (defArgs s_law) (defBody s_law) (defScope s_law) .none kV_law dc_law pm_law an_law cd_law ct_law), sl_law⟩)
    (q_law : PySem.W.codeIn K cd_law "law" = true)
    (k_law : PySem.W.keepIn K (.ref f_law) = true) :
    ∃ fd : FuncData, (∀ (s : Shared) (v : Value), BindsTo s fd ⟨[v], []⟩ [("_law_script", v)]) ∧ ∀ base : Heap, K.In base → base.Ns mainGlobals mg → FnOk l.prog w K mg base CX0 6 fa fd ["_law_script"] (sp_law K) := by
  have e := hfa.symm.trans (PySem.W.mg_of X G a_law)
  cases e
  have T : Txt l.prog w K mg  := ⟨PySem.W.mg_none_of X G n_enumerate, PySem.W.mg_none_of X G n_tuple, PySem.W.mg_none_of X G n_len, PySem.W.mg_none_of X G n_int, PySem.W.mg_none_of X G n_abs, PySem.W.mg_none_of X G n_isinstance, PySem.W.mg_none_of X G n_bool, PySem.W.mg_none_of X G n_str, PySem.W.mg_none_of X G n_list, PySem.W.mg_none_of X G n_range, PySem.W.mg_none_of X G n_sum⟩
  have F_serve_hour := fun_mk (st := s_serve_hour) l_serve_hour q_serve_hour k_serve_hour
  have b_serve_hour := F_serve_hour.binds (ps := ["cars", "served"]) fun _ _ _ _ _ _ us hl => match us, hl with | [_, _], _ => rfl
  have F_Lcell := fun_mk (st := s_Lcell) l_Lcell q_Lcell k_Lcell
  have b_Lcell := F_Lcell.binds (ps := ["_law_script", "_law_at"]) fun _ _ _ _ _ _ us hl => match us, hl with | [_, _], _ => rfl
  have F_Lpool := fun_mk (st := s_Lpool) l_Lpool q_Lpool k_Lpool
  have b_Lpool := F_Lpool.binds (ps := ["_law_cell_here"]) fun _ _ _ _ _ _ us hl => match us, hl with | [_], _ => rfl
  have F_Ltake := fun_mk (st := s_Ltake) l_Ltake q_Ltake k_Ltake
  have b_Ltake := F_Ltake.binds (ps := ["_law_pool_here", "_law_many"]) fun _ _ _ _ _ _ us hl => match us, hl with | [_, _], _ => rfl
  have F_Lsame := fun_mk (st := s_Lsame) l_Lsame q_Lsame k_Lsame
  have b_Lsame := F_Lsame.binds (ps := ["_law_told", "_law_due"]) fun _ _ _ _ _ _ us hl => match us, hl with | [_, _], _ => rfl
  have F_Lopen_cars := fun_mk (st := s_Lopen_cars) l_Lopen_cars q_Lopen_cars k_Lopen_cars
  have b_Lopen_cars := F_Lopen_cars.binds (ps := ["_law_pool_here", "_law_many", "_law_longest"]) fun _ _ _ _ _ _ us hl => match us, hl with | [_, _, _], _ => rfl
  have F_Lchosen := fun_mk (st := s_Lchosen) l_Lchosen q_Lchosen k_Lchosen
  have b_Lchosen := F_Lchosen.binds (ps := ["_law_pool_here", "_law_many"]) fun _ _ _ _ _ _ us hl => match us, hl with | [_, _], _ => rfl
  refine ⟨PySem.W.fnOf "law" "law" (defArgs s_law) (defBody s_law) (defScope s_law) .none kV_law dc_law pm_law an_law cd_law ct_law, fun s v => .of_eq rfl, fun base _ _ => ?_⟩
  have c_serve_hour := cal_mk (ok_serve_hour (P := l.prog) (w := w) (base := base) F_serve_hour T ) (PySem.W.mg_of X G a_serve_hour) k_serve_hour b_serve_hour
  have c_Lcell := cal_mk (ok_Lcell (P := l.prog) (w := w) (base := base) F_Lcell T ) (PySem.W.mg_of X G a_Lcell) k_Lcell b_Lcell
  have c_Lpool := cal_mk (ok_Lpool (P := l.prog) (w := w) (base := base) F_Lpool T ) (PySem.W.mg_of X G a_Lpool) k_Lpool b_Lpool
  have c_Ltake := cal_mk (ok_Ltake (P := l.prog) (w := w) (base := base) F_Ltake T ) (PySem.W.mg_of X G a_Ltake) k_Ltake b_Ltake
  have c_Lsame := cal_mk (ok_Lsame (P := l.prog) (w := w) (base := base) F_Lsame T (PySem.W.mg_of X G a_Lsame) k_Lsame b_Lsame 4) (PySem.W.mg_of X G a_Lsame) k_Lsame b_Lsame
  have c_Lopen_cars := cal_mk (ok_Lopen_cars (P := l.prog) (w := w) (base := base) F_Lopen_cars T c_Ltake) (PySem.W.mg_of X G a_Lopen_cars) k_Lopen_cars b_Lopen_cars
  have c_Lchosen := cal_mk (ok_Lchosen (P := l.prog) (w := w) (base := base) F_Lchosen T c_Ltake) (PySem.W.mg_of X G a_Lchosen) k_Lchosen b_Lchosen
  exact ok_law (fun_mk (st := s_law) l_law q_law k_law) T c_Lpool c_Lcell c_Lopen_cars c_Ltake c_Lchosen c_serve_hour c_Lsame

theorem walk {l : PySem.W.OpenLaw} {q : Program} {loose : List Str} {XP : (Str → Option Value) → Heap → Prop} {YP : World → Heap → Prop} {d : DefRec} {K : Params → PySem.W.Frag} (hn : l.most = some 63) (hdf : d.params.defaults = [])
    (hY : ∀ (w : World) (h : Heap), YP w h → (K w.params).In h)
    (F : ∀ (w : World) (mg : Str → Option Value) (fa : Addr) (h : Heap), (K w.params).In h → h.Ns mainGlobals mg → mg d.name = some (.ref fa) →
      ∃ fd : FuncData, (∀ (s : Shared) (u : Value), BindsTo s fd ⟨[u], []⟩ [("_law_script", u)]) ∧ ∀ base : Heap, (K w.params).In base → base.Ns mainGlobals mg → FnOk l.prog w (K w.params) mg base CX0 6 fa fd ["_law_script"] (sp_law (K w.params))) :
    PySem.W.WalkO q loose XP YP l.row.toRowW d [] (fun f vs => PySem.call f vs) :=
  L2.walk_of (n := 63) (k := 6) (x := "_law_script") (CX := fun _ => CX0) (sp := fun w => sp_law (K w.params)) hn (by decide) hdf ⟨rfl, by decide, by decide⟩ hY F (fun _ _ a ns hl _ hS => ⟨a, ns, rfl, hS, hl, fun _ => rfl⟩) fun _ _ _ _ _ z => z
end My

open PySem PySem.W PyProof.Rows in
set_option maxRecDepth 100000 in
set_option maxHeartbeats 0 in
theorem PySem.Challenge.cw_onecable_k25_serve_one_hour_holds : PySem.Challenge.rw_onecable_k25_serve_one_hour.Holds := by
  w_on; o_law; k_head; (case hw => w_witness2)
  k_fill
  refine My.walk (l := PySem.Challenge.rw_onecable_k25_serve_one_hour) rfl rfl (fun w h Y => PySem.W.kIn_of Y) ?F
  case F =>
    intro w mg fa h KX G hmg
    refine' My.all_mk KX G hmg ?n_enumerate ?n_tuple ?n_len ?n_int ?n_abs ?n_isinstance ?n_bool ?n_str ?n_list ?n_range ?n_sum ?a_serve_hour ?l_serve_hour ?q_serve_hour ?k_serve_hour ?a_Lcell ?l_Lcell ?q_Lcell ?k_Lcell ?a_Lpool ?l_Lpool ?q_Lpool ?k_Lpool ?a_Ltake ?l_Ltake ?q_Ltake ?k_Ltake ?a_Lsame ?l_Lsame ?q_Lsame ?k_Lsame ?a_Lopen_cars ?l_Lopen_cars ?q_Lopen_cars ?k_Lopen_cars ?a_Lchosen ?l_Lchosen ?q_Lchosen ?k_Lchosen ?a_law ?l_law ?q_law ?k_law
    (case n_enumerate => k_is)
    (case n_tuple => k_is)
    (case n_len => k_is)
    (case n_int => k_is)
    (case n_abs => k_is)
    (case n_isinstance => k_is)
    (case n_bool => k_is)
    (case n_str => k_is)
    (case n_list => k_is)
    (case n_range => k_is)
    (case n_sum => k_is)
    (case a_serve_hour => k_is)
    (case l_serve_hour => k_is)
    (case q_serve_hour => k_is)
    (case k_serve_hour => k_is)
    (case a_Lcell => k_is)
    (case l_Lcell => k_is)
    (case q_Lcell => k_is)
    (case k_Lcell => k_is)
    (case a_Lpool => k_is)
    (case l_Lpool => k_is)
    (case q_Lpool => k_is)
    (case k_Lpool => k_is)
    (case a_Ltake => k_is)
    (case l_Ltake => k_is)
    (case q_Ltake => k_is)
    (case k_Ltake => k_is)
    (case a_Lsame => k_is)
    (case l_Lsame => k_is)
    (case q_Lsame => k_is)
    (case k_Lsame => k_is)
    (case a_Lopen_cars => k_is)
    (case l_Lopen_cars => k_is)
    (case q_Lopen_cars => k_is)
    (case k_Lopen_cars => k_is)
    (case a_Lchosen => k_is)
    (case l_Lchosen => k_is)
    (case q_Lchosen => k_is)
    (case k_Lchosen => k_is)
    (case a_law => k_is)
    (case l_law => k_is)
    (case q_law => k_is)
    (case k_law => k_is)

