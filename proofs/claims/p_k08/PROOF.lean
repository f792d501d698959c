import PyProof.Rows.All
import Wide.All
import OpenK.AllK
import Wide.FinOn
import HandS.ForExc
import HandS.ForMost
import HandS.TryOnly
import HandS.Wide
import HandS.Codes
import HandS.IsInst
import HandS.ExcIs
import HandS.More
import HandS.Star
import KE.RegKIsAll
import HandS.OwnEq
import KE.GoesEnum
import HandS.ExcSuper
import KE.KExcSuper
import HandS.FStr
import HandS.ExcField
import KE.RegKSuper
import HandS.OwnIter
import HandS.ClsMeth
import HandS.Text
import HandS.StrMore
import KE.KCallOwn
import PySem.Challenge.RW_onecable_k08_row_text_there_and_back
set_option Elab.async false
set_option maxRecDepth 100000
set_option maxHeartbeats 4000000
set_option linter.all false
/-! ### an own error over others over ValueError whose __init__ says super().__init__(f"..{place}") and self.place = place -/
namespace PySem
namespace ErrX
open PySem.W PySem.Calls PyProof.Rows PySem.HandSPX
def eA (p1 p2 : Pos) : Arguments := { posonlyargs := [], args := [{ arg := "self", annotation := none, pos := p1 }, { arg := "place", annotation := none, pos := p2 }], vararg := none, kwonlyargs := [], kw_defaults := [], kwarg := none, defaults := [] }
def eC (msg : Str) (a1 a2 a3 a4 a5 a6 a7 a8 : Pos) : Expr := .Call (.Attribute (.Call (.Name "super" a1) [] [] a2) "__init__" a3) [.JoinedStr [.Constant (.str msg) 0 a4, .FormattedValue (.Name "place" a5) (-1) none a6] a7] [] a8
def eB (msg : Str) (a1 a2 a3 a4 a5 a6 a7 a8 a9 b1 b2 b3 b4 : Pos) : List Stmt := [.Expr (eC msg a1 a2 a3 a4 a5 a6 a7 a8) a9,
  .Assign [.Attribute (.Name "self" b1) "place" b2] (.Name "place" b3) b4]
def eS : Scope := { kind := .function, names := [(PySem.Str.ofString "self", .local), (PySem.Str.ofString "place", .local), (PySem.Str.ofString "__class__", .free), (PySem.Str.ofString "super", .globalImplicit)], isGenerator := false, isCoroutine := false, more := [] }
/-- what the written part says of the class at C and of its __init__ at fI -/
structure ErrTxt (P : Program) (K : Frag) (mg : Str → Option Value) (C fI : Addr) : Prop where
  cls : ∃ nm q N bs bm sn sub ab col dd k0 k1 k2 k3 k5, K.lookup C = some (excClassObj nm q C N bs bm true sn sub ab col dd k0 k1 k2 k3 k5 "ValueError.__new__") ∧ refsVE bm = true
  su : ks_superIn K C C "__init__" = some (some (.builtin "ValueError.__init__"))
  sa : findIn K (.ref C) "__setattr__" = some (some (.builtin "object.__setattr__"))
  ga : findIn K (.ref C) "__getattribute__" = some (some (.builtin "BaseException.__getattribute__"))
  gg : findIn K (.ref C) "__getattr__" = some none
  noN : findIn K (.ref C) "place" = some none
  iC : findIn K (.ref C) "__init__" = some (some (.ref fI))
  tC : typeIn K (.ref fI) = some (.type "function")
  kC : keepIn K (.ref C) = true
  exC : subIn K (.ref C) (.type "BaseException") = some true
  veC : subIn K (.ref C) (.type "ValueError") = some true
  slC : mroIn K C (.ref C) = some true
  tyC : typeIn K (.ref C) = some (.type "type")
  hdC : hasDictIn K C = true
  opq : nsIn K cStatics "thirdparty.any" = some none
  sup : mg "super" = none
  top : (P.main.scope.names.lookup ("super" : Str)).isSome = false
  fn : ∃ (qn msg : Str) (oc : Value) (od : Option Addr) (doc pm : Value) (an : Option Addr) (cda : Addr) (ct : Value) (osl : Array (Option Value)) (cc : Addr) (p1 p2 a1 a2 a3 a4 a5 a6 a7 a8 a9 b1 b2 b3 b4 : Pos),
    K.lookup fI = some ⟨oc, od, .func (ksFn "__init__" qn (eA p1 p2) (eB msg a1 a2 a3 a4 a5 a6 a7 a8 a9 b1 b2 b3 b4) eS .none .none doc pm an (.ref cda) ct cc), osl⟩ ∧ codeIn K (.ref cda) qn = true ∧ msg.length ≤ 1000 ∧
    (∃ ccl cdd vs ccs file tf, K.lookup cda = some ⟨ccl, cdd, .fields vs, ccs⟩ ∧ vs[2]? = some (.str file tf) ∧ ((P.main.file : Str) == file) = true) ∧ (∃ cl cld csl, K.lookup cc = some ⟨cl, cld, .cell (some (.ref C)), csl⟩) ∧
    ∃ pl : Env → Sem Bool, ∀ env : Env, eval (eC msg a1 a2 a3 a4 a5 a6 a7 a8) env = (do
      let ov ← attributeBase (.Call (.Name "super" a1) [] [] a2) "__init__" env (eval (.Call (.Name "super" a1) [] [] a2) env)
      standAt a3.atName
      let (f, first) ← holding [ov] (getMethod ov "__init__" (pl env))
      callWith a8 f first (backTo a8 (starEach [.JoinedStr [.Constant (.str msg) 0 a4, .FormattedValue (.Name "place" a5) (-1) none a6] a7] env)) [])
section
variable {prog : Program} {w : World} {M : Model} {A : Around} {E : Value → Shared → Prop} {h : Heap} {g : Array GenState} {d : Drawn} {t : Nat} {os : OsState} {K : Frag} {mg : Str → Option Value}
theorem call_mw {nm q : Str} {C N : Addr} {bs bm : List Value} {hdct : Bool} {sn : List Str} {sub : List Value} {ab : Bool} {col : Option Bool} {dd : Option Addr} {k0 k1 k2 k3 k5 : Option Value} {u e t0 : Addr} {rest : List Value} {Q : Value → Shared → Prop}
    (hC : h.get? C = some (excClassObj nm q C N bs bm hdct sn sub ab col dd k0 k1 k2 k3 k5 "ValueError.__new__")) (he : h.get? e = some (excO C t0)) (hu : h.get? u = some (kxs_mw "ValueError.__init__" e)) (hrest : rest.length ≤ sizeLine)
    (hq : ∀ h' t1, (∀ b o, b ≠ e → h.get? b = some o → h'.get? b = some o) → h'.get? e = some (excO C t1) → Q .none ⟨h', g, d, t, os⟩) :
    wpAny (model prog w) A (call (.ref u) rest) Q E ⟨h, g, d, t, os⟩ := by
  refine wpAny_call (codeAny_of_tree ?_)
  show wpAny _ A.in1 (callAny (.ref u) ⟨rest, []⟩) _ _ _
  simp only [callAny]
  refine wpAny_bind (wpAny_load hu ?_)
  simp only [kxs_mw, show (Value.type "method-wrapper" == Value.type "method" || Value.type "method-wrapper" == Value.type "builtin_function_or_method" || Value.type "method-wrapper" == Value.type "method-wrapper") = true by decide, if_true]
  refine KFB.if_so (by decide) ?_
  refine wpAny_bind (check_bound_init F.excBase_ValueError.toExcCallFacts hC he rfl ?_)
  refine wpAny_bind (wpAny_pure (wpAny_pure ?_))
  refine ⟨plainId_quiet F.excBase_ValueError.init.plain _, codeAny_builtin F.excBase_ValueError.initEntry ?_⟩
  exact exc_init_tree (cls := .ref C) (t0 := t0) (dv := none) (c2 := .none) (c3 := .none) (b4 := .bool false) he hrest fun h' k e' _ => hq h' _ k e'
theorem ldX {env : Env} {s : Shared} {m : Str → Option Value} {x : Str} {pos : Pos} {v : Value} {Q : Value → Shared → Prop} (hn : s.heap.Ns env.locals m) (hv : m x = some v) (h : Q v s)
    (hk : env.scope.kind = .function := by rfl) (hl : env.kindOf x = some .local := by rfl) (hd : (x == ("__debug__" : Str)) = false := by decide) :
    wpAny M A (eval (.Name x pos) env) Q E s := wpAny_Name (wpAny_loadName_local hk hl hn hv h) hd
/-- super() in a method of the class at D, its first parameter x of the class at C -/
theorem sup_node {body : List Stmt} {q : Str} {scope : Scope} {p0 p1 : Pos} {attr : Str} {whole : Sem Value} {fd : FuncData} {ar : Arg} {vs : Array Value} {file : Str} {tf : Tok} {oc ccl cl : Value} {od cdd cld : Option Addr} {osl ccs csl : Array (Option Value)} {cdD : ClassData} {Q : Value → Shared → Prop}
    {s : Shared} {L f cda cc x C D : Addr} {ox : Obj} {odx : Option Obj} {m mb : Str → Option Value}
    (X : K.In s.heap) (hns : s.heap.Ns L m) (hg : s.heap.Ns mainGlobals mg) (hb : s.heap.Ns builtinsNs mb) (hmb : mb "super" = some (.type "super"))
    (hf : K.lookup f = some ⟨oc, od, .func fd, osl⟩) (hp : (fd.params.posonlyargs ++ fd.params.args).head? = some ar) (hv : m ar.arg = some (.ref x)) (I : InstAt s.heap x ox C odx)
    (hcode : K.lookup cda = some ⟨ccl, cdd, .fields vs, ccs⟩) (hvs : vs[2]? = some (.str file tf)) (hfile : ((prog.main.file : Str) == file) = true)
    (hcell : K.lookup cc = some ⟨cl, cld, .cell (some (.ref D)), csl⟩) (hD : clsIn K D = some cdD) (hsub : mroIn K C (.ref D) = some true) (hsuper : mg "super" = none)
    (hat : (attr == ("__class__" : Str)) = false) (hks : scope.names.lookup ("super" : Str) = some .globalImplicit) (hkc : scope.names.lookup ("__class__" : Str) = some .free) (hka : scope.names.lookup ar.arg = some .local) (hk : scope.kind = .function)
    (htop : (prog.main.scope.names.lookup ("super" : Str)).isSome = false)
    (hq : ∀ so h', h'.get? so = some (ks_superObj D x C) → s.heap.objs.size ≤ so → (∀ b o, s.heap.get? b = some o → h'.get? b = some o) → Q (.ref so) { s with heap := h' }) :
    _root_.PySem.wpAt (model prog w) A (.func body (ksEnv q scope L f (.ref cda) cc)) (attributeBase (.Call (.Name "super" p0) [] [] p1) attr (ksEnv q scope L f (.ref cda) cc) whole) Q E s := by
  obtain ⟨hh, g, d, t, os⟩ := s
  obtain ⟨oD, hD1, hD2⟩ : ∃ oD, hh.get? D = some oD ∧ oD.data = .cls cdD := by
    unfold clsIn at hD
    split at hD
    · rename_i c d cd' sl ho
      cases hD
      exact ⟨_, X _ _ ho, rfl⟩
    · cases hD
  refine ks_wpAt_super_base (env := ksEnv q scope L f (.ref cda) cc) hks hkc hat rfl (X _ _ hf) rfl hp rfl (X _ _ hcode) rfl hvs hfile htop ?_
  refine ks_loadName_global hk hks (loadGlobal_builtin (env := ksEnv q scope L f (.ref cda) cc) hg hsuper hb hmb ⟨rfl, ?_⟩)
  refine wpAny_loadName_free hk hkc rfl ⟨_, X _ _ hcell, rfl⟩ ?_
  refine wpAny_loadName_local hk hka hns hv ?_
  refine ks_wpAny_isType_cls hD1 hD2 ⟨rfl, ?_⟩
  refine ks_wpAny_call_super hD1 hD2 I.at_ I.cls (fun c e => ?_) (looks_mroIn X hsub) (fun h' e k => ?_)
  · have := I.no
    unfold notCls at this
    rw [e] at this
    exact Bool.noConfusion this
  · exact hq _ _ e (Nat.le_refl _) k
end
end ErrX
end PySem
namespace PySem
namespace ErrX
open PySem.W PySem.Calls PyProof.Rows PySem.HandSPX
theorem text_len {msg : Str} {i : Int} (hm : msg.length ≤ 1000) (hi : i.natAbs.log2 < 1920) : (Str.empty ++ msg ++ (Str.ofString (toString i))).length ≤ sizeLine := by
  have e := int_text_length_le (k := 1920) (by decide) hi
  rw [strLen_append, strLen_append, ofString_length, sizeLine_eq]
  have : Str.empty.length = 0 := rfl
  omega
/-- what __init__ leaves of a fresh exception at x -/
structure InitEnd (h h' : Heap) (x C dx t1 : Addr) (v : Value) : Prop where
  keep : ∀ b o, b ≠ x → h.get? b = some o → h'.get? b = some o
  obj : h'.get? x = some { cls := .ref C, dict := some dx, data := .fields #[.ref t1, .none, .none, .none, .bool false, .none] }
  dbig : h.objs.size ≤ dx
  dne : dx ≠ x
  ns : h'.Ns1 dx (fun y => if y = "place" then some v else none)
/-- a made error -/
structure OwnMade (h h' : Heap) (e C d : Addr) (v : Value) : Prop where
  keep : ∀ b o, h.get? b = some o → h'.get? b = some o
  new : h.objs.size ≤ e
  obj : ∃ oe vs, h'.get? e = some oe ∧ oe.cls = .ref C ∧ oe.dict = some d ∧ oe.data = .fields vs ∧ vs[1]? = some .none
  dbig : h.objs.size ≤ d
  dne : d ≠ e
  ns : h'.Ns1 d (fun y => if y = "place" then some v else none)
section
variable {prog : Program} {w : World} {A : Around} {E : Value → Shared → Prop} {R : Result → Shared → Prop} {s : Shared} {K : Frag} {mg mb : Str → Option Value} {C fI : Addr}
theorem cw1 {M : Model} {pos : Pos} {env : Env} {e : Expr} {rest : List Expr} {Q : Value → Shared → Prop} {u x : Addr} {i : String}
    (h : wpAny M A (spliced (backTo pos (starEach (e :: rest) env))) (fun vs s₁ => KxsAt i u x s₁.heap ∧ wpAny M A (call (.ref u) vs) Q E s₁) E s)
    (he : starEach (e :: rest) env = (false, eval e env) :: starEach rest env := by rfl) (hplain : (backTo pos (starEach rest env)).any (·.1) = false := by rfl) :
    wpAny M A (callWith pos (.ref u) [] (backTo pos (starEach (e :: rest) env)) []) Q E s := by
  rw [he] at h ⊢
  refine kxs_callWith (i := i) (x := x) (by show (false || (backTo pos (starEach rest env)).any (·.1)) = false; rw [hplain]; rfl) ?_
  exact evalArgs_plain h
theorem err_init (T : ErrTxt prog K mg C fI) {x t0 : Addr} {i : Int} {tv : Tok} (hi : i.natAbs.log2 < 1920) (X : K.In s.heap) (hlim : s.heap.NoLimit) (hg : s.heap.Ns mainGlobals mg) (hb : s.heap.Ns builtinsNs mb) (hmb : mb "super" = some (.type "super")) (hx : s.heap.get? x = some (excO C t0)) (kx : K.lookup x = none) (hroom : A.depth < recursionLimit)
    (hq : ∀ h' tk dx t1, InitEnd s.heap h' x C dx t1 (.int i tv) → R (.ok (.ret .none)) { s with heap := h', toks := tk }) :
    codeAny (model prog w) A (.call (.ref fI) ⟨[.ref x, .int i tv], []⟩) R s := by
  obtain ⟨qn, msg, oc, od, doc, pm, an, cda, ct, osl, cc, p1, p2, a1, a2, a3, a4, a5, a6, a7, a8, a9, b1, b2, b3, b4, ho, hcd, hml, ⟨ccl, cdd, vs, ccs, file, tf, hcode, hvs, hfile⟩, ⟨cl, cld, csl, hcell⟩, pl, hev⟩ := T.fn
  obtain ⟨nm, q, N, bs, bm, sn, sub, ab, col, dd, k0, k1, k2, k3, k5, hC, hbm⟩ := T.cls
  obtain ⟨hp, g, dr, tk, os⟩ := s
  have hcl : clsIn K C = some { name := nm, bases := bs, mro := .ref C :: bm, ns := N, qualname := q, hasDict := true, slotNames := sn, subclasses := sub, abstract := ab, collection := col, hasDel := false } := by unfold clsIn; rw [hC] <;> rfl
  have hal : alongIn K "__init__" bm = some (some (.builtin "ValueError.__init__")) := by
    have z := T.su
    unfold ks_superIn at z
    rw [hcl] at z
    have z' : alongIn K "__init__" (((Value.ref C :: bm).dropWhile (· != .ref C)).drop 1) = some (some (.builtin "ValueError.__init__")) := z
    rw [ESX.drop_own] at z'
    exact z'
  refine ks_codeAny_call_defAt (fd := ksFn "__init__" qn (eA p1 p2) (eB msg a1 a2 a3 a4 a5 a6 a7 a8 a9 b1 b2 b3 b4) eS .none .none doc pm an (.ref cda) ct cc) (binds := [("self", .ref x), ("place", .int i tv)]) hroom (X _ _ ho) rfl hlim (codeRec_of X hcd) rfl
    (BindsTo.of_eq (by first | rfl | with_unfolding_all rfl)) (show ∀ x ∈ eS.names, x.2 ≠ .cell by decide) (locs rfl) (fun h₁ hns hk₁ => ?_)
  have hxL : hp.objs.size ≠ x := Nat.ne_of_gt (Heap.lt_size hx)
  have X₁ : K.In h₁ := X.keeps hk₁
  have hx₁ := hk₁ _ _ hx
  have hg₁ := hg.keeps hk₁
  have hb₁ := hb.keeps hk₁
  have hlk : K.lookup C = _ := hC
  refine ks_wpAt_execs_cons (ks_wpAt_Expr_any (ks_wpAt_MethodCall (pl := pl _) ?_ (hev _)))
  refine sup_node (D := C) (s := ⟨h₁, g, dr, tk + 2, os⟩) (m := fun x_1 => ([("self", .ref x), ("place", .int i tv)] : List (Str × Value)).reverse.lookup x_1) X₁ hns hg₁ hb₁ hmb ho rfl (by first | rfl | with_unfolding_all rfl | kernel_rfl) (⟨hx₁, rfl, rfl, trivial⟩ : InstAt h₁ x (excO C t0) C none) hcode hvs hfile hcell hcl T.slC T.sup (by decide) rfl rfl rfl rfl T.top fun so h₂ hso hsz hk₂ => ?_
  have X₂ : K.In h₂ := X₁.keeps hk₂
  have hx₂ := hk₂ _ _ hx₁
  have hxC : x ≠ C := ks_ne X₂ (⟨hx₂, rfl, rfl, trivial⟩ : InstAt h₂ x (excO C t0) C none) hcl
  have I₂ : InstAt h₂ x (excO C t0) C none := ⟨hx₂, rfl, rfl, trivial⟩
  refine kxs_getMethod kxs_ValueError hso (looks_opaque X₂ T.opq) (l₀ := .ref C :: bm) (fun A Q E s k q => wpAny_bind ((looks_clsIn X₂ hcl) A _ E s k (wpAny_pure q))) (ESX.drop_own C bm) X₂ hal (I₂.type.andThen (looks_subIn X₂ T.veC)) hxC (by decide) ?_
  have hC₂ : ∀ hh : Heap, (∀ b o, hp.get? b = some o → hh.get? b = some o) → hh.get? C = _ := fun hh k => k _ _ (X _ _ hC)
  have k02 : ∀ b o, hp.get? b = some o → h₂.get? b = some o := fun b o e => hk₂ b o (hk₁ b o e)
  have kp : ∀ b o, h₂.get? b = some o → (h₂.push (kxs_mw "ValueError.__init__" x)).get? b = some o := fun b o e => Heap.get?_push_of_some _ e
  have hu : (h₂.push (kxs_mw "ValueError.__init__" x)).get? h₂.objs.size = some (kxs_mw "ValueError.__init__" x) := Heap.get?_push_size _ rfl
  have hns₂ := (hns.keeps hk₂).keeps kp
  refine cw1 (i := "ValueError.__init__") (x := x) (args_cons (wpAny_JoinedStr ?_))
  show Joins _ _ _ [eval (.Constant (.str msg) 0 a4) _, eval (.FormattedValue (.Name "place" a5) (-1) none a6) _] _ _ _
  have hz1 : (Str.empty ++ msg).length ≤ sizeLine := by
    rw [strLen_append, sizeLine_eq]
    have : Str.empty.length = 0 := rfl
    omega
  have hz2 := text_len (i := i) hml hi
  refine Calls.Constant_str ⟨msg, _, rfl, hz1, ?_⟩
  refine wpAny_FormattedValue_plain (ldX (v := .int i tv) (m := fun x_1 => ([("self", .ref x), ("place", .int i tv)] : List (Str × Value)).reverse.lookup x_1) hns₂ (by first | rfl | with_unfolding_all rfl | kernel_rfl) (wpAny_formatField_int hi ⟨_, _, rfl, hz2, ?_⟩))
  refine ⟨hz2, args_nil ⟨hu, ?_⟩⟩
  refine call_mw (C := C) (hC₂ _ fun b o e => kp b o (k02 b o e)) (kp _ _ hx₂) hu (show (1 : Nat) ≤ sizeLine by rw [sizeLine_eq]; decide) fun h₄ t1 k₄ hx₄ => ?_
  have hxs : x < hp.objs.size := Heap.lt_size hx
  have k04 : ∀ b o, b ≠ x → hp.get? b = some o → h₄.get? b = some o := fun b o hb e => k₄ b o hb (kp b o (k02 b o e))
  have X₄ : K.In h₄ := fun a o e => k04 a o (fun z => by rw [z, kx] at e; cases e) (X a o e)
  have hns₄ : h₄.Ns hp.objs.size (fun x_1 => ([("self", .ref x), ("place", .int i tv)] : List (Str × Value)).reverse.lookup x_1) := by
    obtain ⟨oL, es, ep, e1, r⟩ := hns₂
    exact ⟨oL, es, ep, k₄ _ _ hxL e1, r⟩
  refine ks_wpAt_execs_cons (wpAt_of_wpAny (plainObj_wpAny_Assign_Attribute ?_))
  refine ldX (v := .int i tv) hns₄ (by first | rfl | with_unfolding_all rfl | kernel_rfl) (ldX (v := .ref x) hns₄ (by first | rfl | with_unfolding_all rfl | kernel_rfl) ?_)
  refine set_plain X₄ (ox := excO C t1) (od := none) ⟨hx₄, rfl, rfl, trivial⟩ T.sa ?_
  refine exc_osa X₄ hx₄ hcl (show refsVE (.ref C :: bm) = true from hbm) rfl T.noN (fun h₅ tk₅ dx k₅ dn dne hx₅ hn₅ => ?_)
  refine wpAt_of_wpAny (wpAny_execs_nil (hq h₅ tk₅ dx t1 ⟨fun b o hb e => k₅ b o hb (k04 b o hb e), hx₅, ?_, dne, hn₅⟩))
  have z : hp.objs.size < h₄.objs.size := hns₄.lt
  exact Nat.le_of_lt (Nat.lt_of_lt_of_le z dn)
theorem err_made (T : ErrTxt prog K mg C fI) {i : Int} {tv : Tok} (hi : i.natAbs.log2 < 1920) (X : K.In s.heap) (hlim : s.heap.NoLimit) (hg : s.heap.Ns mainGlobals mg) (hb : s.heap.Ns builtinsNs mb) (hmb : mb "super" = some (.type "super")) (hroom : A.depth + 1 < recursionLimit)
    (hq : ∀ h' tk e d, OwnMade s.heap h' e C d (.int i tv) → R (.ok (.ret (.ref e))) { s with heap := h', toks := tk }) :
    codeAny (model prog w) A (.call (.ref C) ⟨[.int i tv], []⟩) R s := by
  obtain ⟨nm, q, N, bs, bm, sn, sub, ab, col, dd, k0, k1, k2, k3, k5, hC, hbm⟩ := T.cls
  obtain ⟨hp, g, dr, tk, os⟩ := s
  have k : ∀ b o, hp.get? b = some o → ((hp.push (kdv_tup [.int i tv])).push (excO C hp.objs.size)).get? b = some o := fun b o e => Heap.get?_push_of_some _ (Heap.get?_push_of_some _ e)
  have hget : ((hp.push (kdv_tup [.int i tv])).push (excO C hp.objs.size)).get? (hp.objs.size + 1) = some (excO C hp.objs.size) := by heap_get
  have hnx : K.lookup (hp.objs.size + 1) = none := by
    cases e : K.lookup (hp.objs.size + 1) with
    | none => rfl
    | some o =>
      have z : hp.get? (hp.objs.size + 1) = some o := X _ _ e
      exact absurd (Nat.lt_of_succ_lt (Heap.lt_size z)) (Nat.lt_irrefl _)
  refine call_own F.excBase_ValueError (fun X => refsVE_contains X bm hbm) (X _ _ hC) (looks_findIn X T.iC) (fun self => bind_fn X self T.tC) (show (1 : Nat) ≤ sizeLine by rw [sizeLine_eq]; decide) ?_
  refine err_init (s := ⟨(hp.push (kdv_tup [.int i tv])).push (excO C hp.objs.size), g, dr, tk, os⟩) T hi (X.keeps k) (hlim.keeps k) (hg.keeps k) (hb.keeps k) hmb hget hnx ?_ fun h' tk' dx t1 ⟨k', hx, dn, dne, hns⟩ => ?_
  · show A.depth + 1 < recursionLimit
    exact hroom
  · have old : ∀ b o, hp.get? b = some o → h'.get? b = some o := fun b o e => k' b o (Nat.ne_of_lt (Nat.lt_succ_of_lt (Heap.lt_size e))) (k b o e)
    have z : hp.objs.size + 1 + 1 ≤ dx := by
      first
        | (simpa only [Heap.size_push] using dn)
        | exact dn
        | (have q := dn; rw [Heap.size_push, Heap.size_push] at q; exact q)
    exact ⟨rfl, hq h' tk' (hp.objs.size + 1) dx ⟨old, Nat.le_succ _, ⟨_, _, hx, rfl, rfl, rfl, rfl⟩, Nat.le_trans (Nat.le_trans (Nat.le_succ _) (Nat.le_succ _)) z, dne, hns⟩⟩
end
end ErrX
end PySem
namespace L2
open PySem PySem.Spec PyProof.Rows
theorem relO_place {v : V} {v' : Value} (r : RelV v v') (f : Str) : RelO (List.lookup f [(("place" : Str), v)]) (if f = "place" then some v' else none) := by
  by_cases hw : f = "place"
  · subst hw
    rw [if_pos rfl]
    have q : List.lookup ("place" : Str) [(("place" : Str), v)] = some v := by simp [List.lookup]
    rw [q]
    exact r
  · rw [if_neg hw]
    have qw : (f == ("place" : Str)) = false := by simpa using hw
    have q2 : List.lookup f [(("place" : Str), v)] = none := by simp [List.lookup, qw]
    rw [q2]
    trivial
section
variable {X : Cx} {C fI : Addr}
/-- Err(e) -/
def tMkErr (C : Addr) (ta : TA) : L2.St → Hp → XK → Prop := fun σ H Q => ta σ H fun vs H1 => ∃ i : Int, vs = [.int i] ∧ i.natAbs.log2 < 1920 ∧ ∀ d, H1 d = none → Q (.ref C) (some d) (upd H1 d (.xd [(("place" : Str), .int i)]))
theorem pmk_err {a : Expr} {ta : TA} {x : Str} {p pos : Pos} {k : Nat} (T : PySem.ErrX.ErrTxt X.prog X.K X.mg C fI) (gC : X.mg x = some (.ref C)) (hr : Room k X.A) (ha : PA X [a] ta) (hg : Gl X x := by rfl) (hdb : (x == ("__debug__" : Str)) = false := by decide)
    (he : starEach (a :: []) X.env = (false, eval a X.env) :: starEach [] X.env := by rfl) (hpl : (backTo pos (starEach [] X.env)).any (·.1) = false := by rfl) :
    PMk X (.Call (.Name x p) [a] [] pos) (tMkErr C ta) := by
  intro pins s σ H Q I h
  refine wpAny_Call_Name_kw (ld_glob I hg gC ?_ hdb)
  refine PySem.W.callWith_K (h₀ := X.base) I.ok.mod.kin T.kC (thn (ha.run pos pins s σ H _ I h) fun us s1 hh => ?_) he hpl
  obtain ⟨vs, H1, I1, r1, i, ev, hi, q1⟩ := hh
  subst ev
  refine ⟨I1.kIn, ?_⟩
  cases r1 with
  | cons rv rn =>
    rename_i v' us'
    cases rn
    obtain ⟨tv, rfl⟩ := rv
    show wpAny _ _ (call (.ref C) [.int i tv]) _ _ _
    have hlim := I1.nolimit
    obtain ⟨mb, hb, hmb⟩ := I1.mod.blt
    have hg1 := I1.mod.glob.keeps I1.bk
    have hb1 := hb.keeps I1.bk
    have hsup : mb "super" = some (.type "super") := (hmb "super" (by decide)).trans (by first | rfl | kernel_rfl | decide +kernel)
    have hkIn := I1.kIn
    obtain ⟨hp, g, dr, tk, os⟩ := s1
    refine wpAny_call (PySem.ErrX.err_made T hi hkIn hlim hg1 hb1 hsup (by have := hr.dp; omega) fun h' tk' e d M => ?_)
    show MkP X pins σ Q (.ref e) ⟨h', g, dr, tk', os⟩
    obtain ⟨oe, fv, hoe, hc, hd, hdat, h1⟩ := M.obj
    have hns := M.ns
    obtain ⟨G', g1, g2⟩ := restrict h' fun b => decide (b ≠ e)
    have gk : ∀ b, b ≠ e → G'.get? b = h'.get? b := fun b hb => g1 b (decide_eq_true hb)
    have ge : G'.get? e = none := g2 e (by simp)
    have old : ∀ b o, hp.get? b = some o → G'.get? b = some o := fun b o q => (gk b (Nat.ne_of_lt (Nat.lt_of_lt_of_le (Heap.lt_size q) M.new))).trans (M.keep b o q)
    have ob : ObjOk X.prog X.w (upd H1 d (.xd [(("place" : Str), .int i)])) G' d (.xd [(("place" : Str), .int i)]) :=
      ⟨_, hns.at (fun o q => (gk d M.dne).trans q), fun f => relO_place (v := .int i) (v' := .int i tv) ⟨_, rfl⟩ f⟩
    have J : Inv X pins σ (upd H1 d (.xd [(("place" : Str), .int i)])) ⟨G', g, dr, tk', os⟩ := I1.laid (t' := tk') old M.dbig ob
    refine ⟨e, oe, fv, ⟨G', g, dr, tk', os⟩, _, .ref C, some d, rfl, J, fun b o q => ?_, ge, hoe, ⟨hc, hd⟩, hdat, h1, ?_, rfl, I1.bare, raises_own T.exC T.tyC, q1 d (I1.hok.fresh M.dbig)⟩
    · by_cases hb : b = e
      · have q' : G'.get? b = some o := q
        rw [hb, ge] at q'; cases q'
      · exact (gk b hb).symm.trans q
    · rw [upd_ne (Ne.symm M.dne)]
      exact I1.hok.fresh M.new
/-- err.place, err the exception that the suite holds (at a; its class cls, its dict d) -/
def tPlace (C : Addr) (a : Addr) (cls : Value) (d : Option Addr) (te : TE) : TE := fun σ H Q => te σ H fun x H1 => x = .ref a ∧ cls = .ref C ∧ ∃ (dd : Addr) (v : V), d = some dd ∧ H1 dd = some (.xd [(("place" : Str), v)]) ∧ Q v H1
theorem pe_place {P : Program} {a : Addr} {oe : Obj} {cls : Value} {d : Option Addr} {pn : List (Addr × Obj)} {e : Expr} {te : TE} {pos : Pos} (T : PySem.ErrX.ErrTxt P X.K X.mg C fI) (hz : Zc cls d oe) (hf : ∃ vs, oe.data = .fields vs) (he : PE (X.suite a ((a, oe) :: pn)) e te)
    (hb : attributeBase e "place" X.env (eval e X.env) = eval e X.env := by rfl) :
    PE (X.suite a ((a, oe) :: pn)) (.Attribute e "place" pos) (tPlace C a cls d te) := by
  refine ⟨fun pins s σ H Q I h => ?_⟩
  refine attr_of hb (thn (he.run pins s σ H _ I h) fun u s1 hh => ?_)
  obtain ⟨x, H1, I1, rx, ex, ec, dd, v, ed, ea, q⟩ := hh
  subst ex
  obtain rfl : u = Value.ref a := rx
  subst ec
  subst ed
  obtain ⟨ha, _⟩ := I1.pin (a, oe) (List.mem_append_left _ List.mem_cons_self)
  obtain ⟨vs, hd⟩ := hf
  have hx : ObjOk X.prog X.w H1 s1.heap dd (.xd [(("place" : Str), v)]) := I1.hok dd _ ea
  obtain ⟨mA, hns, hr⟩ := hx
  obtain ⟨od, ho, hl⟩ := lookIn_ns hns
  have l : List.lookup ("place" : Str) [(("place" : Str), v)] = some v := by simp [List.lookup]
  obtain ⟨u, hu, ru⟩ := RelO.some_of (v := v) (o := mA "place") (by rw [← l]; exact hr "place")
  have J : PySem.W.InstAt s1.heap a oe C (some od) := ⟨ha, hz.1, by unfold PySem.W.notCls; rw [hd] <;> rfl, by rw [hz.2]; exact ho⟩
  exact HandSPX.exc_get I1.kIn J T.ga T.gg T.exC (PySem.W.findObj_own T.hdC T.noN rfl (by rw [hl, hu])) (handed_of ru) ⟨v, H1, I1.tok _, ru, q⟩
theorem pmk_errE {a : Expr} {ta : TA} {x : Str} {p pos : Pos} {k : Nat} (T : ∃ fI, PySem.ErrX.ErrTxt X.prog X.K X.mg C fI) (gC : X.mg x = some (.ref C)) (hr : Room k X.A) (ha : PA X [a] ta) (hg : Gl X x := by rfl) (hdb : (x == ("__debug__" : Str)) = false := by decide)
    (he : starEach (a :: []) X.env = (false, eval a X.env) :: starEach [] X.env := by rfl) (hpl : (backTo pos (starEach [] X.env)).any (·.1) = false := by rfl) :
    PMk X (.Call (.Name x p) [a] [] pos) (tMkErr C ta) := by
  obtain ⟨fI, T⟩ := T
  exact pmk_err T gC hr ha hg hdb he hpl
theorem pe_placeE {P : Program} {a : Addr} {oe : Obj} {cls : Value} {d : Option Addr} {pn : List (Addr × Obj)} {e : Expr} {te : TE} {pos : Pos} (T : ∃ fI, PySem.ErrX.ErrTxt P X.K X.mg C fI) (hz : Zc cls d oe) (hf : ∃ vs, oe.data = .fields vs) (he : PE (X.suite a ((a, oe) :: pn)) e te)
    (hb : attributeBase e "place" X.env (eval e X.env) = eval e X.env := by rfl) :
    PE (X.suite a ((a, oe) :: pn)) (.Attribute e "place" pos) (tPlace C a cls d te) := by
  obtain ⟨fI, T⟩ := T
  exact pe_place T hz hf he hb
end
end L2
/-! ### isinstance(e, c) of a caught error that has fields -/
namespace PySem.W
open PySem PySem.Spec PySem.Calls PyProof.Rows
section
variable {prog : Program} {w : World} {A : Around} {E : Value → Shared → Prop} {s : Shared} {K : Frag} {x D : Addr} {ox : Obj} {od : Option Obj}
theorem findObj_dataO {C : Addr} {name : Str} {a g : Value} (hc : (clsIn K C).isSome = true) (ha : findIn K (.ref C) name = some (some a)) (hg : specialIn K a "__get__" = some (some g)) (ht : takesIn K a = some true) : findObj K C od name = some (.bind g a) := by
  obtain ⟨cd, hc⟩ := Option.isSome_iff_exists.mp hc
  unfold findObj
  rw [hc, Option.bind_some, ha, Option.bind_some]
  simp [hg, ht]
theorem errx_class {Q : Option Value → Shared → Prop} (hga : findIn K (.ref D) "__getattribute__" = some (some (.builtin "BaseException.__getattribute__"))) (hgt : findIn K (.ref D) "__getattr__" = some none) (hsub : subIn K (.ref D) (.type "BaseException") = some true)
    (hdct : hasDictIn K D = true) (ha : findIn K (.ref D) "__class__" = some (some (.builtin "object.__class__")))
    (hn : specialIn K (.builtin "object.__class__") "__get__" = some (some (.builtin "getset_descriptor.__get__"))) (htk : takesIn K (.builtin "object.__class__") = some true) (hm : mroIn K D (.type "object") = some true)
    (X : K.In s.heap) (I : InstAt s.heap x ox D od) (h : Q (some (.ref D)) { s with toks := s.toks + 1 }) : wpAny (model prog w) A (getAttr? (.ref x) "__class__") Q E s := by
  have hf : findObj K D od "__class__" = some (.bind (.builtin "getset_descriptor.__get__") (.builtin "object.__class__")) := findObj_dataO (by obtain ⟨cd, hc, _⟩ := any_some hdct; rw [hc]; rfl) ha hn htk
  obtain ⟨hp, g, d, t, os⟩ := s
  have L0 := I.type (M := model prog w)
  have L1 := looks_findIn (M := model prog w) X hga
  have L2 := looks_findIn (M := model prog w) X hgt
  have L3 := looks_find (M := model prog w) X I hf
  have sub : Looks (model prog w) hp (isInstance (.ref x) (.type "BaseException")) true := L0.andThen (looks_subIn X hsub)
  have hx0 : (false && onTheHeap (Value.builtin "BaseException.__getattribute__")) = false := rfl
  have hx2 : (Value.builtin "BaseException.__getattribute__" == Value.builtin "object.__getattribute__") = false := by decide +kernel
  have hx1 : (onTheHeap (Value.ref D) && Value.builtin "BaseException.__getattribute__" == Value.builtin "object.__getattribute__") = false := by rw [hx2]; rfl
  unfold getAttr? getAttrBy? getAttrBy
  refine wpAny_bind (wpAny_mkText (wpAny_bind (wpAny_attempt (wpAny_holding (wpAny_bind (L0.at (wpAny_bind (L1.at ?_))))))))
  show wpAny _ _ (if (onTheHeap (Value.ref D) && Value.builtin "BaseException.__getattribute__" == Value.builtin "object.__getattribute__") = true then _ else _) _ _ _
  rw [hx1, if_neg Bool.false_ne_true]
  unfold getAttrByItsOwn hookBefore
  refine wpAny_bind ?_
  rw [if_pos (show onTheHeap (Value.ref D) = true from rfl)]
  refine L2.at ?_
  refine wpAny_bind (wpAny_attempt (wpAny_holding ?_))
  unfold callGetattribute
  rw [hx0, if_neg Bool.false_ne_true]
  unfold boundAndCalled
  rw [PySem.F.excAttr_ValueError.ga.bind (.ref x)]
  refine wpAny_bind (wpAny_pure ?_)
  show wpAny _ _ (call (.builtin "BaseException.__getattribute__") [.ref x, .str "__class__" t]) _ _ _
  refine wpAny_call (codeAny_call_builtin PySem.F.excAttr_ValueError.ga.plain PySem.F.entry_bexc_ga ?_)
  refine @check_slot (model prog w) _ _ ⟨hp, g, d, t + 1, os⟩ "BaseException.__getattribute__" "BaseException" "__getattribute__" (.ref x) [.str "__class__" t] [] _ (by decide +kernel) (by decide +kernel) sub (PySem.F.args_bexc_ga (.ref x) (.str "__class__" t)) ?_
  unfold Builtin.«object.__getattribute__»
  refine wpAny_bind (wpAny_of_eq (a := ((Value.ref x : Value), [Value.str "__class__" t])) (by first | rfl | (simp only [slotArgs]; rfl)) ?_)
  refine wpAny_bind (wpAny_pure (wpAny_bind (L0.at (wpAny_bind (L3.at ?_)))))
  show wpAny _ _ (holding [Value.builtin "object.__class__"] (call (.builtin "getset_descriptor.__get__") [.builtin "object.__class__", .ref x, .ref D]) >>= ret) _ _ _
  refine wpAny_bind (wpAny_holding (wpAny_call (class_get (s := ⟨hp, g, d, t + 1, os⟩) (ox := ox) (od := od) X I hm ?_)))
  refine wpAny_pure ?_
  show wpAny _ _ (handedOut (.ref D)) _ _ _
  rw [handedOut_of (v := .ref D) rfl]
  first
    | exact wpAny_pure (wpAny_pure h)
    | exact wpAny_pure h
    | exact wpAny_pure (wpAny_bind (wpAny_pure (wpAny_pure h)))
theorem errx_kit (hga : findIn K (.ref D) "__getattribute__" = some (some (.builtin "BaseException.__getattribute__"))) (hgt : findIn K (.ref D) "__getattr__" = some none) (hsub : subIn K (.ref D) (.type "BaseException") = some true) (hdct : hasDictIn K D = true) (ha : findIn K (.ref D) "__class__" = some (some (.builtin "object.__class__")))
    (hn : specialIn K (.builtin "object.__class__") "__get__" = some (some (.builtin "getset_descriptor.__get__"))) (htk : takesIn K (.builtin "object.__class__") = some true) (hm : mroIn K D (.type "object") = some true) :
    KitX K (.ref x) (.ref D) (fun h => InstAt h x ox D od) where
  ty := fun _ _ _ I => I.type
  it := fun _ _ X _ => by
    obtain ⟨cdD, hcD, _⟩ := any_some hdct
    unfold clsIn at hcD
    split at hcD
    · rename_i c' d' cd' sl' ho
      intro A' Q' E' s' k q
      unfold isType loadHead
      exact wpAny_bind (wpAny_loadPart (k _ _ (X _ _ ho)) (wpAny_pure q))
    · cases hcD
  ne := fun h tp dd its n sl X htp => by
    obtain ⟨cdD, hcD, _⟩ := any_some hdct
    refine Bool.eq_false_iff.mpr fun q => ?_
    have e : D = tp := Value.ref.inj (beq_iff_eq.mp q)
    subst e
    unfold clsIn at hcD
    split at hcD
    · rename_i c' d' cd' sl' ho
      have z := (X _ _ ho).symm.trans htp
      cases z
    · cases hcD
  ca := fun X I k => errx_class hga hgt hsub hdct ha hn htk hm X I k
end
end PySem.W
namespace L2
open PySem PySem.Spec PyProof.Rows
/-- isinstance(e, c): e's own dict is tracked -/
theorem call_isErr {X : Cx} {a D : Addr} {oe : Obj} {cls : Value} {d : Option Addr} {pn : List (Addr × Obj)} (C : ExcC X.K D) (hz : Zc cls d oe) (hf : ∃ vs, oe.data = .fields vs) :
    CallR (X.suite a ((a, oe) :: pn)) (.builtin "isinstance") (fun xs H Q => cls = .ref D ∧ (∃ (dd : Addr) (fs : List (Str × V)), d = some dd ∧ H dd = some (.xd fs)) ∧ rIsE X.K D a xs H Q) := by
  intro pins s σ H xs us Q I r h
  obtain ⟨rfl, ⟨dd, fs, rfl, hdd⟩, c, cv, b, rfl, hcv, e, q⟩ := h
  cases r with
  | cons rx rr =>
    cases rr with
    | cons rt rr =>
      cases rr
      cases rx
      have ec := hcv _ rt
      subst ec
      obtain ⟨hget, _⟩ := I.pin (a, oe) (List.mem_append.mpr (.inl List.mem_cons_self))
      obtain ⟨vs, hv⟩ := hf
      obtain ⟨mA, hns, hr⟩ := I.hok dd _ hdd
      obtain ⟨od, ho, hl⟩ := lookIn_ns hns
      have J : PySem.W.InstAt s.heap a oe D (some od) := ⟨hget, hz.1, by unfold PySem.W.notCls; rw [hv] <;> rfl, by rw [hz.2]; exact ho⟩
      exact PySem.W.kia_one (PySem.W.errx_kit C.hg C.hk C.hs C.hd C.ha C.hn C.ht C.hm) I.kIn J e (fun z => nomatch z) fun tk => ⟨.bl b, H, I.kept (t' := tk) fun _ _ z => z, rfl, q⟩
end L2
namespace My
open PySem PySem.Spec PyProof.Rows L2
/-! ### callables of the text: a def by its name, a method, a class -/
structure Cal (CX : CXT) (P : Program) (w : World) (K : PySem.W.Frag) (mg : Str → Option Value) (base : Heap) (k : Nat) (x : Str) (sp : Sp) : Prop where
  ex : ∃ (f : Addr) (fd : FuncData) (ps : List Str), FnOk P w K mg base CX k f fd ps sp ∧ mg x = some (.ref f) ∧ PySem.W.keepIn K (.ref f) = true ∧ Binds K fd ps []
structure Met (CX : CXT) (P : Program) (w : World) (K : PySem.W.Frag) (mg : Str → Option Value) (base : Heap) (k : Nat) (C : Addr) (m : Str) (sp : Sp) : Prop where
  ex : ∃ (f : Addr) (fd : FuncData) (ps : List Str), Cls K C ∧ Meth K C m f ∧ FnOk P w K mg base CX k f fd ps sp ∧ Binds K fd ps []
  fi : ∀ f, PySem.W.findIn K (.ref C) m = some (some (.ref f)) → PySem.W.fnIn K f = true
structure Mak (CX : CXT) (P : Program) (w : World) (K : PySem.W.Frag) (mg : Str → Option Value) (base : Heap) (k : Nat) (x : Str) (C : Addr) (sp : Sp) : Prop where
  ex : ∃ (f : Addr) (fd : FuncData) (ps : List Str), Mk K C f ∧ FnOk P w K mg base CX k f fd ps sp ∧ mg x = some (.ref C) ∧ Binds K fd ps []
section
variable {CX : CXT} {P : Program} {w : World} {K : PySem.W.Frag} {mg : Str → Option Value} {base : Heap} {k : Nat} {x m : Str} {f C : Addr} {fd : FuncData} {ps : List Str} {sp : Sp}
theorem cal_mk (F : FnOk P w K mg base CX k f fd ps sp) (m : mg x = some (.ref f)) (kp : PySem.W.keepIn K (.ref f) = true) (b : Binds K fd ps []) : Cal CX P w K mg base k x sp := ⟨f, fd, ps, F, m, kp, b⟩
theorem met_mk (F : FnOk P w K mg base CX k f fd ps sp) (c : Cls K C) (me : Meth K C m f) (b : Binds K fd ps []) (fi : PySem.W.fnIn K f = true) : Met CX P w K mg base k C m sp := ⟨⟨f, fd, ps, c, me, F, b⟩, fun g h => by
  have z := me.at_.symm.trans h
  cases z
  exact fi⟩
theorem fn_in {oc : Value} {od : Option Addr} {fdx : FuncData} {sl : Array (Option Value)} (l : K.lookup f = some ⟨oc, od, .func fdx, sl⟩) : PySem.W.fnIn K f = true := by
  unfold PySem.W.fnIn
  rw [l]
theorem mak_mk (F : FnOk P w K mg base CX k f fd ps sp) (m : mg x = some (.ref C)) (M : Mk K C f) (b : Binds K fd ps []) : Mak CX P w K mg base k x C sp := ⟨f, fd, ps, M, F, m, b⟩
end
section
variable {X : Cx} {CX : CXT} {k j : Nat} {C : Addr} {x m : Str} {sp : Sp} {E : XK} {p pos apos : Pos} {e o : Expr} {es : List Expr} {ta : TE} {t : TA}
theorem pc_c (c : Cal CX X.prog X.w X.K X.mg X.base k x sp) (hr : Room j X.A) (hk : k ≤ j) (hg : Gl X x) (hx : Passes CX X E) (ha : PA X (e :: es) t)
    (hdb : (x == ("__debug__" : Str)) = false := by decide) (he : starEach (e :: es) X.env = (false, eval e X.env) :: starEach es X.env := by rfl) (hpl : (backTo pos (starEach es X.env)).any (·.1) = false := by rfl) :
    PE X (.Call (.Name x p) (e :: es) [] pos) (tCall sp [] E t) := by
  obtain ⟨f, fd, ps, F, hm, kp, b⟩ := c.ex
  exact pe_call F (hr.mono hk) hg hm kp b .nil hx ha hdb he hpl
theorem pc_cS {E : L2.St → XK} (c : Cal CX X.prog X.w X.K X.mg X.base k x sp) (hr : Room j X.A) (hk : k ≤ j) (hg : Gl X x) (hx : ∀ σ, PassesAt CX X σ (E σ)) (ha : PA X (e :: es) t)
    (hdb : (x == ("__debug__" : Str)) = false := by decide) (he : starEach (e :: es) X.env = (false, eval e X.env) :: starEach es X.env := by rfl) (hpl : (backTo pos (starEach es X.env)).any (·.1) = false := by rfl) :
    PE X (.Call (.Name x p) (e :: es) [] pos) (tCallS sp E t) := by
  obtain ⟨f, fd, ps, F, hm, kp, b⟩ := c.ex
  exact pe_callS F (hr.mono hk) hg hm kp b hx ha hdb he hpl
theorem pc_mk (c : Mak CX X.prog X.w X.K X.mg X.base k x C sp) (hr : Room j X.A) (hk : k + 1 ≤ j) (hg : Gl X x) (hx : Passes CX X E) (ha : PA X (e :: es) t)
    (hdb : (x == ("__debug__" : Str)) = false := by decide) (he : starEach (e :: es) X.env = (false, eval e X.env) :: starEach es X.env := by rfl) (hpl : (backTo pos (starEach es X.env)).any (·.1) = false := by rfl) :
    PE X (.Call (.Name x p) (e :: es) [] pos) (tMake C sp [] E t) := by
  obtain ⟨f, fd, ps, M, F, hm, b⟩ := c.ex
  exact pe_make M F (hr.mono hk) hg hm b .nil hx ha hdb he hpl
/-- a class made where a try stands around: what is raised is wished for at the slots -/
def tMakeS (C : Addr) (sp : Sp) (E : L2.St → XK) (t : TA) : TE := fun σ H Q => t σ H fun vs H1 => ∀ x dx, H1 x = none → H1 dx = none → dx ≠ x →
  sp (.ref x :: (vs ++ [])) (upd (upd H1 dx (.own x)) x (.ins C dx [])) (fun v H2 => v = .non ∧ Q (.ref x) H2) (E σ)
theorem run_mkS {f : Addr} {fd : FuncData} {ps : List Str} {ds : List Value} {dvs : List V} {pins : List (Addr × Obj)} {σ : L2.St} {H : Hp} {s : Shared} {Q : VK} {us : List Value} {vs : List V} (M : Mk X.K C f) (F : FnOk X.prog X.w X.K X.mg X.base CX k f fd ps sp) (hr : Room (k + 1) X.A) (hb : Binds X.K fd ps ds) (hd : Vals dvs ds)
    (hx : PassesAt CX X σ E) (I : Inv X pins σ H s) (r : Vals vs us)
    (h : ∀ x dx, H x = none → H dx = none → dx ≠ x → sp (.ref x :: (vs ++ dvs)) (upd (upd H dx (.own x)) x (.ins C dx [])) (fun v H2 => v = .non ∧ Q (.ref x) H2) E) :
    wpAny (model X.prog X.w) X.A (call (.ref C) us) (EP X pins σ Q) X.xe s := by
  have hq := h (s.heap.objs.size + 1) s.heap.objs.size (I.hok.fresh (Nat.le_succ _)) (I.hok.fresh (Nat.le_refl _)) (Nat.ne_of_lt (Nat.lt_succ_self _))
  have I2 := Inv.made (C := C) I
  have r2 : Vals (V.ref (s.heap.objs.size + 1) :: (vs ++ dvs)) (Value.ref (s.heap.objs.size + 1) :: (us ++ ds)) := .cons rfl (r.append hd)
  have hl : (Value.ref (s.heap.objs.size + 1) :: us ++ ds).length = ps.length := by
    have e := r2.length
    rw [F.len _ _ _ _ hq] at e
    exact e.symm
  refine wpAny_call (make_map (f := f) I.kIn M.makes M.init (beq_iff_eq.mp M.fn) (codeAny_mono (F.run _ X.stack _ _ ⟨Value.ref (s.heap.objs.size + 1) :: us, []⟩ (Value.ref (s.heap.objs.size + 1) :: (us ++ ds)) _ _ E (hr.make C us [])
    (I2.env0.make C us []) (hb _ (Value.ref (s.heap.objs.size + 1) :: us) I2.kIn hl) r2 hq) fun r s' hq' => ?_))
  cases r with
  | error e => exact hx pins _ _ e s' I2 hq'
  | ok fl =>
    cases fl with
    | ret u =>
      obtain ⟨v, H', I3, rv, ev, q3⟩ := I2.after hq'
      subst ev
      exact ⟨rv, ⟨V.ref (s.heap.objs.size + 1), H', I3, rfl, q3⟩⟩
    | next => exact False.elim hq'
    | brk => exact False.elim hq'
    | cont => exact False.elim hq'
theorem pc_mkS {E : L2.St → XK} (c : Mak CX X.prog X.w X.K X.mg X.base k x C sp) (hr : Room j X.A) (hk : k + 1 ≤ j) (hg : Gl X x) (hx : ∀ σ, PassesAt CX X σ (E σ)) (ha : PA X (e :: es) t)
    (hdb : (x == ("__debug__" : Str)) = false := by decide) (he : starEach (e :: es) X.env = (false, eval e X.env) :: starEach es X.env := by rfl) (hpl : (backTo pos (starEach es X.env)).any (·.1) = false := by rfl) :
    PE X (.Call (.Name x p) (e :: es) [] pos) (tMakeS C sp E t) := by
  obtain ⟨f, fd, ps, M, F, hm, b⟩ := c.ex
  refine ⟨fun pins s σ H Q I h => ?_⟩
  refine wpAny_Call_Name_kw (ld_glob I hg hm ?_ hdb)
  refine PySem.W.callWith_K (h₀ := X.base) I.ok.mod.kin M.kp (thn (ha.run pos pins s σ H _ I h) fun us s1 ⟨vs, H1, I1, r, q⟩ => ⟨I1.kIn, ?_⟩) he hpl
  exact run_mkS M F (hr.mono hk) b .nil (hx σ) I1 r q
theorem pc_mt {pl : Sem Bool} (c : Met CX X.prog X.w X.K X.mg X.base k C m sp) (hr : Room j X.A) (hk : k ≤ j) (hx : Passes CX X E) (he : PE X o ta) (ha : PA X (e :: es) t)
    (hst : starEach (e :: es) X.env = (false, eval e X.env) :: starEach es X.env := by rfl) (hpl : (backTo pos (starEach es X.env)).any (·.1) = false := by rfl)
    (ht : eval (.Call (.Attribute o m apos) (e :: es) [] pos) X.env = (do
      let ov ← eval o X.env
      standAt apos.atName
      let (f, first) ← holding [ov] (getMethod ov m pl)
      callWith pos f first (backTo pos (starEach (e :: es) X.env)) (backToKw pos (keywordEach [] X.env))) := by rfl) :
    PE X (.Call (.Attribute o m apos) (e :: es) [] pos) (tMeth C m sp [] E ta t) := by
  obtain ⟨f, fd, ps, hc, hm, F, b⟩ := c.ex
  exact pe_meth (pl := pl) he hc hm F (hr.mono hk) b .nil hx ha hst hpl ht
theorem pc_mt0 {pl : Sem Bool} (c : Met CX X.prog X.w X.K X.mg X.base k C m sp) (hr : Room j X.A) (hk : k ≤ j) (hx : Passes CX X E) (he : PE X o ta)
    (ht : eval (.Call (.Attribute o m apos) [] [] pos) X.env = (do
      let ov ← eval o X.env
      standAt apos.atName
      let (f, first) ← holding [ov] (getMethod ov m pl)
      callWith pos f first (backTo pos (starEach [] X.env)) (backToKw pos (keywordEach [] X.env))) := by rfl) :
    PE X (.Call (.Attribute o m apos) [] [] pos) (tMeth C m sp [] E ta tNil) := by
  obtain ⟨f, fd, ps, hc, hm, F, b⟩ := c.ex
  exact pe_meth0 (pl := pl) he hc hm F (hr.mono hk) b .nil hx ht
/-! ### further operators -/
/-- * : one factor small, or both below a million bits together -/
def CMulA (i j : Int) : Prop := CMul i j ∨ CMulW i j
theorem op_mulA : OpR X (binaryOp .Mult) (rI CMulA fun i j => .int (i * j)) := opI fun _ _ _ _ _ _ _ hc q => mul_int q (hc.elim CMul.ok CMulW.ok)
/-- // by any divisor but 0 that is no giant -/
def CDivA (_ j : Int) : Prop := j ≠ 0 ∧ j.natAbs.log2 < 9000
theorem op_fdivA : OpR X (binaryOp .FloorDiv) (rI CDivA fun i j => .int (i.fdiv j)) := opI fun _ _ _ _ _ _ _ hc q => floordiv_int hc.1 q (.inl (PyProof.noPylong_of_log2 hc.2))
theorem divA {i j : Int} {b : Nat} (h : j ≠ 0) (hb : j.natAbs < 2 ^ b) (h0 : 0 < b) (h9 : b ≤ 9000) : CDivA i j := ⟨h, Nat.lt_of_lt_of_le (PySem.Flt.log2_lt_of h0 hb) h9⟩
end
/-! ### heaps: all but what stands at p is kept -/
def Kp (p : Addr) (H H' : Hp) : Prop := ∀ b o, b ≠ p → H b = some o → H' b = some o
theorem Kp.refl {p : Addr} {H : Hp} : Kp p H H := fun _ _ _ h => h
theorem Kp.trans {p : Addr} {H H1 H2 : Hp} (a : Kp p H H1) (b : Kp p H1 H2) : Kp p H H2 := fun c o n h => b c o n (a c o n h)
theorem Kp.upd {p : Addr} {H : Hp} {o : HO} : Kp p H (upd H p o) := fun _ _ n h => by rw [upd_ne n]; exact h
theorem Kp.same {p : Addr} {H0 H H' : Hp} (s : Same H0 H) (k : Kp p H H') (n : H0 p = none) : Same H0 H' := fun b o h => k b o (fun e => by rw [e, n] at h; cases h) (s b o h)
theorem same_upd {H : Hp} {p : Addr} {o : HO} (n : H p = none) : Same H (upd H p o) := fun b u h => by rw [upd_ne (ne_of_none h n)]; exact h
theorem Same.of (H : Hp) : Same H H := fun _ _ h => h
/-- isinstance(e, c), e the exception that the suite holds; its class and its dict are told in the reading -/
theorem call_isE2 {X : Cx} {a D : Addr} {oe : Obj} {cls : Value} {d : Option Addr} {pn : List (Addr × Obj)} (C : ExcC X.K D) (hz : Zc cls d oe) (hf : ∃ vs, oe.data = .fields vs) :
    CallR (X.suite a ((a, oe) :: pn)) (.builtin "isinstance") (fun xs H Q => cls = .ref D ∧ d = none ∧ rIsE X.K D a xs H Q) := by
  intro pins s σ H xs us Q I r h
  obtain ⟨rfl, rfl, h⟩ := h
  exact call_isE C hz hf pins s σ H xs us Q I r h
/-- an error of the class at S is what «except S» names -/
theorem exm_self {K : PySem.W.Frag} {S : Addr} (h1 : PySem.W.subIn K (.ref S) (.type "BaseException") = some true) (h2 : PySem.W.isClsIn K S = true) (h3 : PySem.W.typeIn K (.ref S) = some (.type "type")) (h4 : PySem.W.subIn K (.ref S) (.ref S) = some true) :
    PySem.W.exmOne K (.ref S) (.ref S) = some true := by
  have e1 : (PySem.W.subIn K (.ref S) (.type "BaseException") == some true) = true := by rw [h1] <;> rfl
  have e2 : ((PySem.W.clsIn K S).isSome && PySem.W.typeIn K (.ref S) == some (.type "type")) = true := by
    have h2' : (PySem.W.clsIn K S).isSome = true := h2
    rw [h2', h3] <;> rfl
  show (if (PySem.W.subIn K (.ref S) (.type "BaseException") == some true) = true then (if ((PySem.W.clsIn K S).isSome && PySem.W.typeIn K (.ref S) == some (.type "type")) = true then PySem.W.subIn K (.ref S) (.ref S) else none) else none) = some true
  rw [if_pos e1, if_pos e2]
  exact h4
/-- x is True, x is False: whatever x is -/
theorem op_isB {X : Cx} : OpR X (compareOp .Is) (fun x y H Q => ∃ b, y = .bl b ∧ Q (.bl (decide (x = .bl b))) H) := by
  intro pins s σ H x y v u Q I rx ry h
  obtain ⟨b, rfl, q⟩ := h
  cases (show u = Value.bool b from ry)
  have fin : ∀ k : Bool, decide (x = .bl b) = k → EP X pins σ Q (.bool k) s := fun k e => ⟨.bl k, H, I, rfl, by rw [← e]; exact q⟩
  cases x with
  | non => cases (show v = Value.none from rx); exact wpAny_pure (fin _ (by simp))
  | bl c =>
    cases (show v = Value.bool c from rx)
    refine wpAny_pure (fin _ ?_)
    by_cases e : c = b
    · subst e; simp
    · simp [e]
  | int i => obtain ⟨t, e⟩ := (show ∃ t, v = Value.int i t from rx); subst e; exact wpAny_pure (fin _ (by simp))
  | str i => obtain ⟨t, e⟩ := (show ∃ t, v = Value.str i t from rx); subst e; exact wpAny_pure (fin _ (by simp))
  | byt i => obtain ⟨t, e⟩ := (show ∃ t, v = Value.bytes i t from rx); subst e; exact wpAny_pure (fin _ (by simp))
  | flt i => obtain ⟨t, e⟩ := (show ∃ t, v = Value.float i t from rx); subst e; exact wpAny_pure (fin _ (by simp))
  | ref a => cases (show v = Value.ref a from rx); exact wpAny_pure (fin _ (by simp))
  | ty n => cases (show v = Value.type n from rx); exact wpAny_pure (fin _ (by simp))
theorem iteDT {p A B : Prop} [Decidable p] (hp : p) (h : A) : if decide p = true then A else B := by
  rw [decide_eq_true hp]
  exact iteT h
theorem iteDF {p A B : Prop} [Decidable p] (hp : ¬ p) (h : B) : if decide p = true then A else B := by
  rw [decide_eq_false hp]
  exact iteF h
/-- a module's whole number -/
theorem pe_globI {X : Cx} {x : Str} {n : Int} {pos : Pos} (hg : Gl X x) (hm : ∃ t : Tok, X.mg x = some (.int n t)) (hd : (x == ("__debug__" : Str)) = false := by decide) : PE X (.Name x pos) (tC (.int n)) := by
  obtain ⟨t, h⟩ := hm
  exact pe_glob hg h ⟨t, rfl⟩ hd
/-- for c in text -/
theorem for_str {x : Str} {g : TG} {tb : TS} {D : Ends} {σ : L2.St} {H : Hp} (Pv : Nat → L2.St → Hp → Prop) (h0 : Pv 0 σ H)
    (hs : ∀ i c σ H, x.cps.toList[i]? = some c → Pv i σ H → g (.str ⟨#[c]⟩) σ H fun σ2 H2 => tb { D with nx := Pv (i + 1), ct := Pv (i + 1), bk := D.nx } σ2 H2) (hd : ∀ σ H, Pv x.length σ H → D.nx σ H) :
    ∃ W : Nat → Nat → L2.St → Hp → Prop, (∃ m, W 0 m σ H) ∧ ∀ i m σ H, W i m σ H →
      ((Its x).stop i H ∧ D.nx σ H) ∨ ((Its x).go i H ∧ ∃ N : L2.St → Hp → Prop, (∀ σ' H', N σ' H' → ∃ m', m' < m ∧ W (i + 1) m' σ' H') ∧ ∀ v H', (Its x).yld i H v H' → g v σ H' fun σ2 H2 => tb { D with nx := N, ct := N, bk := D.nx } σ2 H2) := by
  have hx : x.length = x.cps.size := rfl
  refine ⟨fun i m σ H => m = x.length - i ∧ i ≤ x.length ∧ Pv i σ H, ⟨x.length, by simp, Nat.zero_le _, h0⟩, ?_⟩
  rintro i m σ H ⟨rfl, hi, p⟩
  by_cases hlt : i < x.length
  · refine .inr ⟨hlt, Pv (i + 1), fun σ' H' p' => ⟨x.length - (i + 1), by omega, rfl, hlt, p'⟩, fun v H' y => ?_⟩
    obtain ⟨e, c, hc, ev⟩ := y
    subst e ev
    exact hs i c σ _ (by rw [Array.getElem?_toList]; exact hc) p
  · have e : i = x.length := by omega
    subst e
    exact .inl ⟨Nat.le_refl _, hd σ H p⟩
/-! ### rules for a comprehension's block: the written part by its own name -/
section
variable {X : Cx} {K : PySem.W.Frag}
theorem pe_fldK {e : Expr} {f : Str} {pos : Pos} {ta : TE} (hK : X.K = K) (he : PE X e ta) (hb : attributeBase e f X.env (eval e X.env) = eval e X.env) : PE X (.Attribute e f pos) (tFld K ta f) := by
  subst hK
  exact pe_fld he hb
theorem pe_conK {e : Expr} {f : Str} {pos : Pos} {ta : TE} (hK : X.K = K) (he : PE X e ta) (hb : attributeBase e f X.env (eval e X.env) = eval e X.env) : PE X (.Attribute e f pos) (tCon K ta f) := by
  subst hK
  exact pe_con he hb
theorem call_len_seqK (hK : X.K = K) : CallR X (.builtin "len") (fun xs H Q => ∃ p ys, xs = [.ref p] ∧ (SqL K H p ys ∨ SqT K H p ys) ∧ Q (.int ys.length) H) := by
  subst hK
  exact call_len_seq
theorem call_list_ofK (hK : X.K = K) : CallR X (.type "list") (fun xs H Q => ∃ p ys, xs = [.ref p] ∧ (SqL K H p ys ∨ SqT K H p ys) ∧ ∀ l, H l = none → Q (.ref l) (upd H l (.lst ys))) := by
  subst hK
  exact call_list_of
theorem call_tuple_ofK (hK : X.K = K) : CallR X (.type "tuple") (fun xs H Q => ∃ p ys, xs = [.ref p] ∧ ((SqL K H p ys ∧ ∀ l, H l = none → Q (.ref l) (upd H l (.tup ys))) ∨ (SqT K H p ys ∧ Q (.ref p) H))) := by
  subst hK
  exact call_tuple_of
theorem call_isiK (hK : X.K = K) : CallR X (.builtin "isinstance") (rIsi K) := by
  subst hK
  exact call_isi
theorem cr_sumK (hK : X.K = K) (hc : X.calm = true) : CallR X (.builtin "sum") (rSum K) := by
  subst hK
  exact cr_sum hc
end
/-! ### classmethods, and a class made through a local name -/
theorem clm_rd {K : PySem.W.Frag} {C : Addr} (h1 : PySem.W.nsIn K PySem.cStatics "thirdparty.any" = some none) (h2 : PySem.W.typeIn K (.ref C) = some (.type "type")) (h3 : PySem.W.findIn K (.type "type") "__getattribute__" = some (some (.builtin "type.__getattribute__")))
    (h4 : PySem.W.subIn K (.type "type") (.type "type") = some true) (h5 : PySem.W.specialIn K (.ref C) "__getattribute__" = some (some (.builtin "type.__getattribute__"))) : ClX.CRead K C (.type "type") := by
  refine ⟨?_, h5⟩
  unfold PySem.W.readsIn
  rw [h1, h2, h3, h4]
  rfl
theorem clm_at {K : PySem.W.Frag} {C p g : Addr} {m : Str} {rest : List Value} (h1 : PySem.W.findIn K (.type "type") m = some none) (h2 : PySem.W.findIn K (.ref C) m = some (some (.ref p))) (h3 : PySem.W.typeIn K (.ref p) = some (.type "classmethod"))
    (h4 : PySem.W.specialIn K (.ref p) "__get__" = some (some (.builtin "classmethod.__get__"))) (h5 : PySem.W.recIn K p "classmethod" = some (.ref g :: rest)) (h7 : PySem.W.fnIn K g = true) : ClX.CMet K C (.type "type") m p g := by
  refine ⟨?_, ⟨rest, h5⟩, h7⟩
  unfold PySem.W.findCls
  rw [h1, h2]
  simp only [Option.bind_some]
  refine (if_neg (fun z => Bool.noConfusion z)).trans ?_
  rw [h3]
  simp only [Option.bind_some]
  rw [h4]
  rfl
theorem clv_at {K : PySem.W.Frag} {C : Addr} {m : Str} {n : Int} {t : Tok} (h1 : PySem.W.findIn K (.type "type") m = some none) (h2 : PySem.W.findIn K (.ref C) m = some (some (.int n t))) (h3 : PySem.W.specialIn K (.int n t) "__get__" = some none) : ClX.CVal K C (.type "type") m (.int n) (.int n t) := by
  refine ⟨?_, ⟨t, rfl⟩⟩
  unfold PySem.W.findCls
  rw [h1, h2]
  simp only [Option.bind_some]
  refine (if_neg (fun z => Bool.noConfusion z)).trans ?_
  have ht : PySem.W.typeIn K (.int n t) = some (.type "int") := rfl
  rw [ht]
  simp only [Option.bind_some]
  rw [h3]
  rfl
structure ClM (CX : CXT) (P : Program) (w : World) (K : PySem.W.Frag) (mg : Str → Option Value) (base : Heap) (k : Nat) (C : Addr) (m : Str) (sp : Sp) : Prop where
  ex : ∃ (p g : Addr) (fd : FuncData) (ps : List Str), ClX.CRead K C (.type "type") ∧ ClX.CMet K C (.type "type") m p g ∧ FnOk P w K mg base CX k g fd ps sp ∧ Binds K fd ps []
theorem clm_mk {CX : CXT} {P : Program} {w : World} {K : PySem.W.Frag} {mg : Str → Option Value} {base : Heap} {k : Nat} {m : Str} {f p C : Addr} {fd : FuncData} {ps : List Str} {sp : Sp} (F : FnOk P w K mg base CX k f fd ps sp) (c : ClX.CRead K C (.type "type")) (h : ClX.CMet K C (.type "type") m p f) (b : Binds K fd ps []) : ClM CX P w K mg base k C m sp := ⟨p, f, fd, ps, c, h, F, b⟩
section
variable {X : Cx} {CX : CXT} {k j i : Nat} {C : Addr} {x y m : Str} {sp : Sp} {E : XK} {p pos apos : Pos} {e o : Expr} {es : List Expr} {to : TE} {t : TA}
theorem pc_mkL (c : Mak CX X.prog X.w X.K X.mg X.base k y C sp) (hr : Room j X.A) (hk : k + 1 ≤ j) (hN : X.N[i]? = some x) (hv : Vis X.env.scope x) (hx : Passes CX X E) (ha : PA X (e :: es) t)
    (hdb : (x == ("__debug__" : Str)) = false := by decide) (hcd : (x == ("__classdict__" : Str)) = false := by decide) (he : starEach (e :: es) X.env = (false, eval e X.env) :: starEach es X.env := by rfl) (hpl : (backTo pos (starEach es X.env)).any (·.1) = false := by rfl) :
    PE X (.Call (.Name x p) (e :: es) [] pos) (fun σ H Q => σ[i]? = some (some (.ref C)) ∧ tMake C sp [] E t σ H Q) := by
  obtain ⟨f, fd, ps, M, F, hm, b⟩ := c.ex
  refine ⟨fun pins s σ H Q I h => ?_⟩
  obtain ⟨hs, ht⟩ := h
  refine wpAny_Call_Name_kw (thn ((pe_var (pos := p) hN hv hdb hcd).run pins s σ H (fun v H1 => v = .ref C ∧ H1 = H) I ⟨.ref C, hs, rfl, rfl⟩) fun u s1 ⟨v, H1, I1, r1, q1⟩ => ?_)
  obtain ⟨rfl, rfl⟩ := q1
  cases r1
  refine PySem.W.callWith_K (h₀ := X.base) I.ok.mod.kin M.kp (thn (ha.run pos pins s1 σ _ _ I1 ht) fun us s2 ⟨vs, H2, I2, r, q⟩ => ⟨I2.kIn, ?_⟩) he hpl
  exact run_make M F (hr.mono hk) b .nil hx I2 r q
theorem pc_cm {pl : Sem Bool} (c : ClM CX X.prog X.w X.K X.mg X.base k C m sp) (hr : Room j X.A) (hk : k ≤ j) (hx : Passes CX X E) (he : PE X o to) (ha : PA X (e :: es) t)
    (hst : starEach (e :: es) X.env = (false, eval e X.env) :: starEach es X.env := by rfl) (hpl : (backTo pos (starEach es X.env)).any (·.1) = false := by rfl)
    (ht : eval (.Call (.Attribute o m apos) (e :: es) [] pos) X.env = (do
      let ov ← eval o X.env
      standAt apos.atName
      let (f, first) ← holding [ov] (getMethod ov m pl)
      callWith pos f first (backTo pos (starEach (e :: es) X.env)) (backToKw pos (keywordEach [] X.env))) := by rfl) :
    PE X (.Call (.Attribute o m apos) (e :: es) [] pos) (ClX.tCMeth C (fun vs H Q E => sp (vs ++ []) H Q E) E to t) := by
  obtain ⟨p, g, fd, ps, hc, hm, F, b⟩ := c.ex
  exact ClX.pe_cmeth (pl := pl) he hc hm (F.raw b .nil) (hr.mono hk) hx ha hst hpl ht
end
/-- the same where a try stands around -/
theorem run_cmS {X : Cx} {CX : CXT} {k : Nat} {C p q : Addr} {sp : Sp} {E : XK} {Q : VK} {pins : List (Addr × Obj)} {σ : L2.St} {H : Hp} {s : Shared} {us : List Value} {vs : List V} {g : Addr} (F : FnR X.prog X.w X.K X.mg X.base CX k g sp) (hr : Room k X.A) (hx : PassesAt CX X σ E) (I : Inv X ((q, PySem.W.methodObj (.ref g) (.ref C)) :: pins) σ H s)
    (r : Vals vs us) (h : sp (.ref C :: vs) H Q E) : wpAny (model X.prog X.w) X.A (call (.ref q) us) (EP X pins σ Q) X.xe s := by
  have z : wpAny (model X.prog X.w) X.A (call (.ref q) us) (EP X ((q, PySem.W.methodObj (.ref g) (.ref C)) :: pins) σ Q) X.xe s := by
    refine wpAny_call (PySem.W.method_call (ClX.pin_at I) ?_)
    refine codeAny_mono (F X.A X.stack s H (.ref C :: us) (.ref C :: vs) Q E hr I.env0 (.cons rfl r) h) fun r s' hq => ?_
    cases r with
    | error e => exact hx _ H s e s' I hq
    | ok fl =>
      cases fl with
      | ret u => exact I.after hq
      | next => exact False.elim hq
      | brk => exact False.elim hq
      | cont => exact False.elim hq
  exact thn z fun _ _ y => ClX.unpinE y
def tCMethS (C : Addr) (sp : Sp) (E : L2.St → XK) (ta : TE) (t : TA) : TE := fun σ H Q => ta σ H fun x H1 => x = .ref C ∧ t σ H1 fun vs H2 => sp (.ref C :: vs) H2 Q (E σ)
section
variable {X : Cx} {CX : CXT} {k j i : Nat} {C : Addr} {m : Str} {sp : Sp} {p pos apos : Pos} {e o : Expr} {es : List Expr} {to : TE} {t : TA}
theorem pc_cmS {E : L2.St → XK} {pl : Sem Bool} (c : ClM CX X.prog X.w X.K X.mg X.base k C m sp) (hr : Room j X.A) (hk : k ≤ j) (hx : ∀ σ, PassesAt CX X σ (E σ)) (he : PE X o to) (ha : PA X (e :: es) t)
    (hst : starEach (e :: es) X.env = (false, eval e X.env) :: starEach es X.env := by rfl) (hpl : (backTo pos (starEach es X.env)).any (·.1) = false := by rfl)
    (ht : eval (.Call (.Attribute o m apos) (e :: es) [] pos) X.env = (do
      let ov ← eval o X.env
      standAt apos.atName
      let (f, first) ← holding [ov] (getMethod ov m pl)
      callWith pos f first (backTo pos (starEach (e :: es) X.env)) (backToKw pos (keywordEach [] X.env))) := by rfl) :
    PE X (.Call (.Attribute o m apos) (e :: es) [] pos) (tCMethS C (fun vs H Q E => sp (vs ++ []) H Q E) E to t) := by
  obtain ⟨p, g, fd, ps, r, cm, F0, b⟩ := c.ex
  have F := F0.raw b .nil
  refine ⟨fun pins s σ H Q I h => ?_⟩
  refine PySem.W.methodCall_KW (pl := pl) (thn (he.run pins s σ H _ I h) fun u s1 ⟨x, H1, I1, rx, ex, q⟩ => ?_) ht
  subst ex
  obtain rfl : u = Value.ref C := rx
  refine ClX.getmethcm_ok I1 r cm fun s2 I2 => ?_
  refine ClX.callwith_cm I2 (ClX.base_none I1 (Nat.le_refl _)) cm.fi (thn (ha.run pos _ s2 σ H1 _ I2 q) fun us s3 ⟨vs, H2, I3, rv, q2⟩ => ⟨⟨ClX.pin_at I3, I3.kIn⟩, ?_⟩) hst hpl
  exact run_cmS (p := p) F (hr.mono hk) (hx σ) I3 rv q2
end
/-! ### operators of an own class, called by their signs -/
theorem inst_of {X : Cx} {pins : List (Addr × Obj)} {σ : L2.St} {H : Hp} {s : Shared} {a C dx : Addr} {fs : List (Str × V)} (I : Inv X pins σ H s) (h : H a = some (.ins C dx fs)) :
    ∃ (ox : Obj) (od : Option Obj), PySem.W.InstAt s.heap a ox C od ∧ ox.data = .plain := by
  obtain ⟨mA, O, _⟩ := ins_get I.hok h
  obtain ⟨od, J, _⟩ := O.look
  exact ⟨_, _, J, rfl⟩
theorem back_of {X : Cx} {pins : List (Addr × Obj)} {σ : L2.St} {Q : VK} {u : Value} {s : Shared} (h : EP X pins σ Q u s) : PySem.W.CmpBack (EP X pins σ Q) u s := by
  obtain ⟨v, H', I, r, q⟩ := id h
  cases u with
  | notImplemented =>
    cases v <;> first
      | exact (nomatch (show Value.notImplemented = _ from r))
      | (obtain ⟨t, e⟩ := (show ∃ t, Value.notImplemented = _ from r); cases e)
  | _ => exact h
/-- what the text has of an operator's method: run it on two values; A: where the call stands -/
theorem met_runA {X : Cx} {CX : CXT} {A : Around} {k j : Nat} {C : Addr} {m : Str} {sp : Sp} {E : XK} (c : Met CX X.prog X.w X.K X.mg X.base k C m sp) (hr : Room j A) (hk : k ≤ j) (hx : Passes CX X E)
    (hA : ∀ (s : Shared) (H : Hp), Env0 X.prog X.w X.K X.mg X.base X.A X.stack s H → Env0 X.prog X.w X.K X.mg X.base A X.stack s H) :
    ∃ f : Addr, PySem.W.findIn X.K (.ref C) m = some (some (.ref f)) ∧ PySem.W.isFn X.K (.ref f) = true ∧ PySem.W.keepIn X.K (.ref f) = true ∧
      ∀ (pins : List (Addr × Obj)) (s : Shared) (σ : L2.St) (H : Hp) (us : List Value) (vs : List V) (Q : VK), Inv X pins σ H s → Vals vs us → sp vs H Q E → wpAny (model X.prog X.w) A (call (.ref f) us) (EP X pins σ Q) X.xe s := by
  obtain ⟨f, fd, ps, hc, hm, F, b⟩ := c.ex
  refine ⟨f, hm.at_, hm.fn, hm.kp, fun pins s σ H us vs Q I r h => ?_⟩
  have hl : us.length = ps.length := by rw [← r.length]; exact F.len _ _ _ _ h
  have hb := b s us I.kIn (by rw [List.append_nil]; exact hl)
  rw [List.append_nil] at hb
  refine wpAny_call (codeAny_mono (F.run A X.stack s H ⟨us, []⟩ us vs Q E (hr.mono hk) (hA _ _ I.env0) hb r h) fun r s' hq => ?_)
  match r with
  | .error e => exact hx pins σ H s e s' I hq
  | .ok (.ret u) => exact I.after hq
  | .ok .next => exact False.elim hq
  | .ok .brk => exact False.elim hq
  | .ok .cont => exact False.elim hq
theorem met_run {X : Cx} {CX : CXT} {k j : Nat} {C : Addr} {m : Str} {sp : Sp} {E : XK} (c : Met CX X.prog X.w X.K X.mg X.base k C m sp) (hr : Room j X.A) (hk : k ≤ j) (hx : Passes CX X E) :
    ∃ f : Addr, PySem.W.findIn X.K (.ref C) m = some (some (.ref f)) ∧ PySem.W.isFn X.K (.ref f) = true ∧ PySem.W.keepIn X.K (.ref f) = true ∧
      ∀ (pins : List (Addr × Obj)) (s : Shared) (σ : L2.St) (H : Hp) (us : List Value) (vs : List V) (Q : VK), Inv X pins σ H s → Vals vs us → sp vs H Q E → wpAny (model X.prog X.w) X.A (call (.ref f) us) (EP X pins σ Q) X.xe s := met_runA c hr hk hx fun _ _ z => z
section
variable {X : Cx} {CX : CXT} {k j : Nat} {C : Addr} {m : Str} {sp : Sp} {E : XK}
def rOwn2 (C : Addr) (sp : Sp) (E : XK) : R2 := fun x y H Q => ∃ (a b dx dy : Addr) (fs gs : List (Str × V)), x = .ref a ∧ y = .ref b ∧ H a = some (.ins C dx fs) ∧ H b = some (.ins C dy gs) ∧ sp [x, y] H Q E
/-- x op y, both of one own class that has the method -/
theorem op_own {op : Operator} (c : Met CX X.prog X.w X.K X.mg X.base k C m sp) (hr : Room j X.A) (hk : k ≤ j) (hx : Passes CX X E) (sf : PySem.W.selfFirst X.K C = true) (hm : PySem.dunder op.info.2 = m := by decide +kernel) :
    OpR X (binaryOp op) (rOwn2 C sp E) := by
  intro pins s σ H x y v u Q I rx ry h
  obtain ⟨a, b, dx, dy, fs, gs, rfl, rfl, ha, hb, hs⟩ := h
  obtain ⟨f, hf, fn, kp, run⟩ := met_run c hr hk hx
  obtain ⟨mF, F⟩ := I.fr
  obtain ⟨ox, od, J, _⟩ := inst_of I ha
  obtain ⟨oy, oe, J2, _⟩ := inst_of I hb
  have r2 : Vals [V.ref a, V.ref b] [v, u] := .cons rx (.cons ry .nil)
  cases (show v = Value.ref a from rx)
  cases (show u = Value.ref b from ry)
  exact PySem.W.binop_K F I.ok.mod.kin J J2.type sf (by rw [hm]; exact hf) fn (wpAny_mono (run pins s σ H _ _ Q I r2 hs) (fun _ _ z => back_of z) fun _ _ z => z)
def rOwnI (C : Addr) (sp : Sp) (E : XK) : R2 := fun x y H Q => ∃ (a dx : Addr) (fs : List (Str × V)) (i : Int), x = .ref a ∧ y = .int i ∧ H a = some (.ins C dx fs) ∧ sp [x, y] H Q E
/-- x op i, i a whole number -/
theorem op_ownI {op : Operator} (c : Met CX X.prog X.w X.K X.mg X.base k C m sp) (hr : Room j X.A) (hk : k ≤ j) (hx : Passes CX X E) (sf : PySem.W.selfFirst X.K C = true)
    (hrc : ∃ rc, PySem.W.findIn X.K (.ref C) (dunderR op.info.2) = some rc ∧ (rc = none ∨ ∃ g : Addr, rc = some (.ref g)))
    (h1 : ∃ fo, PySem.W.findIn X.K (.type "int") (PySem.dunder op.info.2) = some fo) (h2 : ∃ ro, PySem.W.findIn X.K (.type "int") (dunderR op.info.2) = some ro) (hsub : PySem.W.subIn X.K (.type "int") (.ref C) = some false)
    (hm : PySem.dunder op.info.2 = m := by decide +kernel) : OpR X (binaryOp op) (rOwnI C sp E) := by
  intro pins s σ H x y v u Q I rx ry h
  obtain ⟨a, dx, fs, i, rfl, rfl, ha, hs⟩ := h
  obtain ⟨f, hf, fn, kp, run⟩ := met_run c hr hk hx
  obtain ⟨rc, hrc, hp⟩ := hrc
  obtain ⟨fo, h1⟩ := h1
  obtain ⟨ro, h2⟩ := h2
  obtain ⟨mF, F⟩ := I.fr
  obtain ⟨ox, od, J, _⟩ := inst_of I ha
  have r2 : Vals [V.ref a, V.int i] [v, u] := .cons rx (.cons ry .nil)
  cases (show v = Value.ref a from rx)
  obtain ⟨t, et⟩ := (show ∃ t, u = Value.int i t from ry)
  subst et
  exact PySem.W.ksp_binT (T := "int") F I.ok.mod.kin J rfl sf (by rw [hm]; exact hf) fn hrc hp h1 h2 hsub (wpAny_mono (run pins s σ H _ _ Q I r2 hs) (fun _ _ z => back_of z) fun _ _ z => z)
def rOwn1 (C : Addr) (sp : Sp) (E : XK) : V → Hp → VK → Prop := fun x H Q => ∃ (a dx : Addr) (fs : List (Str × V)), x = .ref a ∧ H a = some (.ins C dx fs) ∧ sp [x] H Q E
/-- -x -/
theorem un_own (c : Met CX X.prog X.w X.K X.mg X.base k C "__neg__" sp) (hr : Room j X.A) (hk : k ≤ j) (hx : Passes CX X E) : UnR X (unaryOp .USub) (rOwn1 C sp E) := by
  intro pins s σ H x v Q I rx h
  obtain ⟨a, dx, fs, rfl, ha, hs⟩ := h
  obtain ⟨f, hf, fn, kp, run⟩ := met_run c hr hk hx
  obtain ⟨mF, F⟩ := I.fr
  obtain ⟨ox, od, J, _⟩ := inst_of I ha
  have r1 : Vals [V.ref a] [v] := .cons rx .nil
  cases (show v = Value.ref a from rx)
  exact PySem.W.ksp_neg F I.ok.mod.kin J hf fn (run pins s σ H _ _ Q I r1 hs)
/-- int's method finds no int in an own instance -/
theorem int_declines {prog : Program} {w : World} {A : Around} {Er : Value → Shared → Prop} {s : Shared} {x D : Addr} {ox : Obj} {od : Option Obj} {i : Int} {t : Tok} {nm : String} {id : String} {nmB : String} {f : Int → Int → Sem Fin} {Q : Option Value → Shared → Prop}
    (J : PySem.W.InstAt s.heap x ox D od) (hd : ox.data = .plain) (slot : Slot "int" (PySem.dunder nm) id) (entry : entryFor table id = some (Builtin.Int.intBinary nmB f)) (args : argsOk id ⟨[.int i t, .ref x], []⟩) (h : Q none s) :
    wpAny (model prog w) A (tryMethod (.int i t) (PySem.dunder nm) (.ref x)) Q Er s := by
  refine wpAny_tryMethod_declines (typeIs_int s i t) slot ?_
  refine GQ.call_here slot (typeIs_int s i t) entry args ?_
  unfold Builtin.Int.intBinary
  obtain ⟨hp, g, d, tk, os⟩ := s
  obtain ⟨oc, odd, odt, osl⟩ := ox
  dsimp only at hd
  subst hd
  have hx : hp.get? x = some _ := J.1
  wp_walk using AutoSeq1.wpAny_loadPart' hx
  exact ⟨rfl, h⟩
end
def rIOwn (C : Addr) (sp : Sp) (E : XK) : R2 := fun x y H Q => ∃ (a dx : Addr) (fs : List (Str × V)) (i : Int), x = .int i ∧ y = .ref a ∧ H a = some (.ins C dx fs) ∧ sp [y, x] H Q E
/-- i op x, i a whole number: x's reflected method -/
theorem op_Iown {X : Cx} {CX : CXT} {k j : Nat} {C : Addr} {sp : Sp} {E : XK} {op : Operator} {nm id nmB : String} {f : Int → Int → Sem Fin} (hop : op.info.2 = nm)
    (slot : Slot "int" (PySem.dunder nm) id) (entry : entryFor table id = some (Builtin.Int.intBinary nmB f)) (args : ∀ (i : Int) (t : Tok) (x : Addr), argsOk id ⟨[.int i t, .ref x], []⟩) (fills : fillsNumberSlot (.type "int") nm = pure true)
    (c : Met CX X.prog X.w X.K X.mg X.base k C (dunderR nm) sp) (hr : Room j X.A) (hk : k ≤ j) (hx : Passes CX X E) (sf : PySem.W.selfFirst X.K C = true)
    (hs : ∃ g : Addr, PySem.W.findIn X.K (.ref C) (PySem.dunder nm) = some (some (.ref g))) (hsub : PySem.W.subIn X.K (.ref C) (.type "int") = some false) : OpR X (binaryOp op) (rIOwn C sp E) := by
  intro pins s σ H x y v u Q I rx ry h
  obtain ⟨a, dx, fs, i, rfl, rfl, ha, hsp⟩ := h
  obtain ⟨g, hs⟩ := hs
  obtain ⟨f, hf, fn, kp, run⟩ := met_run c hr hk hx
  obtain ⟨ox, od, J, hd⟩ := inst_of I ha
  have r2 : Vals [V.ref a, V.int i] [u, v] := .cons ry (.cons rx .nil)
  cases (show u = Value.ref a from ry)
  obtain ⟨t, et⟩ := (show ∃ t, v = Value.int i t from rx)
  subst et
  have one := PySem.W.ksp_try (M := model X.prog X.w) (A := X.A) (name := dunderR nm) (b := .int i t) I.kIn J hf fn (wpAny_mono (run pins s σ H _ _ Q I r2 hsp) (fun _ _ z => back_of z) fun _ _ z => z)
  obtain ⟨cd, rest, hcd, hmr⟩ := PySem.W.ksp_first sf
  have K1 : X.K.In s.heap := I.kIn
  rcases hi : op.info with ⟨sym, nm'⟩
  rw [hi] at hop
  dsimp only at hop
  subst hop
  have L2 : PySem.W.Looks (model X.prog X.w) s.heap (typeOf (.ref a)) (.ref C) := J.type
  have L4 : PySem.W.Looks (model X.prog X.w) s.heap (fillsNumberSlot (.ref C) nm') true := PySem.W.fills_K K1 hcd hmr hs
  have L5 : PySem.W.Looks (model X.prog X.w) s.heap (isSubtype (.ref C) (.type "int")) false := PySem.W.looks_subIn K1 hsub
  have hne : (Value.type "int" == Value.ref C) = false := Bool.eq_false_iff.mpr fun q => by cases beq_iff_eq.mp q
  have hpy : numberSlotInPython (.type "int") nm' = pure false := rfl
  simp only [binaryOp, hi]
  refine wpAny_holding (wpAny_bind ?_)
  unfold binaryOp1
  refine wpAny_bind (wpAny_typeOf (typeIs_int s i t) (wpAny_bind (L2.here (wpAny_bind (wpAny_of_eq fills ?_)))))
  simp only [hne, Bool.false_eq_true, if_false]
  refine wpAny_bind (L4.here ?_)
  simp only [Bool.and_self, if_true]
  refine wpAny_bind (L5.here ?_)
  simp only [Bool.false_eq_true, if_false, pure_bind, Bool.not_false, Bool.and_self, if_true, hpy]
  refine wpAny_bind (int_declines J hd slot entry (args i t a) ?_)
  dsimp only
  refine wpAny_bind (wpAny_mono one (fun r s' hr' => ?_) fun _ _ e => e)
  obtain ⟨v, rfl, hq⟩ := hr'
  exact wpAny_bind (wpAny_rule (wpAny_pure (wpAny_pure hq)))
/-- abs(x), x an own instance -/
theorem call_absO {X : Cx} {CX : CXT} {k j : Nat} {C : Addr} {sp : Sp} {E : XK} (c : Met CX X.prog X.w X.K X.mg X.base k C "__abs__" sp) (hr : Room j X.A) (hk : k + 1 ≤ j) (hx : Passes CX X E) :
    CallR X (.builtin "abs") (fun xs H Q => ∃ x, xs = [x] ∧ rOwn1 C sp E x H Q) := by
  intro pins s σ H xs us Q I r h
  obtain ⟨x, rfl, a, dx, fs, rfl, ha, hs⟩ := h
  obtain ⟨f, hf, fn, kp, run⟩ := met_runA c (hr.mono hk).in1 (Nat.le_refl _) hx (fun _ _ z => z.in1)
  obtain ⟨ox, od, J, _⟩ := inst_of I ha
  have r0 := r
  obtain ⟨u, rfl, ru⟩ := vals1 r
  cases (show u = Value.ref a from ru)
  have h1 := run pins s σ H _ _ Q I r0 hs
  refine PySem.Calls.call_function_entry PyProof.Rows.kind_abs PyProof.Rows.plain_abs PyProof.Rows.entry_abs (PyProof.Rows.args_abs _) ?_
  unfold Builtin.«abs»
  refine wpAny_bind (m := oneArg "abs" _) (wpAny_pure ?_)
  refine wpAny_bind (m := callSpecial? (.ref a) (Str.ofString "__abs__")) (PySem.W.special_fn I.kIn J hf (beq_iff_eq.mp fn) (wpAny_mono h1 (fun v s' hv => ?_) fun _ _ z => z))
  exact wpAny_pure ⟨_, rfl, hv⟩
theorem UnR.or {X : Cx} {f : Value → Sem Value} {r r' : V → Hp → VK → Prop} (h : UnR X f r) (h' : UnR X f r') : UnR X f (fun x H Q => r x H Q ∨ r' x H Q) := by
  intro pins s σ H x v Q I rx q
  rcases q with q | q
  · exact h pins s σ H x v Q I rx q
  · exact h' pins s σ H x v Q I rx q
theorem CallR.or {X : Cx} {f : Value} {r r' : List V → Hp → VK → Prop} (h : CallR X f r) (h' : CallR X f r') : CallR X f (fun x H Q => r x H Q ∨ r' x H Q) := by
  intro pins s σ H x v Q I rx q
  rcases q with q | q
  · exact h pins s σ H x v Q I rx q
  · exact h' pins s σ H x v Q I rx q
/-! ### the same operators where a try stands around: what is raised is wished for at the slots -/
theorem met_runS {X : Cx} {CX : CXT} {k j : Nat} {C : Addr} {m : Str} {sp : Sp} {E : L2.St → XK} (c : Met CX X.prog X.w X.K X.mg X.base k C m sp) (hr : Room j X.A) (hk : k ≤ j) (hx : ∀ σ, PassesAt CX X σ (E σ)) :
    ∃ f : Addr, PySem.W.findIn X.K (.ref C) m = some (some (.ref f)) ∧ PySem.W.isFn X.K (.ref f) = true ∧ PySem.W.keepIn X.K (.ref f) = true ∧
      ∀ (pins : List (Addr × Obj)) (s : Shared) (σ : L2.St) (H : Hp) (us : List Value) (vs : List V) (Q : VK), Inv X pins σ H s → Vals vs us → sp vs H Q (E σ) → wpAny (model X.prog X.w) X.A (call (.ref f) us) (EP X pins σ Q) X.xe s := by
  obtain ⟨f, fd, ps, hc, hm, F, b⟩ := c.ex
  refine ⟨f, hm.at_, hm.fn, hm.kp, fun pins s σ H us vs Q I r h => ?_⟩
  have hl : us.length = ps.length := by rw [← r.length]; exact F.len _ _ _ _ h
  have hb := b s us I.kIn (by rw [List.append_nil]; exact hl)
  rw [List.append_nil] at hb
  refine wpAny_call (codeAny_mono (F.run X.A X.stack s H ⟨us, []⟩ us vs Q (E σ) (hr.mono hk) I.env0 hb r h) fun r s' hq => ?_)
  match r with
  | .error e => exact hx σ pins H s e s' I hq
  | .ok (.ret u) => exact I.after hq
  | .ok .next => exact False.elim hq
  | .ok .brk => exact False.elim hq
  | .ok .cont => exact False.elim hq
def OpRS (X : Cx) (f : Value → Value → Sem Value) (r : L2.St → R2) : Prop :=
  ∀ (pins : List (Addr × Obj)) (s : Shared) (σ : L2.St) (H : Hp) (x y : V) (v u : Value) (Q : VK), Inv X pins σ H s → RelV x v → RelV y u → r σ x y H Q →
    wpAny (model X.prog X.w) X.A (f v u) (EP X pins σ Q) X.xe s
def tOpS (r : L2.St → R2) (ta tb : TE) : TE := fun σ H Q => ta σ H fun x H1 => tb σ H1 fun y H2 => r σ x y H2 Q
theorem pe_opS {X : Cx} {a b : Expr} {ta tb : TE} {pos : Pos} {op : Operator} {r : L2.St → R2} (ho : OpRS X (binaryOp op) r) (ha : PE X a ta) (hb : PE X b tb) : PE X (.BinOp a op b pos) (tOpS r ta tb) := by
  refine ⟨fun pins s σ H Q I h => ?_⟩
  exact wpAny_BinOp (binT (R := fun x y H2 => r σ x y H2 Q) ha hb I h fun v u s2 x y H2 I2 rx ry q => ho pins s2 σ H2 x y v u Q I2 rx ry q)
theorem OpRS.or {X : Cx} {f : Value → Value → Sem Value} {r r' : L2.St → R2} (h : OpRS X f r) (h' : OpRS X f r') : OpRS X f (fun σ x y H Q => r σ x y H Q ∨ r' σ x y H Q) := by
  intro pins s σ H x y v u Q I rx ry q
  rcases q with q | q
  · exact h pins s σ H x y v u Q I rx ry q
  · exact h' pins s σ H x y v u Q I rx ry q
section
variable {X : Cx} {CX : CXT} {k j : Nat} {C : Addr} {m : Str} {sp : Sp} {E : L2.St → XK}
theorem op_ownS {op : Operator} (c : Met CX X.prog X.w X.K X.mg X.base k C m sp) (hr : Room j X.A) (hk : k ≤ j) (hx : ∀ σ, PassesAt CX X σ (E σ)) (sf : PySem.W.selfFirst X.K C = true) (hm : PySem.dunder op.info.2 = m := by decide +kernel) :
    OpRS X (binaryOp op) (fun σ => rOwn2 C sp (E σ)) := by
  intro pins s σ H x y v u Q I rx ry h
  obtain ⟨a, b, dx, dy, fs, gs, rfl, rfl, ha, hb, hs⟩ := h
  obtain ⟨f, hf, fn, kp, run⟩ := met_runS c hr hk hx
  obtain ⟨mF, F⟩ := I.fr
  obtain ⟨ox, od, J, _⟩ := inst_of I ha
  obtain ⟨oy, oe, J2, _⟩ := inst_of I hb
  have r2 : Vals [V.ref a, V.ref b] [v, u] := .cons rx (.cons ry .nil)
  cases (show v = Value.ref a from rx)
  cases (show u = Value.ref b from ry)
  exact PySem.W.binop_K F I.ok.mod.kin J J2.type sf (by rw [hm]; exact hf) fn (wpAny_mono (run pins s σ H _ _ Q I r2 hs) (fun _ _ z => back_of z) fun _ _ z => z)
theorem op_ownIS {op : Operator} (c : Met CX X.prog X.w X.K X.mg X.base k C m sp) (hr : Room j X.A) (hk : k ≤ j) (hx : ∀ σ, PassesAt CX X σ (E σ)) (sf : PySem.W.selfFirst X.K C = true)
    (hrc : ∃ rc, PySem.W.findIn X.K (.ref C) (dunderR op.info.2) = some rc ∧ (rc = none ∨ ∃ g : Addr, rc = some (.ref g)))
    (h1 : ∃ fo, PySem.W.findIn X.K (.type "int") (PySem.dunder op.info.2) = some fo) (h2 : ∃ ro, PySem.W.findIn X.K (.type "int") (dunderR op.info.2) = some ro) (hsub : PySem.W.subIn X.K (.type "int") (.ref C) = some false)
    (hm : PySem.dunder op.info.2 = m := by decide +kernel) : OpRS X (binaryOp op) (fun σ => rOwnI C sp (E σ)) := by
  intro pins s σ H x y v u Q I rx ry h
  obtain ⟨a, dx, fs, i, rfl, rfl, ha, hs⟩ := h
  obtain ⟨f, hf, fn, kp, run⟩ := met_runS c hr hk hx
  obtain ⟨rc, hrc, hp⟩ := hrc
  obtain ⟨fo, h1⟩ := h1
  obtain ⟨ro, h2⟩ := h2
  obtain ⟨mF, F⟩ := I.fr
  obtain ⟨ox, od, J, _⟩ := inst_of I ha
  have r2 : Vals [V.ref a, V.int i] [v, u] := .cons rx (.cons ry .nil)
  cases (show v = Value.ref a from rx)
  obtain ⟨t, et⟩ := (show ∃ t, u = Value.int i t from ry)
  subst et
  exact PySem.W.ksp_binT (T := "int") F I.ok.mod.kin J rfl sf (by rw [hm]; exact hf) fn hrc hp h1 h2 hsub (wpAny_mono (run pins s σ H _ _ Q I r2 hs) (fun _ _ z => back_of z) fun _ _ z => z)
end
/-- x == y, x < y .., both of one own class that has the method -/
theorem op_cmpO {X : Cx} {CX : CXT} {k j : Nat} {C : Addr} {m : Str} {sp : Sp} {E : XK} {op : CmpOp} (c : Met CX X.prog X.w X.K X.mg X.base k C m sp) (hr : Room j X.A) (hk : k ≤ j) (hx : Passes CX X E)
    (hop : ∀ v u : Value, compareOp op v u = richCompare op v u := by intro _ _; rfl) (hm : (cmpInfo op).2.1 = m := by decide +kernel) : OpR X (compareOp op) (rOwn2 C sp E) := by
  intro pins s σ H x y v u Q I rx ry h
  obtain ⟨a, b, dx, dy, fs, gs, rfl, rfl, ha, hb, hs⟩ := h
  obtain ⟨f, hf, fn, kp, run⟩ := met_run c hr hk hx
  obtain ⟨mF, F⟩ := I.fr
  obtain ⟨ox, od, J, _⟩ := inst_of I ha
  obtain ⟨oy, oe, J2, _⟩ := inst_of I hb
  have r2 : Vals [V.ref a, V.ref b] [v, u] := .cons rx (.cons ry .nil)
  cases (show v = Value.ref a from rx)
  cases (show u = Value.ref b from ry)
  rw [hop]
  have hu : X.A.units < cLine := by have := hr.un; omega
  exact PySem.W.cmp_K hu F I.ok.mod.kin J J2.type (by unfold PySem.W.notFirst; simp) (by rw [hm]; exact hf) fn (wpAny_mono (run pins s σ H _ _ Q I r2 hs) (fun _ _ z => back_of z) fun _ _ z => z)
/-- f() -/
theorem pc_c0 {X : Cx} {CX : CXT} {k j : Nat} {x : Str} {sp : Sp} {E : XK} {p pos : Pos} (c : Cal CX X.prog X.w X.K X.mg X.base k x sp) (hr : Room j X.A) (hk : k ≤ j) (hg : Gl X x) (hx : Passes CX X E) (hdb : (x == ("__debug__" : Str)) = false := by decide) :
    PE X (.Call (.Name x p) [] [] pos) (tCall sp [] E tNil) := by
  obtain ⟨f, fd, ps, F, hm, kp, b⟩ := c.ex
  exact pe_call0 F (hr.mono hk) hg hm kp b .nil hx hdb
/-! ### v in o, v not in o by an own __contains__; str(o) by an own __str__ -/
def rInO (neg : Bool) (C : Addr) (sp : Sp) (E : XK) : R2 := fun x y H Q => ∃ (a dx : Addr) (fs : List (Str × V)), y = .ref a ∧ H a = some (.ins C dx fs) ∧ sp [.ref a, x] H (fun v H2 => ∃ b : Bool, v = .bl b ∧ Q (.bl (if neg then !b else b)) H2) E
def rStrO (C : Addr) (sp : Sp) (E : XK) : List V → Hp → VK → Prop := fun xs H Q => ∃ (a dx : Addr) (fs : List (Str × V)), xs = [.ref a] ∧ H a = some (.ins C dx fs) ∧ sp [.ref a] H (fun v H2 => ∃ y : Str, v = .str y ∧ Q (.str y) H2) E
section
variable {X : Cx} {CX : CXT} {k j : Nat} {C : Addr} {sp : Sp} {E : XK}
theorem op_inO (c : Met CX X.prog X.w X.K X.mg X.base k C "__contains__" sp) (hr : Room j X.A) (hk : k ≤ j) (hx : Passes CX X E) : OpR X (compareOp .In) (rInO false C sp E) := by
  intro pins s σ H x y v u Q I rx ry h
  obtain ⟨a, dx, fs, rfl, ha, hs⟩ := h
  obtain ⟨f, hf, fn, kp, run⟩ := met_run c hr hk hx
  obtain ⟨mF, F⟩ := I.fr
  obtain ⟨ox, od, J, _⟩ := inst_of I ha
  cases (show u = Value.ref a from ry)
  have r2 : Vals [V.ref a, x] [Value.ref a, v] := .cons rfl (.cons rx .nil)
  refine PySem.W.in_K F I.ok.mod.kin J hf fn (wpAny_mono (run pins s σ H _ _ _ I r2 hs) (fun r s' z => ?_) fun _ _ z => z)
  obtain ⟨w, H2, I2, rw', b, rfl, q⟩ := z
  cases (show r = Value.bool b from rw')
  exact wpAny_truthy_bool ⟨V.bl b, H2, I2, rfl, q⟩
theorem op_notInO (c : Met CX X.prog X.w X.K X.mg X.base k C "__contains__" sp) (hr : Room j X.A) (hk : k ≤ j) (hx : Passes CX X E) : OpR X (compareOp .NotIn) (rInO true C sp E) := by
  intro pins s σ H x y v u Q I rx ry h
  obtain ⟨a, dx, fs, rfl, ha, hs⟩ := h
  obtain ⟨f, hf, fn, kp, run⟩ := met_run c hr hk hx
  obtain ⟨mF, F⟩ := I.fr
  obtain ⟨ox, od, J, _⟩ := inst_of I ha
  cases (show u = Value.ref a from ry)
  have r2 : Vals [V.ref a, x] [Value.ref a, v] := .cons rfl (.cons rx .nil)
  refine PySem.W.notIn_K F I.ok.mod.kin J hf fn (wpAny_mono (run pins s σ H _ _ _ I r2 hs) (fun r s' z => ?_) fun _ _ z => z)
  obtain ⟨w, H2, I2, rw', b, rfl, q⟩ := z
  cases (show r = Value.bool b from rw')
  exact wpAny_truthy_bool ⟨V.bl (!b), H2, I2, rfl, q⟩
theorem call_strO (c : Met CX X.prog X.w X.K X.mg X.base k C "__str__" sp) (hr : Room j X.A) (hk : k + 2 ≤ j) (hx : Passes CX X E) : CallR X (.type "str") (rStrO C sp E) := by
  intro pins s σ H xs us Q I r h
  obtain ⟨a, dx, fs, rfl, ha, hs⟩ := h
  obtain ⟨u, rfl, ru⟩ := vals1 r
  cases (show u = Value.ref a from ru)
  have hr2 : Room k X.A.in1.in1 := ((hr.mono hk).in1).in1
  obtain ⟨f, hf, fn, kp, run⟩ := met_runA c hr2 (Nat.le_refl _) hx (fun _ _ z => z.in1.in1)
  obtain ⟨mF, F⟩ := I.fr
  obtain ⟨ox, od, J, _⟩ := inst_of I ha
  have hu : X.A.in1.in1.units < cLine := by have := hr2.un; omega
  refine PySem.W.kso_call hu (I.ok.mod.kin.keeps F.keep) J hf fn (wpAny_mono (run pins s σ H _ _ _ I r hs) (fun r s' z => ?_) fun _ _ z => z)
  obtain ⟨w, H2, I2, rw', y, rfl, q⟩ := z
  obtain ⟨t, rfl⟩ := (show ∃ t, r = Value.str y t from rw')
  exact ⟨V.str y, H2, I2, ⟨_, rfl⟩, q⟩
end
/-! ### enumerate(tuple) -/
theorem meets_enumerate_newT (l : Addr) (items : Array Value) (n : Nat) (dct : Option Addr) (sl : Array (Option Value)) :
    Meets (Builtin.«enumerate.__new__» ⟨[.type "enumerate", .ref l], []⟩) (fun _ R s => s.heap.get? l = some { cls := .type "tuple", dict := dct, data := .seq items n, slots := sl } ∧
      R (.ok (.ret (.ref (s.heap.push { cls := .type "tuple_iterator", data := .fields #[.ref l, .int 0 0] }).objs.size)))
        { s with heap := (s.heap.push { cls := .type "tuple_iterator", data := .fields #[.ref l, .int 0 0] }).push { cls := .type "enumerate", data := .fields #[.none, .bool false, .ref s.heap.objs.size, rawInt 0, .none, .none] } }) :=
  .of_wp fun prog w A R s h => by
    obtain ⟨hp, g, d, tk, os⟩ := s
    obtain ⟨hl, h⟩ := h
    have hsub := sub_enumerate
    have hL : Heap.IsTuple (Shared.heap ⟨hp, g, d, tk, os⟩) l items := ⟨_, hl, rfl, n, rfl⟩
    wp_walk using AutoSeq1.wpAny_loadPart' hl
    refine wpAny_stack_any fun st => wpAny_pure ?_
    split
    · rename_i c _ _ _ _ _
      cases (c == Value.type "enumerate")
      · wp_walk using AutoSeq1.wpAny_loadPart' hl, wpAny_pyIter_tuple hL
        exact ⟨_, rfl, h⟩
      · wp_walk using AutoSeq1.wpAny_loadPart' hl, wpAny_pyIter_tuple hL
        exact ⟨_, rfl, h⟩
    · wp_walk using AutoSeq1.wpAny_loadPart' hl, wpAny_pyIter_tuple hL
      exact ⟨_, rfl, h⟩
theorem call_enumerate_tuple {prog : Program} {w : World} {A : Around} {E : Value → Shared → Prop} {s : Shared} {l : Addr} {items : Array Value} {Q : Value → Shared → Prop} (hL : s.heap.IsTuple l items)
    (h : ∀ h', IsEnum h' (s.heap.objs.size + 1) s.heap.objs.size 0 .none → h'.IsTupleIter s.heap.objs.size l 0 → (∀ b o, s.heap.get? b = some o → h'.get? b = some o) → Q (.ref (s.heap.objs.size + 1)) { s with heap := h' }) :
    wpAny (model prog w) A (call (.type "enumerate") [.ref l]) Q E s := by
  obtain ⟨⟨c, dct, dt, sl⟩, hl, hc, n, hd⟩ := hL
  replace hc : c = .type "tuple" := hc
  replace hd : dt = .seq items n := hd
  subst hc hd
  refine callType_new F.called_enumerate (by decide) (F.typeCall_enumerate_1 _) (F.newCall_enumerate_1 _) (fun obj => F.args_object_init_2 obj _) F.entry_enumerate_new
    (meets_enumerate_newT l items n dct sl) ⟨hl, ?_⟩
  have hz : (s.heap.push { cls := .type "tuple_iterator", data := .fields #[.ref l, .int 0 0] }).objs.size = s.heap.objs.size + 1 := Heap.size_push ..
  show _ ∧ _
  rw [hz]
  have he : IsEnum ((s.heap.push { cls := .type "tuple_iterator", data := .fields #[.ref l, .int 0 0] }).push
      { cls := .type "enumerate", data := .fields #[.none, .bool false, .ref s.heap.objs.size, rawInt 0, .none, .none] }) (s.heap.objs.size + 1) s.heap.objs.size 0 .none := by
    have z := Heap.get?_push_size (s.heap.push { cls := .type "tuple_iterator", data := .fields #[.ref l, .int 0 0] })
      (o := { cls := .type "enumerate", data := .fields #[.none, .bool false, .ref s.heap.objs.size, rawInt 0, .none, .none] }) rfl
    rw [hz] at z
    exact z
  exact ⟨⟨_, he, rfl⟩, h _ he ⟨_, Heap.get?_push_of_some _ (Heap.get?_push_size _ rfl), rfl, rfl⟩ fun b o x => Heap.get?_push_of_some _ (Heap.get?_push_of_some _ x)⟩
theorem pyNext_enumT_end {prog : Program} {w : World} {A : Around} {E : Value → Shared → Prop} {s : Shared} {e it l : Addr} {i : Nat} {items : Array Value} {old : Value} {Q : Option Value → Shared → Prop} (hh : A.handled = none)
    (he : IsEnum s.heap e it i old) (hit : s.heap.IsTupleIter it l i) (hl : s.heap.IsTuple l items) (hx : items[i]? = none)
    (hQ : ∀ h', Heap.ExtBut it s.heap h' → Q none { s with heap := h' }) : wpAny (model prog w) A (pyNext (.ref e)) Q E s := by
  have hT : s.TypeIs (.ref e) "enumerate" := ⟨_, he, rfl⟩
  unfold pyNext
  refine wpAny_bind (wpAny_attempt (wpAny_callSpecial?_slot (name := Str.ofString "__next__") hT F.slot_enumerate_next
    (wpAny_call_entry F.slot_enumerate_next hT F.entry_enumerate_next ?_ (F.args_enumerate_next_1 _))))
  show wpAny _ _ (field (.ref e) 2 >>= _) _ _ _
  refine wpAny_bind (wpAny_field he rfl (x := .ref it) rfl ?_)
  refine wpAny_bind (wpAny_nextOf_tuple_end (A := A.in1) hh hit hl hx fun h' x he' hx' => ?_)
  obtain ⟨o, ho, hc⟩ := hx'
  refine wpAny_bind (wpAny_isInstance (T := "StopIteration") (b := true) ⟨o, ho, hc⟩ isSubtype_stop ?_)
  exact wpAny_pure (hQ _ he')
/-- the tuple at a, each item in a new pair -/
def Iett (K : PySem.W.Frag) (a : Addr) : It :=
  ⟨fun i H => ∃ (xs : List V) (x : V), SqT K H a xs ∧ xs[i]? = some x, fun i H v H' => ∃ T x, v = .ref T ∧ H T = none ∧ H' = upd H T (.tup [.int (i : Nat), x]) ∧ ∀ xs, SqT K H a xs → xs[i]? = some x, fun i H => ∃ xs : List V, SqT K H a xs ∧ xs.length ≤ i⟩
theorem turn_enumT {P : Program} {w : World} {K : PySem.W.Frag} {elts : List Expr} {kk : Nat} {tpos : Pos} (a e it : Addr) :
    Turn P w K (.Tuple elts kk tpos) (Iett K a) [e, it] e (fun i h => (∃ old, IsEnum h e it ((i : Nat) : Int) old) ∧ h.IsTupleIter it a i ∧ e ≠ it ∧ a ≠ it ∧ a ≠ e) where
  mem := by simp
  obj := fun i h st b hb => by
    obtain ⟨⟨old, he⟩, ⟨o, ho, hc, hd⟩, _⟩ := st
    have e' : b = e ∨ b = it := by simpa using hb
    rcases e' with z | z
    · rw [z]; exact ⟨_, he, fun v q => nomatch q⟩
    · rw [z]; exact ⟨o, ho, fun v q => by rw [hd] at q; cases q⟩
  keep := fun i h h' st k => let ⟨⟨old, he⟩, hi, hne⟩ := st; ⟨⟨old, k e (by simp) _ he⟩, hi.at fun o q => k it (by simp) o q, hne⟩
  item := by
    intro X hP hw hK hc i pins s σ H E I hf st hg
    subst hP hw hK
    obtain ⟨⟨old, he⟩, hit, hne, hae, hea⟩ := st
    obtain ⟨xs, x, hq, hx⟩ := hg
    obtain ⟨its, rv, p, hz⟩ := I.tuple hq
    obtain ⟨u, hu, ru⟩ := rv.get hx
    have p' : s.heap.IsTuple a its.toArray := p
    have hel : e < s.heap.objs.size := Heap.lt_size he
    have hil : it < s.heap.objs.size := by obtain ⟨_, q, _⟩ := hit; exact Heap.lt_size q
    have hii : i < its.toArray.size := by
      have := (List.getElem?_eq_some_iff.mp hu).1
      simpa using this
    have D := Draws.tuple (prog := X.prog) (w := X.w) (A := X.A.in1) (I.ok.hd hc) it a hae its.toArray
    refine PySem.wpAny_pyNext_enum_itemC D he ⟨hit, p'⟩ hii hne (by simp [Ne.symm hea, hne]) fun y h' tk hy ho hst' hT hsz hk => ?_
    have hyu : y = u := by
      have e1 : its.toArray[i]? = some y := hy
      rw [List.getElem?_toArray] at e1
      rw [hu] at e1
      exact (Option.some.inj e1).symm
    subst hyu
    refine ⟨_, rfl, wpAny_letOwnedTupleGo_enum (s := { s with heap := h', toks := tk + 1 }) ho fun h'' he' sb => ?_⟩
    have hT2 : h''.get? s.heap.objs.size = some { cls := .type "tuple", data := .seq #[.int i tk, y] } := (sb.2 _ (Nat.ne_of_gt hel)).trans hT
    have new : ObjOk X.prog X.w (upd H s.heap.objs.size (.tup [.int (i : Nat), x])) h'' s.heap.objs.size (.tup [.int (i : Nat), x]) :=
      ⟨by show 2 ≤ sizeLine; decide, [.int i tk, y], .cons ⟨_, rfl⟩ (.cons ru .nil), ⟨_, hT2, rfl, _, rfl⟩⟩
    have I1 : Inv X pins σ (upd H s.heap.objs.size (.tup [.int (i : Nat), x])) { s with heap := h'', toks := tk + 1 } :=
      I.turnedNew (ch := [e, it]) (fun b ob hb q => (sb.2 b (fun z => hb (by simp [z]))).trans (hk b ob (fun z => hb (by simp [z])) (fun z => hb (by simp [z])) q)) hf (Nat.le_refl _) new
    refine ⟨.ref s.heap.objs.size, _, I1, rfl, ⟨_, x, rfl, I.hok.fresh (Nat.le_refl _), rfl, fun ys hy => by rw [I.tuple_inj hy hq]; exact hx⟩, ⟨⟨y, ?_⟩, hst'.1.at fun o q => (sb.2 it (Ne.symm hne)).trans q, hne, hae, hea⟩, fun b hb => ?_⟩
    · have e1 : ((i + 1 : Nat) : Int) = (i : Int) + 1 := by omega
      rw [e1]; exact he'
    · have hb' : b < s.heap.objs.size := by
        have e' : b = e ∨ b = it := by simpa using hb
        rcases e' with z | z
        · rw [z]; exact hel
        · rw [z]; exact hil
      rw [upd_ne (Nat.ne_of_lt hb')]
      exact (hf b hb).1
  done := by
    intro X hP hw hK hc i pins s σ H E I hf st hg
    subst hP hw hK
    obtain ⟨⟨old, he⟩, hit, hne, hae, hea⟩ := st
    obtain ⟨xs, hq, hx⟩ := hg
    obtain ⟨its, rv, p, hz⟩ := I.tuple hq
    obtain ⟨f0, f1, f2, f3, f4, f5⟩ := hf it (by simp)
    have hl := rv.length
    have p' : s.heap.IsTuple a its.toArray := p
    exact pyNext_enumT_end (I.ok.hd hc) he hit p' (by simp; omega) fun h' eb => ⟨rfl, I.turned (t' := s.toks) (fun b o hb q => eb b o hb q) f0 f1 f3 f4 f5⟩
  self := fun A i s Q E st h => let ⟨⟨_, he⟩, _⟩ := st; wpAny_pyIter_enum he h
/-- what stands at a: a list or a tuple -/
def SqB (K : PySem.W.Frag) (b : Bool) (H : Hp) (a : Addr) (xs : List V) : Prop := if b then SqT K H a xs else SqL K H a xs
def ItB (K : PySem.W.Frag) (b : Bool) (a : Addr) : It := if b then Iett K a else Ite K a
/-- enumerate over a list or a tuple -/
def iEnumS (K : PySem.W.Frag) (ta : TA) : TI := fun σ H R => ta σ H fun vs H1 => ∃ a xs b, vs = [.ref a] ∧ SqB K b H1 a xs ∧ R (ItB K b a) H1
theorem pi_enumS {X : Cx} {e : Expr} {ta : TA} {p pos tpos : Pos} {elts : List Expr} {kk : Nat} (hg : Gl X "enumerate") (hm : X.mg "enumerate" = none) (ha : PA X [e] ta) (hs : starEach [e] X.env = [(false, eval e X.env)] := by rfl) :
    PI X (.Tuple elts kk tpos) (.Call (.Name "enumerate" p) [e] [] pos) (iEnumS X.K ta) := by
  refine ⟨fun pins s σ H R I h => ?_⟩
  refine Call_ (ld_blt I hg hm boot_enumerate (PyProof.Rows.callWith_type1 (thn (ha.run pos pins s σ H _ I h) fun us s1 ⟨vs, H1, I1, r1, q1⟩ => ?_) hs rfl))
  obtain ⟨a, xs, bb, ex, hq, q⟩ := q1
  subst ex
  cases r1 with
  | cons r rr =>
    cases rr
    cases r
    cases bb
    · obtain ⟨its, rv, p', hz⟩ := I1.list hq
      refine call_enumerate_list p'.isList fun h' he hit hsz hk => wpAny_pyIter_enum he ?_
      have I2 : Inv X pins σ H1 { s1 with heap := h' } := I1.kept (t' := s1.toks) hk
      refine ⟨s1.heap.objs.size + 1, [s1.heap.objs.size + 1, s1.heap.objs.size], _, _, H1, rfl, I2, turn_enum a (s1.heap.objs.size + 1) s1.heap.objs.size, ⟨⟨.none, he⟩, hit, Nat.succ_ne_self _⟩, fun b hb => ?_, q⟩
      have e' : b = s1.heap.objs.size + 1 ∨ b = s1.heap.objs.size := by simpa using hb
      have hle : s1.heap.objs.size ≤ b := by
        rcases e' with z | z
        · rw [z]; exact Nat.le_add_right _ _
        · rw [z]; exact Nat.le_refl _
      exact I1.fpOk hle (I1.hok.fresh hle)
    · obtain ⟨its, rv, p', hz⟩ := I1.tuple hq
      have hL : s1.heap.IsTuple a its.toArray := p'
      have hlt : a < s1.heap.objs.size := by obtain ⟨_, q0, _⟩ := hL; exact Heap.lt_size q0
      refine call_enumerate_tuple hL fun h' he hit hk => wpAny_pyIter_enum he ?_
      have I2 : Inv X pins σ H1 { s1 with heap := h' } := I1.kept (t' := s1.toks) hk
      refine ⟨s1.heap.objs.size + 1, [s1.heap.objs.size + 1, s1.heap.objs.size], _, _, H1, rfl, I2, turn_enumT a (s1.heap.objs.size + 1) s1.heap.objs.size, ⟨⟨.none, he⟩, hit, Nat.succ_ne_self _, Nat.ne_of_lt hlt, Nat.ne_of_lt (Nat.lt_succ_of_lt hlt)⟩, fun b hb => ?_, q⟩
      have e' : b = s1.heap.objs.size + 1 ∨ b = s1.heap.objs.size := by simpa using hb
      have hle : s1.heap.objs.size ≤ b := by
        rcases e' with z | z
        · rw [z]; exact Nat.le_add_right _ _
        · rw [z]; exact Nat.le_refl _
      exact I1.fpOk hle (I1.hok.fresh hle)
/-- the turns of enumerate over a list or a tuple: Sq is how the items stand there -/
theorem for_enumI {K : PySem.W.Frag} {I : It} {Sq : Hp → Prop} {xs : List V} {g : TG} {tb : TS} {D : Ends} {σ : L2.St} {H : Hp} (Pv : Nat → L2.St → Hp → Prop) (h0 : Pv 0 σ H) (hl : ∀ i σ H, i ≤ xs.length → Pv i σ H → Sq H)
    (hgo : ∀ H i x, Sq H → xs[i]? = some x → I.go i H) (hy : ∀ H i x H', Sq H → I.yld i H x H' → ∃ T z, x = .ref T ∧ H T = none ∧ H' = upd H T (.tup [.int (i : Nat), z]) ∧ xs[i]? = some z) (hst : ∀ H, Sq H → I.stop xs.length H)
    (hs : ∀ i x σ H T, xs[i]? = some x → Pv i σ H → H T = none → g (.ref T) σ (upd H T (.tup [.int (i : Nat), x])) fun σ2 H2 => tb { D with nx := Pv (i + 1), ct := Pv (i + 1), bk := D.nx } σ2 H2) (hd : ∀ σ H, Pv xs.length σ H → D.nx σ H) :
    ∃ W : Nat → Nat → L2.St → Hp → Prop, (∃ m, W 0 m σ H) ∧ ∀ i m σ H, W i m σ H →
      (I.stop i H ∧ D.nx σ H) ∨ (I.go i H ∧ ∃ N : L2.St → Hp → Prop, (∀ σ' H', N σ' H' → ∃ m', m' < m ∧ W (i + 1) m' σ' H') ∧ ∀ x H', I.yld i H x H' → g x σ H' fun σ2 H2 => tb { D with nx := N, ct := N, bk := D.nx } σ2 H2) := by
  refine ⟨fun i m σ H => m = xs.length - i ∧ i ≤ xs.length ∧ Pv i σ H, ⟨xs.length, by simp, Nat.zero_le _, h0⟩, ?_⟩
  rintro i m σ H ⟨rfl, hi, p⟩
  have q := hl i σ H hi p
  by_cases hlt : i < xs.length
  · refine .inr ⟨hgo H i xs[i] q (by simp [hlt]), Pv (i + 1), fun σ' H' p' => ⟨xs.length - (i + 1), by omega, rfl, hlt, p'⟩, fun x H' y => ?_⟩
    obtain ⟨T, z, e1, e2, e3, e4⟩ := hy _ _ _ _ q y
    subst e1 e3
    exact hs i z σ H T e4 p e2
  · have e : i = xs.length := by omega
    subst e
    exact .inl ⟨hst H q, hd σ H p⟩
theorem for_enumB {K : PySem.W.Frag} {bb : Bool} {a : Addr} {xs : List V} {g : TG} {tb : TS} {D : Ends} {σ : L2.St} {H : Hp} (Pv : Nat → L2.St → Hp → Prop) (h0 : Pv 0 σ H) (hl : ∀ i σ H, i ≤ xs.length → Pv i σ H → SqB K bb H a xs)
    (hs : ∀ i x σ H T, xs[i]? = some x → Pv i σ H → H T = none → g (.ref T) σ (upd H T (.tup [.int (i : Nat), x])) fun σ2 H2 => tb { D with nx := Pv (i + 1), ct := Pv (i + 1), bk := D.nx } σ2 H2) (hd : ∀ σ H, Pv xs.length σ H → D.nx σ H) :
    ∃ W : Nat → Nat → L2.St → Hp → Prop, (∃ m, W 0 m σ H) ∧ ∀ i m σ H, W i m σ H →
      ((ItB K bb a).stop i H ∧ D.nx σ H) ∨ ((ItB K bb a).go i H ∧ ∃ N : L2.St → Hp → Prop, (∀ σ' H', N σ' H' → ∃ m', m' < m ∧ W (i + 1) m' σ' H') ∧ ∀ x H', (ItB K bb a).yld i H x H' → g x σ H' fun σ2 H2 => tb { D with nx := N, ct := N, bk := D.nx } σ2 H2) := by
  refine for_enumI (K := K) (I := ItB K bb a) (Sq := fun H => SqB K bb H a xs) Pv h0 hl ?_ ?_ ?_ hs hd
  · cases bb
    · exact fun H i x q e => ⟨xs, x, q, e⟩
    · exact fun H i x q e => ⟨xs, x, q, e⟩
  · cases bb
    · rintro H i x H' q ⟨T, z, e1, e2, e3, e4⟩
      exact ⟨T, z, e1, e2, e3, e4 xs q⟩
    · rintro H i x H' q ⟨T, z, e1, e2, e3, e4⟩
      exact ⟨T, z, e1, e2, e3, e4 xs q⟩
  · cases bb
    · exact fun H q => ⟨xs, q, Nat.le_refl _⟩
    · exact fun H q => ⟨xs, q, Nat.le_refl _⟩
/-! ### a list or a tuple, walked -/
def ItS (K : PySem.W.Frag) (b : Bool) (a : Addr) : It := if b then Itt K a else Itl K a
def iSeqB (K : PySem.W.Frag) (te : TE) : TI := fun σ H R => te σ H fun x H1 => ∃ a xs b, x = .ref a ∧ SqB K b H1 a xs ∧ R (ItS K b a) H1
theorem pi_seqB {X : Cx} {tg l : Expr} {tl : TE} (hl : PE X l tl) : PI X tg l (iSeqB X.K tl) := by
  refine ⟨fun pins s σ H R I h => ?_⟩
  refine thn (hl.run pins s σ H _ I h) fun v s1 ⟨x, H1, I1, r1, q1⟩ => ?_
  obtain ⟨a, xs, b, e, hq, q⟩ := q1
  subst e
  cases r1
  cases b
  · obtain ⟨its, rv, p, hz⟩ := I1.list hq
    refine wpAny_pyIter_list p.isList ?_
    refine ⟨s1.heap.objs.size, [s1.heap.objs.size], _, _, H1, rfl, I1.kept (t' := s1.toks) fun b o e => Heap.get?_push_of_some _ e, turn_list a _, ⟨_, Heap.get?_push_size _ rfl, rfl, rfl⟩, fun b hb => ?_, q⟩
    have e : b = s1.heap.objs.size := by simpa using hb
    subst e
    exact I1.fpOk (Nat.le_refl _) (I1.hok.fresh (Nat.le_refl _))
  · obtain ⟨its, rv, p, hz⟩ := I1.tuple hq
    refine wpAny_pyIter_tuple (show s1.heap.IsTuple a its.toArray from p) ?_
    refine ⟨s1.heap.objs.size, [s1.heap.objs.size], _, _, H1, rfl, I1.kept (t' := s1.toks) fun b o e => Heap.get?_push_of_some _ e, turn_tuple a _, ⟨_, Heap.get?_push_size _ rfl, rfl, rfl⟩, fun b hb => ?_, q⟩
    have e : b = s1.heap.objs.size := by simpa using hb
    subst e
    exact I1.fpOk (Nat.le_refl _) (I1.hok.fresh (Nat.le_refl _))
theorem pi_seqBK {X : Cx} {K : PySem.W.Frag} {tg l : Expr} {tl : TE} (hK : X.K = K) (hl : PE X l tl) : PI X tg l (iSeqB K tl) := by
  subst hK
  exact pi_seqB hl
theorem lc_seqB {K : PySem.W.Frag} {bb : Bool} {a : Addr} {xs : List V} {g : TG} {tt : TT} {te : TE} {vs : List Nat} {σ : L2.St} {H1 : Hp} {D : Addr} {Qd : Hp → Prop} (Pv : Nat → Hp → Prop) (h0 : Pv 0 (upd H1 D (.lst []))) (hl : ∀ i H, i ≤ xs.length → Pv i H → SqB K bb H a xs)
    (hs : ∀ i x H, xs[i]? = some x → Pv i H → g x (wipe σ vs) H fun σ2 H2 => wipe σ2 vs = wipe σ vs ∧ tt σ2 H2 fun b H3 =>
      if b = true then te σ2 H3 fun y H4 => ∃ acc, H4 D = some (.lst acc) ∧ acc.length < sizeLine ∧ Pv (i + 1) (upd H4 D (.lst (acc ++ [y]))) else Pv (i + 1) H3) (hd : ∀ H, Pv xs.length H → Qd H) :
    ∃ W : Nat → Nat → Hp → Prop, (∃ m, W 0 m (upd H1 D (.lst []))) ∧ ∀ i m H, W i m H →
      ((ItS K bb a).stop i H ∧ Qd H) ∨ ((ItS K bb a).go i H ∧ ∃ Nx : Hp → Prop, (∀ H', Nx H' → ∃ m', m' < m ∧ W (i + 1) m' H') ∧ ∀ x H', (ItS K bb a).yld i H x H' → g x (wipe σ vs) H' fun σ2 H2 => wipe σ2 vs = wipe σ vs ∧ tt σ2 H2 fun b H3 =>
        if b = true then te σ2 H3 fun y H4 => ∃ acc, H4 D = some (.lst acc) ∧ acc.length < sizeLine ∧ Nx (upd H4 D (.lst (acc ++ [y]))) else Nx H3) := by
  cases bb
  · exact lc_list (K := K) (a := a) (xs := xs) Pv h0 hl hs hd
  · exact lc_tup (K := K) (a := a) (xs := xs) Pv h0 hl hs hd
theorem for_seqB {K : PySem.W.Frag} {bb : Bool} {a : Addr} {xs : List V} {g : TG} {tb : TS} {D : Ends} {σ : L2.St} {H : Hp} (Pv : Nat → L2.St → Hp → Prop) (h0 : Pv 0 σ H) (hl : ∀ i σ H, i ≤ xs.length → Pv i σ H → SqB K bb H a xs)
    (hs : ∀ i x σ H, xs[i]? = some x → Pv i σ H → g x σ H fun σ2 H2 => tb { D with nx := Pv (i + 1), ct := Pv (i + 1), bk := D.nx } σ2 H2) (hd : ∀ σ H, Pv xs.length σ H → D.nx σ H) :
    ∃ W : Nat → Nat → L2.St → Hp → Prop, (∃ m, W 0 m σ H) ∧ ∀ i m σ H, W i m σ H →
      ((ItS K bb a).stop i H ∧ D.nx σ H) ∨ ((ItS K bb a).go i H ∧ ∃ N : L2.St → Hp → Prop, (∀ σ' H', N σ' H' → ∃ m', m' < m ∧ W (i + 1) m' σ' H') ∧ ∀ x H', (ItS K bb a).yld i H x H' → g x σ H' fun σ2 H2 => tb { D with nx := N, ct := N, bk := D.nx } σ2 H2) := by
  cases bb
  · exact for_list (K := K) (a := a) (xs := xs) Pv h0 hl hs hd
  · exact for_tup (K := K) (a := a) (xs := xs) Pv h0 hl hs hd
/-! ### len(o), iter(tuple), list(o): an own class with __len__ and an __iter__ that answers iter(a tuple) -/
theorem take_snocG {α : Type} {l : List α} {i : Nat} {x : α} (h : l[i]? = some x) : l.take i ++ [x] = l.take (i + 1) := by
  rw [List.take_add_one, h]
  rfl
/-- a tuple iterator at it: over the tuple at t, i items are drawn; itA: in any state -/
def itO (it t : Addr) (i : Nat) : HO := .ext fun h => h.IsTupleIter it t i
def itA (it : Addr) : HO := .ext fun h => ∃ o, h.get? it = some o ∧ o.cls = .type "tuple_iterator"
theorem itO_ok {P : Program} {w : World} {H : Hp} {h : Heap} {it t : Addr} {i : Nat} (he : h.IsTupleIter it t i) : ObjOk P w H h it (itO it t i) :=
  ⟨he, let ⟨o, e, _⟩ := he; ⟨o, e⟩, fun h1 h2 z k => let ⟨o, e, r⟩ := z; ⟨o, k _ e, r⟩⟩
theorem itA_ok {P : Program} {w : World} {H : Hp} {h : Heap} {it : Addr} (he : ∃ o, h.get? it = some o ∧ o.cls = .type "tuple_iterator") : ObjOk P w H h it (itA it) :=
  ⟨he, let ⟨o, e, _⟩ := he; ⟨o, e⟩, fun h1 h2 z k => let ⟨o, e, r⟩ := z; ⟨o, k _ e, r⟩⟩
theorem itO_get {P : Program} {w : World} {H : Hp} {h : Heap} {it t : Addr} {i : Nat} (hok : HOk P w H h) (he : H it = some (itO it t i)) : h.IsTupleIter it t i := by
  have x : ObjOk P w H h it (.ext fun h => h.IsTupleIter it t i) := hok it _ he
  exact x.1
theorem call_iterT {X : Cx} : CallR X (.builtin "iter") (fun xs H Q => ∃ (a : Addr) (ys : List V), xs = [.ref a] ∧ SqT X.K H a ys ∧ ∀ it, H it = none → Q (.ref it) (upd H it (itO it a 0))) := by
  intro pins s σ H xs us Q I r h
  obtain ⟨a, ys, rfl, hq, q⟩ := h
  obtain ⟨u, rfl, ru⟩ := vals1 r
  cases (show u = Value.ref a from ru)
  obtain ⟨its, rv, p, hz⟩ := I.tuple hq
  have hL : s.heap.IsTuple a its.toArray := p
  refine Calls.call_function_entry (by decide +kernel) (by decide +kernel) PySem.W.kdk_entry_iter (PySem.W.kdk_args_iter _) ?_
  unfold Builtin.«iter»
  refine wpAny_bind (m := someArgs "iter" 1 2 _) (wpAny_of_eq (a := [Value.ref a]) (by first | rfl | kernel_rfl!) ?_)
  show wpAny _ _ (pyIter (.ref a) >>= _) _ _ _
  refine wpAny_bind (wpAny_pyIter_tuple hL ?_)
  exact wpAny_pure ⟨_, rfl, .ref s.heap.objs.size, _, I.laid (t' := s.toks) (fun b u e => Heap.get?_push_of_some _ e) (Nat.le_refl _) (itO_ok ⟨_, Heap.get?_push_size _ rfl, rfl, rfl⟩), rfl, q _ (I.hok.fresh (Nat.le_refl _))⟩
def rLenO (C : Addr) (sp : Sp) (E : XK) : List V → Hp → VK → Prop := fun xs H Q => ∃ (a dx : Addr) (fs : List (Str × V)), xs = [.ref a] ∧ H a = some (.ins C dx fs) ∧ sp [.ref a] H (fun v H' => ∃ n : Nat, v = .int n ∧ (n : Int) < 2 ^ 63 ∧ Q (.int n) H') E
/-- an own method that raises nothing, called at any depth -/
theorem met_run0 {X : Cx} {A : Around} {k j : Nat} {C : Addr} {m : Str} {sp : Sp} {E : XK} (c : Met CX0 X.prog X.w X.K X.mg X.base k C m sp) (hr : Room j A) (hk : k ≤ j)
    (hA : ∀ (s : Shared) (H : Hp), Env0 X.prog X.w X.K X.mg X.base X.A X.stack s H → Env0 X.prog X.w X.K X.mg X.base A X.stack s H) :
    ∃ f : Addr, PySem.W.findIn X.K (.ref C) m = some (some (.ref f)) ∧ PySem.W.isFn X.K (.ref f) = true ∧ PySem.W.keepIn X.K (.ref f) = true ∧
      ∀ (pins : List (Addr × Obj)) (s : Shared) (σ : L2.St) (H : Hp) (us : List Value) (vs : List V) (Q : VK) (EE : Value → Shared → Prop), Inv X pins σ H s → Vals vs us → sp vs H Q E → wpAny (model X.prog X.w) A (call (.ref f) us) (EP X pins σ Q) EE s := by
  obtain ⟨f, fd, ps, hc, hm, F, b⟩ := c.ex
  refine ⟨f, hm.at_, hm.fn, hm.kp, fun pins s σ H us vs Q EE I r h => ?_⟩
  have hl : us.length = ps.length := by rw [← r.length]; exact F.len _ _ _ _ h
  have hb := b s us I.kIn (by rw [List.append_nil]; exact hl)
  rw [List.append_nil] at hb
  refine wpAny_call (codeAny_mono (F.run A X.stack s H ⟨us, []⟩ us vs Q E (hr.mono hk) (hA _ _ I.env0) hb r h) fun r s' hq => ?_)
  match r with
  | .error e => exact False.elim hq
  | .ok (.ret u) => exact I.after hq
  | .ok .next => exact False.elim hq
  | .ok .brk => exact False.elim hq
  | .ok .cont => exact False.elim hq
abbrev EnvA (X : Cx) (A : Around) : Prop := ∀ (s : Shared) (H : Hp), Env0 X.prog X.w X.K X.mg X.base X.A X.stack s H → Env0 X.prog X.w X.K X.mg X.base A X.stack s H
/-- len(o) as a built-in's call, at any depth -/
theorem len_at {X : Cx} {A : Around} {k j : Nat} {C : Addr} {sp : Sp} {E : XK} (c : Met CX0 X.prog X.w X.K X.mg X.base k C "__len__" sp) (hr : Room j A.in1) (hk : k ≤ j) (hA : EnvA X A.in1)
    {pins : List (Addr × Obj)} {s : Shared} {σ : L2.St} {H : Hp} {a dx : Addr} {fs : List (Str × V)} {Q : VK} {EE : Value → Shared → Prop} (I : Inv X pins σ H s) (ha : H a = some (.ins C dx fs)) (hs : sp [.ref a] H (fun v H' => ∃ n : Nat, v = .int n ∧ (n : Int) < 2 ^ 63 ∧ Q (.int n) H') E) :
    wpAny (model X.prog X.w) A (call (.builtin "len") [.ref a]) (EP X pins σ Q) EE s := by
  obtain ⟨f, hf, fn, kp, run⟩ := met_run0 c hr hk hA
  obtain ⟨ox, od, J, _⟩ := inst_of I ha
  have h1 := run pins s σ H [.ref a] [.ref a] _ EE I (.cons rfl .nil) hs
  refine PySem.Calls.call_function_entry PySem.kind_len PySem.plain_len PySem.entry_len (PySem.args_len1 _) ?_
  unfold Builtin.«len»
  refine wpAny_bind (m := oneArg "len" _) (wpAny_pure ?_)
  refine wpAny_bind (m := callSpecial? (.ref a) (Str.ofString "__len__")) (PySem.W.special_fn I.kIn J hf (beq_iff_eq.mp fn) (wpAny_mono h1 (fun v s' hv => ?_) fun _ _ z => z))
  obtain ⟨x, H', I', rv, n, rfl, hn, q⟩ := hv
  obtain ⟨t, rfl⟩ := rv
  have h0 : ¬ ((n : Int) < 0) := by omega
  have h1 : ¬ ((n : Int) ≥ 2 ^ 63) := by omega
  wp_walk
  rw [if_neg h1]
  wp_walk
  exact ⟨_, rfl, .int n, H', I'.tok _, ⟨_, rfl⟩, q⟩
theorem call_lenO {X : Cx} {k j : Nat} {C : Addr} {sp : Sp} {E : XK} (c : Met CX0 X.prog X.w X.K X.mg X.base k C "__len__" sp) (hr : Room j X.A) (hk : k + 1 ≤ j) : CallR X (.builtin "len") (rLenO C sp E) := by
  intro pins s σ H xs us Q I r h
  obtain ⟨a, dx, fs, rfl, ha, hs⟩ := h
  obtain ⟨u, rfl, ru⟩ := vals1 r
  cases (show u = Value.ref a from ru)
  exact len_at c (hr.mono hk).in1 (Nat.le_refl _) (fun _ _ z => z.in1) I ha hs
/-- list(o)'s guess of the length: o's own __len__ -/
theorem hint_at {X : Cx} {A : Around} {k j : Nat} {C : Addr} {sp : Sp} {E : XK} (c : Met CX0 X.prog X.w X.K X.mg X.base k C "__len__" sp) (hr : Room j A.in1) (hk : k ≤ j) (hA : EnvA X A.in1)
    {pins : List (Addr × Obj)} {s : Shared} {σ : L2.St} {H : Hp} {a dx : Addr} {fs : List (Str × V)} {Q : Hp → Prop} {EE : Value → Shared → Prop} (I : Inv X pins σ H s) (ha : H a = some (.ins C dx fs))
    (hs : sp [.ref a] H (fun v H' => ∃ n : Nat, v = .int n ∧ (n : Int) < 2 ^ 63 ∧ ∃ m : Nat, V.int n = .int (m : Nat) ∧ m ≤ 100000 ∧ Q H') E) :
    wpAny (model X.prog X.w) A (Builtin.List.listLengthHint (.ref a)) (fun _ s' => ∃ H', Inv X pins σ H' s' ∧ Q H') EE s := by
  obtain ⟨ox, od, J, _⟩ := inst_of I ha
  obtain ⟨f, hf, fn, kp, run⟩ := met_run0 (E := E) c hr hk hA
  have h1 := len_at c hr hk hA (Q := fun v H' => ∃ m : Nat, v = .int (m : Nat) ∧ m ≤ 100000 ∧ Q H') (EE := fun _ _ => False) I ha hs
  unfold Builtin.List.listLengthHint
  refine wpAny_bind (wpAny_bind (J.type.here ((PySem.W.looks_findIn I.kIn hf).here ?_)))
  refine PySem.W.KFB.if_not rfl ?_
  refine PySem.W.KFB.if_so rfl ?_
  refine wpAny_bind (wpAny_rule (wpAny_bind (wpAny_attempt (wpAny_mono h1 (fun v s' hv => ?_) fun _ _ z => z.elim))))
  obtain ⟨x, H', I', rv, m, rfl, hm, q⟩ := hv
  obtain ⟨t, rfl⟩ := rv
  have h2 : Builtin.List.listTooLong ((m : Int).toNat) = false := by
    show decide ((m : Int).toNat > sizeLine) = false
    rw [decide_eq_false_iff_not, Int.toNat_natCast, sizeLine_eq]
    omega
  refine wpAny_bind (wpAny_pure ?_)
  refine PySem.W.KFB.if_not (by rw [h2]) ?_
  exact wpAny_pure ⟨H', I', q⟩
section
variable {prog : Program} {w : World} {A : Around} {E : Value → Shared → Prop} {s : Shared}
/-- a tuple iterator that has drawn all: it is still there -/
theorem next_over {it t : Addr} {i : Nat} {items : Array Value} {Q : Option Value → Shared → Prop} (hh : A.handled = none) (hit : s.heap.IsTupleIter it t i) (ht : s.heap.IsTuple t items) (hx : items[i]? = none)
    (hQ : ∀ h', Heap.ExtBut it s.heap h' → (∃ o, h'.get? it = some o ∧ o.cls = .type "tuple_iterator") → Q none { s with heap := h' }) : wpAny (model prog w) A (pyNext (.ref it)) Q E s := by
  obtain ⟨ob, hob, hcl, hda⟩ := id hit
  obtain ⟨ol, hol, _, nl, hdl⟩ := ht
  have there : ∀ (f : Array Value → Array Value) (x y : Obj), ∃ o, (((s.heap.update it (Obj.mapFields f)).push x).push y).get? it = some o ∧ o.cls = .type "tuple_iterator" := fun f x y =>
    ⟨_, Heap.get?_push_of_some _ (Heap.get?_push_of_some _ (Heap.get?_update_self _ hob (Obj.isFreed_of_fields (Obj.data_mapFields hda _)))), (Obj.cls_mapFields ..).trans hcl⟩
  unfold pyNext
  refine wpAny_bind (wpAny_attempt (wpAny_callSpecial?_slot (name := Str.ofString "__next__") hit.typeIs F.slot_tuple_iterator_next
    (wpAny_call_entry F.slot_tuple_iterator_next hit.typeIs F.entry_tuple_iterator_next ?_ (F.args_tuple_iterator_next_1 _))))
  show wpAny _ _ (field (.ref it) 0 >>= _) _ _ s
  refine wpAny_bind (wpAny_field hob hda (x := .ref t) rfl ?_)
  show wpAny _ _ (if (Value.ref t == Value.none) = true then _ else _) _ _ s
  rw [if_neg (show ¬ ((Value.ref t == Value.none) = true) from Bool.false_ne_true)]
  show wpAny _ _ (field (.ref it) 1 >>= _) _ _ s
  refine wpAny_bind (wpAny_field hob hda (x := .int i 0) rfl ?_)
  show wpAny _ _ (seqItems? (.ref t) >>= _) _ _ s
  refine wpAny_bind (wpAny_seqItems hol hdl ?_)
  simp only [Int.toNat_natCast, hx]
  refine wpAny_bind (wpAny_rule (wpAny_bind (wpAny_setField hob hda (by simp) ?_)))
  show wpAny _ _ (newExc (.type "StopIteration") [] >>= _) _ _ _
  refine wpAny_bind ?_
  simp only [newExc, newTuple]
  refine wpAny_bind (wpAny_newObj_type ?_ (by size_fits))
  refine wpAny_bind (m := firstArgMember _ _) (wpAny_of_eq (a := Value.none) (by first | rfl | (simp only [firstArgMember]; rfl)) ?_)
  refine wpAny_newObj_type ?_ (by size_fits)
  simp only [raiseNew]
  refine wpAny_bind (wpAny_handled ?_)
  first | rw [show A.in1.handled = none from hh] | rw [hh]
  refine wpAny_bind (wpAny_pure (wpAny_throw ?_))
  refine wpAny_bind (wpAny_isInstance (T := "StopIteration") (b := true) ⟨_, Heap.get?_push_size _ rfl, rfl⟩ isSubtype_stop ?_)
  exact wpAny_pure (hQ _ (((Heap.SameBut.update ..).extBut.push _).push _) (there ..))
end
/-- the loop that fills the list at q from the iterator at it over the tuple at t -/
theorem it_loop {X : Cx} {A1 : Around} (hh : A1.handled = none) {pins : List (Addr × Obj)} {σ : L2.St} {q it t : Addr} {ys : List V} {R : Result → Shared → Prop} {H0 : Hp} (nqi : q ≠ it)
    (hdone : ∀ H s, Inv X pins σ H s → (∀ b, b ≠ it → b ≠ q → H b = H0 b) → H q = some (.lst ys) → R (.ok (.ret .none)) s) (ht : SqT X.K H0 t ys) (hit0 : H0 it = some (itO it t 0)) (hq0 : H0 q = some (.lst [])) :
    ∀ (k i : Nat) (H : Hp) (s : Shared), ys.length - i = k → i ≤ ys.length → Inv X pins σ H s → (∀ b, b ≠ it → b ≠ q → H b = H0 b) → H it = some (itO it t i) → H q = some (.lst (ys.take i)) →
      codeAny (model X.prog X.w) A1 (.builtin "list.extend.loop" ⟨[.ref q, .ref it, .none], []⟩) R s := by
  have nt : ∀ {H : Hp}, (∀ b, b ≠ it → b ≠ q → H b = H0 b) → SqT X.K H t ys := fun {H} hb => by
    rcases ht with (h | ⟨o, h⟩) | h
    · exact .inl (.inl ((hb t (fun w => by rw [w, hit0] at h; cases h) (fun w => by rw [w, hq0] at h; cases h)).trans h))
    · exact .inl (.inr ⟨o, (hb t (fun w => by rw [w, hit0] at h; cases h) (fun w => by rw [w, hq0] at h; cases h)).trans h⟩)
    · exact .inr h
  intro k
  induction k with
  | zero =>
    intro i H s hk hi I hb hit hq
    have e : i = ys.length := by omega
    subst e
    obtain ⟨its, rv, p, hz⟩ := I.tuple (nt hb)
    have hL : s.heap.IsTuple t its.toArray := p
    have hlen := rv.length
    refine codeAny_builtin PySem.F.entry_extend_loop ?_
    rw [Around.under_plainId PySem.F.plain_extend_loop _]
    show wpAny _ A1.in1 (pyNext (.ref it) >>= _) _ _ s
    refine wpAny_bind (next_over (A := A1.in1) hh (itO_get I.hok hit) hL (by simp; omega) fun h' eb ho => ?_)
    have J := I.write (t' := s.toks) (x := it) (e := it) (o := itA it) (by rw [hit]; exact True.intro) (.inl rfl) (fun b u nb z => eb b u nb z) (let ⟨o, e, _⟩ := ho; ⟨o, e⟩) (itA_ok ho)
    refine wpAny_pure (hdone _ _ J (fun b n1 n2 => by rw [upd_ne n1]; exact hb b n1 n2) ?_)
    rw [upd_ne nqi, hq, List.take_length]
  | succ k ih =>
    intro i H s hk hi I hb hit hq
    have hlt : i < ys.length := by omega
    obtain ⟨its, rv, p, hz⟩ := I.tuple (nt hb)
    have hL : s.heap.IsTuple t its.toArray := p
    have hlen := rv.length
    obtain ⟨u, hu, ru⟩ := rv.get (List.getElem?_eq_getElem hlt)
    refine codeAny_builtin PySem.F.entry_extend_loop ?_
    rw [Around.under_plainId PySem.F.plain_extend_loop _]
    show wpAny _ A1.in1 (pyNext (.ref it) >>= _) _ _ s
    refine wpAny_bind (wpAny_pyNext_tuple_item (itO_get I.hok hit) hL (x := u) (by simpa using hu) fun h' hit' hs' => ?_)
    have J := I.write (t' := s.toks) (x := it) (e := it) (o := itO it t (i + 1)) (by rw [hit]; exact True.intro) (.inl rfl) (fun b v nb z => (hs'.2 b nb).trans z) (let ⟨o, e, _⟩ := hit'; ⟨o, e⟩) (itO_ok hit')
    have hq1 : (upd H it (itO it t (i + 1))) q = some (.lst (ys.take i)) := by rw [upd_ne nqi]; exact hq
    show wpAny _ A1.in1 (updateSeq q (·.push u) >>= _) _ _ _
    obtain ⟨z, its2, k2, r2, hl2, e2⟩ := J.lstM hq1
    have l2 := r2.length
    rw [List.length_take] at l2
    rw [sizeLine_eq] at hz
    have hmin : min i ys.length = i := Nat.min_eq_left (by omega)
    rw [hmin] at l2
    refine wpAny_bind (wpAny_updateSeq e2 rfl (wpAny_pure ⟨plainId_quiet PySem.F.plain_extend_loop _, ?_⟩) (by rw [List.size_toArray, sizeLine_eq]; omega) (by show (its2.toArray.push u).size ≤ sizeLine + 1; rw [Array.size_push, List.size_toArray, sizeLine_eq]; omega))
    refine ih (i + 1) _ _ (by omega) (by omega) (J.lset (its' := its2 ++ [u]) (t' := s.toks) hq1 e2 (by simp) (r2.append (.cons ru .nil)) (by rw [List.length_append, List.length_singleton, List.length_take, sizeLine_eq]; omega)) ?_ ?_ ?_
    · intro b n1 n2
      rw [upd_ne n2, upd_ne n1]
      exact hb b n1 n2
    · rw [upd_ne nqi.symm, upd_same]
    · rw [upd_same, ← take_snocG (List.getElem?_eq_getElem hlt)]
/-- list(o): o's __iter__ answers iter(a tuple of ys), its __len__ a small number -/
def rListO (K : PySem.W.Frag) (C : Addr) (spI spL : Sp) : List V → Hp → VK → Prop := fun xs H Q => ∃ (a dx : Addr) (fs : List (Str × V)), xs = [.ref a] ∧ H a = some (.ins C dx fs) ∧
  ∀ q, H q = none → spI [.ref a] (upd H q (.lst [])) (fun v H2 => ∃ (it t : Addr) (ys : List V) (dx2 : Addr) (fs2 : List (Str × V)), v = .ref it ∧ H2 it = some (itO it t 0) ∧ H2 a = some (.ins C dx2 fs2) ∧ q ≠ it ∧
    spL [.ref a] H2 (fun v H3 => ∃ n : Nat, v = .int n ∧ (n : Int) < 2 ^ 63 ∧ ∃ m : Nat, V.int n = .int (m : Nat) ∧ m ≤ 100000 ∧ (SqT K H3 t ys ∧ H3 it = some (itO it t 0) ∧ H3 q = some (.lst []) ∧
      ∀ H4 : Hp, (∀ b, b ≠ it → b ≠ q → H4 b = H3 b) → H4 q = some (.lst ys) → Q (.ref q) H4)) E0) E0
theorem call_listO {X : Cx} (hcalm : X.calm = true) {kI kL j : Nat} {C : Addr} {spI spL : Sp} (cI : Met CX0 X.prog X.w X.K X.mg X.base kI C "__iter__" spI) (cL : Met CX0 X.prog X.w X.K X.mg X.base kL C "__len__" spL) (hr : Room j X.A) (hkI : kI + 3 ≤ j) (hkL : kL + 3 ≤ j) :
    CallR X (.type "list") (rListO X.K C spI spL) := by
  intro pins s σ H xs us Q I rv h
  obtain ⟨a, dx, fs, rfl, ha, hq⟩ := h
  obtain ⟨u, rfl, ru⟩ := vals1 rv
  cases (show u = Value.ref a from ru)
  have room2 : Room (j - 2) X.A.in1.in1 := ((hr.mono (show j - 2 + 1 + 1 ≤ j by omega)).in1).in1
  have room3 : Room (j - 3) X.A.in1.in1.in1 := (room2.mono (show j - 3 + 1 ≤ j - 2 by omega)).in1
  refine callType_codes (Q₁ := fun obj s₁ => obj = .ref s.heap.objs.size ∧ s₁ = { s with heap := s.heap.push { cls := .type "list", data := .seq #[] } }) PySem.F.called_list (PySem.F.typeCall_list_1 _) PySem.F.entry_list_init
    (code_list_new _ ⟨rfl, rfl⟩) fun obj s₁ h₁ => ?_
  obtain ⟨rfl, rfl⟩ := h₁
  have hS : (s.heap.push { cls := .type "list", data := .seq #[] }).get? s.heap.objs.size = some { cls := .type "list", data := .seq #[] } := Heap.get?_push_size _ rfl
  refine ⟨⟨_, hS, rfl⟩, PySem.F.args_list_init_2 _ _, ?_⟩
  have fr : H s.heap.objs.size = none := I.hok.fresh (Nat.le_refl _)
  have hsp := hq _ fr
  have I1 : Inv X pins σ (upd H s.heap.objs.size (.lst [])) { s with heap := s.heap.push { cls := .type "list", data := .seq #[] } } := I.lnew (its := []) (t' := s.toks) .nil (Nat.zero_le _)
  show wpAny _ _ (do let old ← Builtin.List.listItems (.ref s.heap.objs.size); Builtin.List.listUpdate (.ref s.heap.objs.size) (fun _ => #[]); letGo old.toList.reverse; Builtin.List.listExtendWith (.ref s.heap.objs.size) (.ref a) .none) _ _ _
  refine wpAny_bind ?_
  unfold Builtin.List.listItems
  refine wpAny_bind (wpAny_seqItems hS rfl (wpAny_pure ?_))
  show wpAny _ _ (updateSeq s.heap.objs.size (fun _ => #[]) >>= fun _ => letGo (#[] : Array Value).toList.reverse >>= fun _ => Builtin.List.listExtendWith (.ref s.heap.objs.size) (.ref a) .none) _ _ _
  refine wpAny_bind (wpAny_updateSeq hS rfl ?_)
  have I2 := I1.lset (f := fun _ => #[]) (its := []) (its' := []) (ys := []) (t' := s.toks) upd_same hS rfl .nil (Nat.zero_le _)
  rw [upd_upd] at I2
  refine wpAny_bind (wpAny_letGo ?_)
  have ha2 : upd H s.heap.objs.size (.lst []) a = some (.ins C dx fs) := by rw [upd_ne (ne_of_none ha fr)]; exact ha
  have hne : s.heap.objs.size ≠ a := fun w => by rw [← w, fr] at ha; cases ha
  obtain ⟨ox, J, _⟩ := inst_of I2 ha2
  obtain ⟨J, _⟩ := ‹_ ∧ _›
  unfold Builtin.List.listExtendWith
  refine wpAny_bind (J.type.here ?_)
  have e1 : Builtin.List.listSameRef (.ref s.heap.objs.size) (.ref a) = false := by simp [Builtin.List.listSameRef, hne]
  have e2 : (Value.ref C == Value.type "list") = false := rfl
  have e3 : (Value.ref C == Value.type "tuple") = false := rfl
  simp only [e1, e2, e3, Bool.or_false, Bool.false_eq_true, if_false]
  obtain ⟨f, hf, fn, kp, run⟩ := met_run0 (A := X.A.in1.in1) cI room2 (show kI ≤ j - 2 by omega) (fun _ _ z => z.in1.in1)
  obtain ⟨m0, hF⟩ := I2.fr
  refine wpAny_bind (PySem.W.owit_iter hF I2.ok.mod.kin J hf fn (wpAny_mono (run pins _ σ _ [.ref a] [.ref a] _ _ I2 (.cons rfl .nil) hsp) (fun v s' hv => ?_) fun _ _ z => z))
  obtain ⟨x, H2, I3, rx, it, t, ys, dx2, fs2, rfl, hit, ha3, nqi, hL⟩ := hv
  cases (show v = Value.ref it from rx)
  have hitt := itO_get I3.hok hit
  unfold PySem.W.OwitIt
  refine wpAny_specialOf (name := Str.ofString "__next__") hitt.typeIs F.slot_tuple_iterator_next.lookup ?_
  refine wpAny_bind (wpAny_holding (wpAny_mono (hint_at (A := X.A.in1.in1) (EE := _) cL room3 (show kL ≤ j - 3 by omega) (fun _ _ z => z.in1.in1.in1) I3 ha3 hL) (fun b s2 hb => ?_) fun _ _ z => z))
  obtain ⟨H3, I4, hSq, hit3, hq3, hQ⟩ := hb
  have loop : ∀ s4, Inv X pins σ H3 s4 → codeAny (model X.prog X.w) X.A.in1 (.builtin "list.extend.loop" ⟨[.ref s.heap.objs.size, .ref it, .none], []⟩) (wants (fun r s₂ => r = Value.none ∧ EP X pins σ Q (Value.ref s.heap.objs.size) s₂) X.xe) s4 := fun s4 I5 =>
    it_loop (A1 := X.A.in1) (I.ok.hd hcalm) nqi (fun H4 s5 I6 hb hq' => ⟨rfl, .ref s.heap.objs.size, H4, I6, rfl, hQ H4 hb hq'⟩) hSq hit3 hq3 ys.length 0 H3 s4 (by omega) (Nat.zero_le _) I5 (fun _ _ _ => rfl) hit3 (by rw [List.take_zero]; exact hq3)
  refine wpAny_ite_split (fun _ => ?_) (fun _ => wpAny_pure ⟨plainId_quiet PySem.F.plain_extend_loop _, loop s2 I4⟩)
  obtain ⟨z, its, k, r3, hl3, e3'⟩ := I4.lstM hq3
  cases r3
  refine wpAny_bind (wpAny_rule ?_)
  refine wpAny_bind ?_
  show wpAny _ _ (updateSeq s.heap.objs.size (·.push .none) >>= fun _ => updateSeq s.heap.objs.size (·.pop)) _ _ _
  refine wpAny_bind (wpAny_updateSeq e3' rfl ?_)
  have I5 := I4.lset (f := (·.push Value.none)) (its' := [Value.none]) (ys := [.non]) (t' := s2.toks) hq3 e3' (by simp) (.cons rfl .nil) (by rw [List.length_singleton, sizeLine_eq]; decide)
  obtain ⟨z4, its4, k4, r4, hl4, e4⟩ := I5.lstM upd_same
  obtain ⟨u4, rfl, ru4⟩ := r4.one
  refine wpAny_updateSeq e4 rfl ?_ (by show 1 ≤ sizeLine; rw [sizeLine_eq]; decide) (by show 0 ≤ sizeLine + 1; exact Nat.zero_le _)
  refine wpAny_pure ⟨plainId_quiet PySem.F.plain_extend_loop _, loop _ ?_⟩
  have I6 := I5.lset (f := (·.pop)) (its := [u4]) (its' := []) (ys := []) (t' := s2.toks) upd_same e4 (by rfl) .nil (Nat.zero_le _)
  rw [upd_upd] at I6
  have hH : upd H3 s.heap.objs.size (.lst []) = H3 := by
    funext b
    by_cases hb : b = s.heap.objs.size
    · rw [hb, upd_same, hq3]
    · rw [upd_ne hb]
  rw [hH] at I6
  exact I6
/-! ### a law's cells and pools: what is promised of them -/
def PoolAt (H : Hp) (p : Addr) : Prop := ∃ x y z : Int, H p = some (.lst [.int x, .int y, .int z])
theorem PoolAt.kp {H H' : Hp} {p q : Addr} (h : PoolAt H p) (k : Kp q H H') (n : p ≠ q) : PoolAt H' p := by
  obtain ⟨x, y, z, e⟩ := h
  exact ⟨x, y, z, k _ _ n e⟩
theorem PoolAt.same {H H' : Hp} {p : Addr} (h : PoolAt H p) (k : Same H H') : PoolAt H' p := by
  obtain ⟨x, y, z, e⟩ := h
  exact ⟨x, y, z, k _ _ e⟩
theorem at0 {α : Type} {a b c : α} : atI [a, b, c] (0 : Int) = some a := rfl
theorem at1 {α : Type} {a b c : α} : atI [a, b, c] (1 : Int) = some b := rfl
theorem at2 {α : Type} {a b c : α} : atI [a, b, c] (2 : Int) = some c := rfl
def sp_Lcell (K : PySem.W.Frag) : Sp := fun vs H Q _ => ∃ (l : Addr) (ns : List Int) (j : Nat), vs = [.ref l, .int (j : Int)] ∧ SqL K H l (ns.map V.int) ∧ ∀ c : Int, 0 ≤ c → Q (.int c) H
def sp_Lpool : Sp := fun vs H Q _ => ∃ c : Int, vs = [.int c] ∧ ∀ (p : Addr) (H' : Hp), H p = none → Same H H' → PoolAt H' p → Q (.ref p) H'
def sp_Ltake : Sp := fun vs H Q _ => ∃ (p : Addr) (many : Int), vs = [.ref p, .int many] ∧ PoolAt H p ∧ 0 < many ∧ many.natAbs < 2 ^ 300 ∧
  ∀ (H' : Hp) (r : Int), Kp p H H' → PoolAt H' p → 0 ≤ r → r < many → Q (.int r) H'
/-! ### told and due are the same data -/
def Pairs (R : V → V → Prop) (xs ys : List V) : Prop := xs.length = ys.length ∧ ∀ (i : Nat) (x y : V), xs[i]? = some x → ys[i]? = some y → R x y
def flatD : V → Bool
  | .non => true
  | .bl _ => true
  | .int _ => true
  | .str _ => true
  | _ => false
def SameV (K : PySem.W.Frag) (H : Hp) : Nat → V → V → Prop
  | 0, x, y => flatD x = true ∧ x = y
  | n + 1, x, y => (flatD x = true ∧ x = y) ∨
      (∃ (a b : Addr) (xs ys : List V), x = .ref a ∧ y = .ref b ∧ SqL K H a xs ∧ SqL K H b ys ∧ xs.length ≤ sizeLine ∧ Pairs (SameV K H n) xs ys) ∨
      (∃ (a b : Addr) (xs ys : List V), x = .ref a ∧ y = .ref b ∧ SqT K H a xs ∧ SqT K H b ys ∧ xs.length ≤ sizeLine ∧ Pairs (SameV K H n) xs ys)
def sp_Lsame (K : PySem.W.Frag) : Nat → Sp
  | 0 => fun _ _ _ _ => False
  | n + 1 => fun vs H Q _ => ∃ x y : V, vs = [x, y] ∧ SameV K H n x y ∧ Q (.bl true) H
theorem SameV.flat {K : PySem.W.Frag} {H : Hp} {n : Nat} {x : V} (h : flatD x = true) : SameV K H n x x := by
  cases n with
  | zero => exact ⟨h, rfl⟩
  | succ n => exact .inl ⟨h, rfl⟩
theorem Pairs.refl {R : V → V → Prop} {xs : List V} (h : ∀ x ∈ xs, R x x) : Pairs R xs xs := ⟨rfl, fun i x y h1 h2 => by
  rw [h1] at h2
  cases h2
  exact h x (List.mem_of_getElem? h1)⟩
theorem tyx_list {K : PySem.W.Frag} {H : Hp} {a : Addr} {xs : List V} (h : SqL K H a xs) : TyX K H (.ref a) (.type "list") := by
  rcases h with (h | ⟨o, h⟩) | ⟨o, its, n, h, c, _⟩
  · exact .base (.lst h)
  · exact .base (.frz h)
  · exact .kList h c
theorem tyx_tup {K : PySem.W.Frag} {H : Hp} {a : Addr} {xs : List V} (h : SqT K H a xs) : TyX K H (.ref a) (.type "tuple") := by
  rcases h with (h | ⟨o, h⟩) | ⟨o, its, n, h, c, _⟩
  · exact .base (.tup h)
  · exact .fTuple h
  · exact .kTuple h c
theorem pool_ne {H : Hp} {p q : Addr} (h : PoolAt H p) (n : H q = none) : q ≠ p := fun w => by
  obtain ⟨x, y, z, e⟩ := h
  rw [w, e] at n
  cases n
theorem none_kp {H H' : Hp} {p t : Addr} (s : Kp p H H') (n : t ≠ p) (e : H' t = none) : H t = none := by
  cases h : H t with
  | none => rfl
  | some o =>
    rw [s _ _ n h] at e
    cases e
theorem none_of {H H' : Hp} {t : Addr} (s : Same H H') (n : H' t = none) : H t = none := by
  cases e : H t with
  | none => rfl
  | some o =>
    rw [s _ _ e] at n
    cases n
theorem same_app {H2 H4 : Hp} {t : Addr} {o : HO} (s : Same H2 H4) (n : H2 t = none) : Same H2 (upd H4 t o) := fun b u e => by
  rw [upd_ne (ne_of_none e n)]
  exact s _ _ e
theorem Kp.of {p : Addr} {H H' : Hp} (s : Same H H') : Kp p H H' := fun b o _ e => s b o e
/-- a place that was free takes what it takes -/
theorem kp_app {p : Addr} {H H4 : Hp} {t : Addr} {o : HO} (s : Kp p H H4) (n : H t = none) : Kp p H (upd H4 t o) := fun b u nb e => by
  rw [upd_ne (ne_of_none e n)]
  exact s _ _ nb e
theorem sqt_pool {K : PySem.W.Frag} {H H' : Hp} {a b : Addr} {xs : List V} (h : SqT K H b xs) (k : Kp a H H') (p : PoolAt H a) : SqT K H' b xs := by
  obtain ⟨x, y, z, e⟩ := p
  rcases h with (h | ⟨o, h⟩) | h
  · exact .inl (.inl (k _ _ (fun w => by rw [w, e] at h; cases h) h))
  · exact .inl (.inr ⟨o, k _ _ (fun w => by rw [w, e] at h; cases h) h⟩)
  · exact .inr h
theorem sqt_lst {K : PySem.W.Frag} {H H' : Hp} {a b : Addr} {xs ys : List V} (h : SqT K H b xs) (k : Kp a H H') (hl : H a = some (.lst ys)) : SqT K H' b xs := by
  rcases h with (h | ⟨o, h⟩) | h
  · exact .inl (.inl (k _ _ (fun w => by rw [w, hl] at h; cases h) h))
  · exact .inl (.inr ⟨o, k _ _ (fun w => by rw [w, hl] at h; cases h) h⟩)
  · exact .inr h
/-! ### lists of values, each one of its own kind -/
inductive Al {α : Type} (R : V → α → Prop) : List V → List α → Prop where
  | nil : Al R [] []
  | cons {x : V} {y : α} {xs : List V} {ys : List α} : R x y → Al R xs ys → Al R (x :: xs) (y :: ys)
section
variable {α : Type} {R R' : V → α → Prop}
theorem Al.len : ∀ {xs : List V} {ys : List α}, Al R xs ys → xs.length = ys.length
  | _, _, .nil => rfl
  | _, _, .cons _ t => congrArg Nat.succ t.len
theorem Al.mono (h : ∀ x y, R x y → R' x y) : ∀ {xs : List V} {ys : List α}, Al R xs ys → Al R' xs ys
  | _, _, .nil => .nil
  | _, _, .cons r t => .cons (h _ _ r) (t.mono h)
theorem Al.app : ∀ {xs xs' : List V} {ys ys' : List α}, Al R xs ys → Al R xs' ys' → Al R (xs ++ xs') (ys ++ ys')
  | _, _, _, _, .nil, u => u
  | _, _, _, _, .cons r t, u => .cons r (t.app u)
theorem Al.take : ∀ {xs : List V} {ys : List α} (n : Nat), Al R xs ys → Al R (xs.take n) (ys.take n)
  | _, _, 0, _ => .nil
  | _, _, _ + 1, .nil => .nil
  | _, _, n + 1, .cons r t => .cons r (t.take n)
theorem Al.drop : ∀ {xs : List V} {ys : List α} (n : Nat), Al R xs ys → Al R (xs.drop n) (ys.drop n)
  | _, _, 0, h => h
  | _, _, _ + 1, .nil => .nil
  | _, _, n + 1, .cons _ t => t.drop n
theorem Al.snoc {xs : List V} {ys : List α} {x : V} {y : α} (h : Al R xs ys) (r : R x y) : Al R (xs ++ [x]) (ys ++ [y]) := h.app (.cons r .nil)
theorem Al.rev : ∀ {xs : List V} {ys : List α}, Al R xs ys → Al R xs.reverse ys.reverse
  | _, _, .nil => .nil
  | _, _, .cons r t => by
    rw [List.reverse_cons, List.reverse_cons]
    exact t.rev.app (.cons r .nil)
theorem Al.at : ∀ {xs : List V} {ys : List α} {i : Nat} {x : V}, Al R xs ys → xs[i]? = some x → ∃ y, ys[i]? = some y ∧ R x y
  | _, _, _, _, .nil, h => by simp at h
  | _, _, 0, _, .cons r _, h => ⟨_, rfl, by simp at h; subst h; exact r⟩
  | _, _, i + 1, _, .cons _ t, h => t.at (i := i) (by simpa using h)
theorem Al.at' {xs : List V} {ys : List α} {i : Nat} {y : α} (h : Al R xs ys) (hy : ys[i]? = some y) : ∃ x, xs[i]? = some x ∧ R x y := by
  have hi : i < xs.length := by rw [h.len]; exact (List.getElem?_eq_some_iff.mp hy).1
  obtain ⟨y', e, r⟩ := h.at (List.getElem?_eq_getElem hi)
  rw [hy] at e
  cases e
  exact ⟨_, List.getElem?_eq_getElem hi, r⟩
end
/-! ### cars in lists -/
theorem sqt_same {K : PySem.W.Frag} {H H' : Hp} {a : Addr} {xs : List V} (h : SqT K H a xs) (e : Same H H') : SqT K H' a xs := by
  rcases h with (h | ⟨o, h⟩) | h
  · exact .inl (.inl (e _ _ h))
  · exact .inl (.inr ⟨o, e _ _ h⟩)
  · exact .inr h
theorem tyes {σ : L2.St} {H : Hp} {A B : Hp → Prop} (h : A H) : tYes σ H (fun b H3 => if b = true then A H3 else B H3) := by
  show (if true = true then A H else B H)
  rw [if_pos rfl]
  exact h
abbrev Car := Int × Int × Int × Int
def cr (c : Car) : List V := [.int c.1, .int c.2.1, .int c.2.2.1, .int c.2.2.2]
def CrV (K : PySem.W.Frag) (H : Hp) (x : V) (c : Car) : Prop := ∃ p : Addr, x = .ref p ∧ SqT K H p [.int c.1, .int c.2.1, .int c.2.2.1, .int c.2.2.2]
theorem CrV.same {K : PySem.W.Frag} {H H' : Hp} {x : V} {c : Car} (h : CrV K H x c) (e : Same H H') : CrV K H' x c := by
  obtain ⟨p, ex, hp⟩ := h
  exact ⟨p, ex, sqt_same hp e⟩
theorem CrV.lst {K : PySem.W.Frag} {H H' : Hp} {a : Addr} {x : V} {c : Car} {ys : List V} (h : CrV K H x c) (e : Kp a H H') (hl : H a = some (.lst ys)) : CrV K H' x c := by
  obtain ⟨p, ex, hp⟩ := h
  exact ⟨p, ex, sqt_lst hp e hl⟩
abbrev Cars (K : PySem.W.Frag) (H : Hp) := Al (CrV K H)
theorem carsS {K : PySem.W.Frag} {H H' : Hp} {xs : List V} {cs : List Car} (h : Cars K H xs cs) (e : Same H H') : Cars K H' xs cs := Al.mono (fun _ _ r => r.same e) h
theorem carsL {K : PySem.W.Frag} {H H' : Hp} {a : Addr} {ys : List V} {xs : List V} {cs : List Car} (h : Cars K H xs cs) (e : Kp a H H') (hl : H a = some (.lst ys)) : Cars K H' xs cs := Al.mono (fun _ _ r => r.lst e hl) h
theorem carsP {K : PySem.W.Frag} {H H' : Hp} {a : Addr} {xs : List V} {cs : List Car} (h : Cars K H xs cs) (e : Kp a H H') (p : PoolAt H a) : Cars K H' xs cs := by
  obtain ⟨x, y, z, e'⟩ := p
  exact carsL h e e'
theorem sqb_same {K : PySem.W.Frag} {b : Bool} {H H' : Hp} {a : Addr} {xs : List V} (h : SqB K b H a xs) (e : Same H H') : SqB K b H' a xs := by
  cases b
  · exact Same.seq e h
  · exact sqt_same h e
theorem sqb_or {K : PySem.W.Frag} {b : Bool} {H : Hp} {a : Addr} {xs : List V} (h : SqB K b H a xs) : SqL K H a xs ∨ SqT K H a xs := by
  cases b
  · exact .inl h
  · exact .inr h
theorem take_snoc {α : Type} {l : List α} {i : Nat} {x : α} (h : l[i]? = some x) : l.take i ++ [x] = l.take (i + 1) := by
  rw [List.take_add_one, h]
  rfl
theorem flat_ints (l : List Int) : (l.map V.int).all flatV = true := by
  rw [List.all_map, List.all_eq_true]
  intro j _
  rfl
/-- the same items, each flat -/
theorem same_ints {K : PySem.W.Frag} {H : Hp} {a b : Addr} {l : List Int} {n : Nat} (ha : SqL K H a (l.map V.int)) (hb : SqL K H b (l.map V.int)) (hz : l.length ≤ 100000) : SameV K H (n + 1) (.ref a) (.ref b) :=
  .inr (.inl ⟨a, b, _, _, rfl, rfl, ha, hb, by rw [List.length_map, sizeLine_eq]; omega, Pairs.refl fun x hx => by
    obtain ⟨t, _, e⟩ := List.mem_map.mp hx
    subst e
    exact SameV.flat rfl⟩)
theorem same_intsT {K : PySem.W.Frag} {H : Hp} {a b : Addr} {l : List Int} {n : Nat} (ha : SqT K H a (l.map V.int)) (hb : SqT K H b (l.map V.int)) (hz : l.length ≤ 100000) : SameV K H (n + 1) (.ref a) (.ref b) :=
  .inr (.inr ⟨a, b, _, _, rfl, rfl, ha, hb, by rw [List.length_map, sizeLine_eq]; omega, Pairs.refl fun x hx => by
    obtain ⟨t, _, e⟩ := List.mem_map.mp hx
    subst e
    exact SameV.flat rfl⟩)
theorem car_same {K : PySem.W.Frag} {H : Hp} {x y : V} {c : Car} {n : Nat} (hx : CrV K H x c) (hy : CrV K H y c) : SameV K H (n + 1) x y := by
  obtain ⟨p, rfl, hp⟩ := hx
  obtain ⟨q, rfl, hq⟩ := hy
  exact .inr (.inr ⟨p, q, _, _, rfl, rfl, hp, hq, by rw [sizeLine_eq]; show 4 ≤ 16777216; decide, Pairs.refl fun y hy => by
      simp only [List.mem_cons, List.not_mem_nil, or_false] at hy
      rcases hy with rfl | rfl | rfl | rfl <;> exact SameV.flat rfl⟩)
theorem Al.pairs {α : Type} {R : V → α → Prop} {S : V → V → Prop} (h : ∀ x y c, R x c → R y c → S x y) {xs ys : List V} {cs : List α} (a : Al R xs cs) (b : Al R ys cs) : Pairs S xs ys :=
  ⟨by rw [a.len, b.len], fun i x y hx hy => by
    obtain ⟨c, hc, r⟩ := a.at hx
    obtain ⟨c', hc', r'⟩ := b.at hy
    rw [hc] at hc'
    cases hc'
    exact h _ _ _ r r'⟩
theorem cars_sameL {K : PySem.W.Frag} {H : Hp} {a b : Addr} {xs ys : List V} {cs : List Car} {n : Nat} (ha : SqL K H a xs) (hb : SqL K H b ys) (hx : Cars K H xs cs) (hy : Cars K H ys cs) (hz : cs.length ≤ 100000) : SameV K H (n + 2) (.ref a) (.ref b) :=
  .inr (.inl ⟨a, b, _, _, rfl, rfl, ha, hb, by rw [hx.len, sizeLine_eq]; omega, Al.pairs (R := CrV K H) (S := SameV K H (n + 1)) (fun _ _ _ h1 h2 => car_same h1 h2) hx hy⟩)
theorem cars_sameT {K : PySem.W.Frag} {H : Hp} {a b : Addr} {xs ys : List V} {cs : List Car} {n : Nat} (ha : SqT K H a xs) (hb : SqT K H b ys) (hx : Cars K H xs cs) (hy : Cars K H ys cs) (hz : cs.length ≤ 100000) : SameV K H (n + 2) (.ref a) (.ref b) :=
  .inr (.inr ⟨a, b, _, _, rfl, rfl, ha, hb, by rw [hx.len, sizeLine_eq]; omega, Al.pairs (R := CrV K H) (S := SameV K H (n + 1)) (fun _ _ _ h1 h2 => car_same h1 h2) hx hy⟩)
theorem iteB {b : Bool} {A B : Prop} (hA : b = true → A) (hB : b = false → B) : if b = true then A else B := by
  cases b
  · exact iteF (hB rfl)
  · exact iteT (hA rfl)
theorem iteNe {x y : V} {A B : Prop} (e : x = y) (h : B) : if (!decide (x = y)) = true then A else B := by
  rw [decide_eq_true e]
  exact iteF h
theorem pick4 {a b c d r : Int} (h0 : 0 ≤ r) (h1 : r < 4) : ∃ v : Int, atI [V.int a, V.int b, V.int c, V.int d] r = some (V.int v) ∧ (v = a ∨ v = b ∨ v = c ∨ v = d) := by
  have : r = 0 ∨ r = 1 ∨ r = 2 ∨ r = 3 := by omega
  rcases this with e | e | e | e
  · subst e; exact ⟨a, rfl, .inl rfl⟩
  · subst e; exact ⟨b, rfl, .inr (.inl rfl)⟩
  · subst e; exact ⟨c, rfl, .inr (.inr (.inl rfl))⟩
  · subst e; exact ⟨d, rfl, .inr (.inr (.inr rfl))⟩
theorem getD_at {α : Type} {l : List α} {i : Nat} {c d : α} (h : l[i]? = some c) : l.getD i d = c := by
  rw [List.getD_eq_getElem?_getD, h]
  rfl
theorem seq_ix {i : Int} {n : Nat} (h0 : 0 ≤ i) (h1 : i < (n : Int)) : seqIndex? i n = some i.toNat := by
  unfold seqIndex?
  first
    | (simp only; split <;> first | (split <;> first | rfl | omega) | omega)
    | (have e : ¬ i < 0 := by omega
       simp [e, h1, h0])
theorem cut_drop (xs : List V) (w : Nat) : cutV xs (some (w : Int)) none = xs.drop w := by
  have e0 : HT.sIx xs.length xs.length none = xs.length := rfl
  have e1 : HT.sIx xs.length 0 (some (w : Int)) = min w xs.length := by
    simp only [HT.sIx]
    split <;> omega
  unfold cutV
  rw [e0, e1]
  by_cases h : w ≤ xs.length
  · rw [Nat.min_eq_left h, List.take_of_length_le (by rw [List.length_drop]; omega)]
  · rw [Nat.min_eq_right (by omega), List.drop_length, List.drop_of_length_le (by omega), List.take_nil]
theorem cut_pre (ns : List Int) (w : Nat) : cutV (ns.map V.int) none (some (w : Int)) = (ns.take w).map V.int := by
  have e0 : HT.sIx (ns.map V.int).length 0 none = 0 := rfl
  have e1 : HT.sIx (ns.map V.int).length (ns.map V.int).length (some (w : Int)) = min w (ns.map V.int).length := by
    simp only [HT.sIx]
    split <;> omega
  unfold cutV
  rw [e0, e1, List.drop_zero, Nat.sub_zero, List.map_take]
  by_cases h : w ≤ (ns.map V.int).length
  · rw [Nat.min_eq_left h]
  · rw [Nat.min_eq_right (by omega), List.take_length, List.take_of_length_le (by omega)]
theorem iteNT {x y : V} {A B : Prop} (e : ¬ x = y) (h : A) : if (!decide (x = y)) = true then A else B := by
  rw [decide_eq_false e]
  exact h
/-! ### == of lists, of tuples of whole numbers -/
theorem dpAll_ints {K : PySem.W.Frag} {H : Hp} : ∀ ns : List Int, DpAll K H (ns.map V.int) (ns.map PyData.int)
  | [] => .nil
  | n :: ns => .cons (.int n) (dpAll_ints ns)
theorem eqvAll_ints : ∀ ns ms : List Int, PyData.eqvAll (ns.map PyData.int) (ms.map PyData.int) = decide (ns = ms)
  | [], [] => by simp [PyData.eqvAll]
  | [], m :: ms => by simp [PyData.eqvAll]
  | n :: ns, [] => by simp [PyData.eqvAll]
  | n :: ns, m :: ms => by
    rw [List.map_cons, List.map_cons, PyData.eqvAll, eqvAll_ints ns ms, PyData.eqv, Bool.eq_iff_iff]
    simp
theorem lay_ints : ∀ ns : List Int, PyData.canLayAll0 (ns.map PyData.int) = true
  | [] => by simp [PyData.canLayAll0]
  | n :: ns => by
    rw [List.map_cons, PyData.canLayAll0, lay_ints ns, PyData.canLay0]
    rfl
theorem dep_ints : ∀ ns : List Int, PyData.depthAll (ns.map PyData.int) = 0
  | [] => by simp [PyData.depthAll]
  | n :: ns => by
    rw [List.map_cons, PyData.depthAll, dep_ints ns, PyData.depth]
    rfl
theorem shaped_ints (ns : List Int) : SeqAt.shaped (.list (ns.map PyData.int)) = true ∧ SeqAt.shaped (.tuple (ns.map PyData.int)) = true := by
  unfold SeqAt.shaped
  rw [PyData.canLay0, PyData.canLay0, PyData.depth, PyData.depth, lay_ints, dep_ints]
  exact ⟨rfl, rfl⟩
section
variable {X : Cx}
theorem op_eqLI (hu : X.A.units + 64 < cLine) : OpR X (compareOp .Eq) (fun x y H Q => ∃ (a b : Addr) (ns ms : List Int), x = .ref a ∧ y = .ref b ∧ SqL X.K H a (ns.map V.int) ∧ SqL X.K H b (ms.map V.int) ∧ Q (.bl (decide (ns = ms))) H) := by
  intro pins s σ H x y v u Q I rx ry h
  obtain ⟨a, b, ns, ms, rfl, rfl, ha, hb, q⟩ := h
  refine op_eqD hu pins s σ H _ _ v u Q I rx ry ⟨.list (ns.map PyData.int), .list (ms.map PyData.int), .lst ha (dpAll_ints ns), .lst hb (dpAll_ints ms), (shaped_ints ns).1, (shaped_ints ms).1, ?_⟩
  rw [PyData.eqv, eqvAll_ints]
  exact q
theorem op_neLI (hu : X.A.units + 64 < cLine) : OpR X (compareOp .NotEq) (fun x y H Q => ∃ (a b : Addr) (ns ms : List Int), x = .ref a ∧ y = .ref b ∧ SqL X.K H a (ns.map V.int) ∧ SqL X.K H b (ms.map V.int) ∧ Q (.bl (!decide (ns = ms))) H) := by
  intro pins s σ H x y v u Q I rx ry h
  obtain ⟨a, b, ns, ms, rfl, rfl, ha, hb, q⟩ := h
  refine op_neD hu pins s σ H _ _ v u Q I rx ry ⟨.list (ns.map PyData.int), .list (ms.map PyData.int), .lst ha (dpAll_ints ns), .lst hb (dpAll_ints ms), (shaped_ints ns).1, (shaped_ints ms).1, ?_⟩
  rw [PyData.eqv, eqvAll_ints]
  exact q
theorem op_eqTI (hu : X.A.units + 64 < cLine) : OpR X (compareOp .Eq) (fun x y H Q => ∃ (a b : Addr) (ns ms : List Int), x = .ref a ∧ y = .ref b ∧ SqT X.K H a (ns.map V.int) ∧ SqT X.K H b (ms.map V.int) ∧ Q (.bl (decide (ns = ms))) H) := by
  intro pins s σ H x y v u Q I rx ry h
  obtain ⟨a, b, ns, ms, rfl, rfl, ha, hb, q⟩ := h
  refine op_eqD hu pins s σ H _ _ v u Q I rx ry ⟨.tuple (ns.map PyData.int), .tuple (ms.map PyData.int), .tup ha (dpAll_ints ns), .tup hb (dpAll_ints ms), (shaped_ints ns).2, (shaped_ints ms).2, ?_⟩
  rw [PyData.eqv, eqvAll_ints]
  exact q
end
theorem int_at {hs : List Int} {i : Nat} {y : V} (h : (hs.map V.int)[i]? = some y) : ∃ z : Int, hs[i]? = some z ∧ y = .int z := by
  rw [List.getElem?_map] at h
  cases e : hs[i]? with
  | none => rw [e] at h; cases h
  | some z => rw [e] at h; cases h; exact ⟨z, rfl, rfl⟩
theorem ixN_nat {n k : Nat} (h : k < n) : ixN n ((k : Nat) : Int) = some k := by
  unfold ixN
  simp
  omega
/-! ### rows -/
def rwf (tp : Addr) : List (Str × V) := putF "letters" (.ref tp) []
theorem rwf_at (tp : Addr) : (rwf tp).lookup ("letters" : Str) = some (.ref tp) := by
  unfold rwf
  rw [lookup_putF, if_pos rfl]
theorem rwf_no (tp : Addr) {m : Str} (h : ¬ m = "letters") : (rwf tp).lookup m = none := by
  unfold rwf
  rw [lookup_putF, if_neg h]
  all_goals rfl
/-- the row at a has the letters ns -/
def RowAt (K : PySem.W.Frag) (C : Addr) (H : Hp) (a : Addr) (ns : List Int) : Prop := ∃ dx tp : Addr, H a = some (.ins C dx (rwf tp)) ∧ SqT K H tp (ns.map V.int)
theorem RowAt.same {K : PySem.W.Frag} {C : Addr} {H H' : Hp} {a : Addr} {ns : List Int} (h : RowAt K C H a ns) (e : Same H H') : RowAt K C H' a ns := by
  obtain ⟨dx, tp, h1, h2⟩ := h
  exact ⟨dx, tp, e _ _ h1, sqt_same h2 e⟩
theorem RowAt.lst {K : PySem.W.Frag} {C : Addr} {H H' : Hp} {a c : Addr} {ns : List Int} {ys : List V} (h : RowAt K C H a ns) (k : Kp c H H') (hl : H c = some (.lst ys)) : RowAt K C H' a ns := by
  obtain ⟨dx, tp, h1, h2⟩ := h
  exact ⟨dx, tp, k _ _ (fun w => by rw [w, hl] at h1; cases h1) h1, sqt_lst h2 k hl⟩
/-- the first place that is wrong -/
def badAt (ns : List Int) (i : Nat) : Prop := ∃ n, ns[i]? = some n ∧ (i = 2000 ∨ n < 0 ∨ 4 < n)
def sp_Row_init (K : PySem.W.Frag) (C B : Addr) : Sp := fun vs H Q E => ∃ (x dx a : Addr) (b : Bool) (ns : List Int), vs = [.ref x, .ref a] ∧ H x = some (.ins C dx []) ∧ SqB K b H a (ns.map V.int) ∧ ns.length ≤ 100000 ∧
  ((∃ i, badAt ns i ∧ (∀ j < i, ¬ badAt ns j) ∧ ∀ (H' : Hp) (d : Addr), Same H H' → H' d = none → E (.ref B) (some d) (upd H' d (.xd [(("place" : Str), .int (i : Nat))]))) ∨
    ((∀ j, ¬ badAt ns j) ∧ ∀ H', Kp x H H' → RowAt K C H' x ns → Q .non H'))
def sp_Row_len (K : PySem.W.Frag) (C : Addr) : Sp := fun vs H Q _ => ∃ (x : Addr) (ns : List Int), vs = [.ref x] ∧ RowAt K C H x ns ∧ Q (.int (ns.length : Nat)) H
def sp_Row_iter (K : PySem.W.Frag) (C : Addr) : Sp := fun vs H Q _ => ∃ (x tp dx : Addr) (ns : List Int), vs = [.ref x] ∧ H x = some (.ins C dx (rwf tp)) ∧ SqT K H tp (ns.map V.int) ∧ ∀ it, H it = none → Q (.ref it) (upd H it (itO it tp 0))
def sp_Row_get (K : PySem.W.Frag) (C B : Addr) : Sp := fun vs H Q E => ∃ (x : Addr) (ns : List Int) (i : Int), vs = [.ref x, .int i] ∧ RowAt K C H x ns ∧ i.natAbs < 2 ^ 200 ∧
  ((0 ≤ i ∧ i < ns.length ∧ ∀ v, ns[i.toNat]? = some v → Q (.int v) H) ∨ ((i < 0 ∨ (ns.length : Int) ≤ i) ∧ ∀ (H' : Hp) (d : Addr), Same H H' → H' d = none → E (.ref B) (some d) (upd H' d (.xd [(("place" : Str), .int i)]))))
theorem mk_same {H J : Hp} {x dx C : Addr} (hx : H x = none) (hdx : H dx = none) (k : Kp x (upd (upd H dx (.own x)) x (.ins C dx [])) J) : Same H J := fun b o e => k b o (ne_of_none e hx) (by
  rw [upd_ne (ne_of_none e hx), upd_ne (ne_of_none e hdx)]
  exact e)
/-! ### texts of drawn signs -/
/-- all signs from the blank to ~ -/
def Asc (y : Str) : Prop := ∀ c ∈ y.cps.toList, 32 ≤ c ∧ c ≤ 126
theorem asc_app {a b : Str} (h : Asc a) (g : Asc b) : Asc (a ++ b) := fun c hc => by
  rw [show (a ++ b).cps = a.cps ++ b.cps from Str.cps_append a b, Array.toList_append, List.mem_append] at hc
  rcases hc with hc | hc
  · exact h c hc
  · exact g c hc
theorem asc_cut {a : Str} (lo hi : Option Int) (h : Asc a) : Asc (cutS a lo hi) := fun c hc => by
  unfold cutS at hc
  rw [List.toList_toArray] at hc
  exact h c (List.mem_of_mem_drop (List.mem_of_mem_take hc))
theorem cut_len (a : Str) (lo hi : Option Int) : (cutS a lo hi).length ≤ a.length := cutS_length a lo hi
def sgns : Str := " !\"#$&'()*+,-./0123456789:;<=>?@ABCDEFGHIJKLMNOPQRSTUVWXYZ[\\]^_`" ++ "abcdefghijklmnopqrstuvwxyz{|}~"
theorem sgns_len : sgns.length = 94 := by decide +kernel
theorem sgns_asc : Asc sgns := by
  unfold Asc
  decide +kernel
theorem asc_one {a : Str} {i : Int} {c : Nat} (h : Asc a) (e : atI a.cps.toList i = some c) : Asc ⟨#[c]⟩ := fun d hd => by
  have hd' : d = c := by simpa using hd
  subst hd'
  unfold atI at e
  cases hx : ixN a.cps.toList.length i with
  | none => rw [hx] at e; cases e
  | some j => rw [hx] at e; exact h d (List.mem_of_getElem? e)
theorem atI_in {α : Type} {xs : List α} {i : Int} (h0 : 0 ≤ i) (h1 : i < (xs.length : Int)) : ∃ c, atI xs i = some c := by
  have hj : i.toNat < xs.length := by omega
  refine ⟨xs[i.toNat], ?_⟩
  have e := atI_nat (List.getElem?_eq_getElem hj)
  rw [Int.toNat_of_nonneg h0] at e
  exact e
theorem app_len (a b : Str) : (a ++ b).length = a.length + b.length := Str.length_append a b
theorem small_line {n : Nat} (h : n ≤ 100000) : n ≤ sizeLine := by rw [sizeLine_eq]; omega
def sp_Lsigns : Sp := fun vs H Q _ => vs = [] ∧ Q (.str sgns) H
def sp_Lbent : Sp := fun vs H Q _ => ∃ (p : Addr) (y g : Str), vs = [.ref p, .str y, .str g] ∧ PoolAt H p ∧ Asc y ∧ Asc g ∧ 0 < g.length ∧ g.length ≤ 1000 ∧ y.length ≤ 1000 ∧
  ∀ (H' : Hp) (z : Str), Kp p H H' → PoolAt H' p → Asc z → z.length ≤ 2 * y.length + 1 → Q (.str z) H'
def sp_LbentN : Sp := fun vs H Q _ => ∃ (p : Addr) (y g : Str), vs = [.ref p, .str y, .str g] ∧ PoolAt H p ∧ 0 < g.length ∧ g.length ≤ 1000 ∧ y.length ≤ 10000 ∧
  ∀ (H' : Hp) (z : Str), Kp p H H' → PoolAt H' p → z.length ≤ 2 * y.length + 1 → Q (.str z) H'
/-- a sign of a text at a drawn place -/
theorem sign_at {g : Str} {r : Int} (h0 : 0 ≤ r) (h1 : r < (g.length : Int)) : ∃ c, atI g.cps.toList r = some c := atI_in h0 (by rw [Array.length_toList]; exact h1)
theorem sum1 : ∀ {ys : List Str}, (∀ y ∈ ys, y.length = 1) → (ys.map (·.length)).sum = ys.length
  | [], _ => rfl
  | y :: ys, h => by
    rw [List.map_cons, List.sum_cons, sum1 (fun z hz => h z (List.mem_cons_of_mem _ hz)), h y (List.mem_cons_self ..), List.length_cons]
    omega
theorem pool_at {H : Hp} {p t : Addr} {o : HO} (h : PoolAt H p) (n : t ≠ p) : PoolAt (upd H t o) p := by
  obtain ⟨x, y, z, e⟩ := h
  exact ⟨x, y, z, by rw [upd_ne n.symm]; exact e⟩
theorem join_le (y : Str) (l : List Str) : (Txt.join y l).length ≤ (l.map (·.length)).sum + l.length * y.length := by
  rw [TL.join_eq]
  cases l with
  | nil => exact Nat.zero_le _
  | cons a r =>
    rw [PyProof.Rows.len_join_cons, List.length_cons, Nat.add_mul]
    omega
theorem empty_len : ("" : Str).length = 0 := by decide +kernel
/-- signs joined by nothing -/
def sgs (cs : List Nat) : List Str := cs.map fun c => ⟨#[c]⟩
theorem tl_join_sgs (cs : List Nat) : TL.tl (Txt.join "" (sgs cs)) = cs := by
  rw [TL.join_eq]
  induction cs with
  | nil => rfl
  | cons c r ih =>
    cases r with
    | nil => rfl
    | cons d r =>
      show TL.tl ((⟨#[c]⟩ : Str) ++ "" ++ Str.join "" (sgs (d :: r))) = _
      rw [TL.tl_append, TL.tl_append, ih]
      rfl
theorem sgs_one (cs : List Nat) : ∀ y ∈ sgs cs, y.length = 1 := fun y hy => by
  obtain ⟨c, _, rfl⟩ := List.mem_map.mp hy
  rfl
theorem big_small {n : Nat} (h : n ≤ 100000) : n < sizeLine := by rw [sizeLine_eq]; omega
theorem big_le {n : Nat} (h : n ≤ 100000) : n ≤ sizeLine := by rw [sizeLine_eq]; omega
/-! ### rows as texts -/
def dg (n : Int) : Str := Str.ofString (toString n)
def letOf (z : Str) : Int := if z = dg 0 then 0 else if z = dg 1 then 1 else if z = dg 2 then 2 else if z = dg 3 then 3 else if z = dg 4 then 4 else -1
theorem dg_facts : ∀ n ∈ ([0, 1, 2, 3, 4] : List Int), letOf (dg n) = n ∧ (dg n).length = 1 ∧ (32 : Nat) ∉ TL.tl (dg n) ∧ n.natAbs.log2 < 1920 ∧ PySem.intText? (dg n) = some n := by
  unfold letOf dg
  decide +kernel
theorem five {n : Int} (h0 : 0 ≤ n) (h4 : n ≤ 4) : n ∈ ([0, 1, 2, 3, 4] : List Int) := by
  have : n = 0 ∨ n = 1 ∨ n = 2 ∨ n = 3 ∨ n = 4 := by omega
  simp only [List.mem_cons, List.not_mem_nil, or_false]
  exact this
theorem letOf_hit {n : Int} (h0 : 0 ≤ n) (h4 : n ≤ 4) : letOf (dg n) = n := (dg_facts n (five h0 h4)).1
theorem letOf_miss {z : Str} (h : ∀ n ∈ ([0, 1, 2, 3, 4] : List Int), z ≠ dg n) : letOf z = -1 := by
  unfold letOf
  rw [if_neg (h 0 (by decide)), if_neg (h 1 (by decide)), if_neg (h 2 (by decide)), if_neg (h 3 (by decide)), if_neg (h 4 (by decide))]
theorem letOf_ok {z : Str} (h : 0 ≤ letOf z) : z = dg (letOf z) ∧ letOf z ≤ 4 := by
  by_cases hz : ∀ n ∈ ([0, 1, 2, 3, 4] : List Int), z ≠ dg n
  · rw [letOf_miss hz] at h
    omega
  · obtain ⟨n, hn, e⟩ : ∃ n ∈ ([0, 1, 2, 3, 4] : List Int), z = dg n := Classical.byContradiction fun w => hz fun n hn e => w ⟨n, hn, e⟩
    have k := (dg_facts n hn).1
    rw [e, k]
    refine ⟨rfl, ?_⟩
    simp only [List.mem_cons, List.not_mem_nil, or_false] at hn
    omega
def rowOf (y : Str) : List Int := if y = "empty" then [] else (Txt.split y " ").map letOf
def rtx (ns : List Int) : Str := if ns.length = 0 then "empty" else Txt.join " " (ns.map dg)
def Lt5 (ns : List Int) : Prop := ∀ n ∈ ns, 0 ≤ n ∧ n ≤ 4
def OkR (ns : List Int) : Prop := ∀ j, ¬ badAt ns j
theorem okR_lt {ns : List Int} (h : OkR ns) : Lt5 ns ∧ ns.length ≤ 2000 := by
  constructor
  · intro n hn
    obtain ⟨i, hi, e⟩ := List.getElem_of_mem hn
    have := h i
    by_cases h0 : 0 ≤ n ∧ n ≤ 4
    · exact h0
    · exact absurd ⟨n, by rw [List.getElem?_eq_getElem hi, e], .inr (by omega)⟩ this
  · by_cases h1 : ns.length ≤ 2000
    · exact h1
    · exact absurd ⟨ns[2000], List.getElem?_eq_getElem (by omega), .inl rfl⟩ (h 2000)
theorem okR_of {ns : List Int} (h : Lt5 ns) (hl : ns.length ≤ 2000) : OkR ns := by
  rintro j ⟨n, hn, hb⟩
  have h1 := h n (List.mem_of_getElem? hn)
  have h2 := (List.getElem?_eq_some_iff.mp hn).1
  omega
theorem sep1_tl : TL.tl (" " : Str) = [32] := by decide +kernel
theorem join_cut (x y : Str) : Txt.join y (Txt.split x y) = x := by
  rw [TL.join_eq]
  exact StrLaws.join_split x y
theorem split1 (y : Str) : (Txt.split y " ").map TL.tl = TL.spl [32] 0 [] (TL.tl y) := by
  rw [TL.split_spl y " " (by decide +kernel) (TL.kind_ok (by decide +kernel)), sep1_tl]
theorem spl_ne (S : List Nat) : ∀ (l : List Nat) (k : Nat) (acc : List Nat), TL.spl S k acc l ≠ [] := by
  intro l
  induction l with
  | nil => intro k acc; rw [TL.spl_nil]; simp
  | cons c r ih =>
    intro k acc
    cases k with
    | zero =>
      cases hp : TL.pre S (c :: r) with
      | true => rw [TL.spl_hit hp]; simp
      | false => rw [TL.spl_miss hp]; exact ih _ _
    | succ k => exact ih k acc
theorem split_pos (y : Str) : 0 < (Txt.split y " ").length := by
  have e := split1 y
  have n := spl_ne [32] (TL.tl y) 0 []
  rw [← e] at n
  cases h : Txt.split y " " with
  | nil => rw [h] at n; exact absurd rfl n
  | cons a l => exact Nat.succ_pos _
theorem split_le2 (y : Str) : (Txt.split y " ").length ≤ y.length + 2 := PyProof.Rows.split_le y " "
theorem parts_rtx {ns : List Int} (h : Lt5 ns) : Txt.split (rtx ns) " " = if ns.length = 0 then [("empty" : Str)] else ns.map dg := by
  unfold rtx
  by_cases e : ns.length = 0
  · rw [if_pos e, if_pos e]
    decide +kernel
  · rw [if_neg e, if_neg e]
    refine TL.split_join sep1_tl (by decide +kernel) (fun z => e (by rw [List.map_eq_nil_iff] at z; rw [z]; rfl)) fun p hp => ?_
    obtain ⟨n, hn, rfl⟩ := List.mem_map.mp hp
    exact (dg_facts n (five (h n hn).1 (h n hn).2)).2.2.1
theorem rtx_ne {ns : List Int} (h : Lt5 ns) (e : ¬ ns.length = 0) : rtx ns ≠ "empty" := fun z => by
  have k := parts_rtx h
  rw [z, if_neg e] at k
  have e1 : Txt.split "empty" " " = [("empty" : Str)] := by decide +kernel
  rw [e1] at k
  have e2 : ("empty" : Str) ∈ ns.map dg := by rw [← k]; exact List.mem_singleton.mpr rfl
  obtain ⟨n, hn, en⟩ := List.mem_map.mp e2
  have l1 := (dg_facts n (five (h n hn).1 (h n hn).2)).2.1
  rw [en] at l1
  revert l1
  decide +kernel
theorem rowOf_rtx {ns : List Int} (h : Lt5 ns) : rowOf (rtx ns) = ns := by
  by_cases e : ns.length = 0
  · rw [List.eq_nil_of_length_eq_zero e]
    decide +kernel
  · unfold rowOf
    rw [if_neg (rtx_ne h e), parts_rtx h, if_neg e, List.map_map]
    conv => rhs; rw [← List.map_id ns]
    exact List.map_congr_left fun n hn => letOf_hit (h n hn).1 (h n hn).2
theorem rtx_rowOf {y : Str} (h : OkR (rowOf y)) : rtx (rowOf y) = y := by
  have hl := (okR_lt h).1
  unfold rowOf at h hl ⊢
  by_cases e : y = "empty"
  · rw [if_pos e, e]
    rfl
  · rw [if_neg e] at h hl ⊢
    have sp := split_pos y
    unfold rtx
    rw [if_neg (by rw [List.length_map]; omega), List.map_map]
    have e2 : (Txt.split y " ").map (dg ∘ letOf) = Txt.split y " " := by
      conv => rhs; rw [← List.map_id (Txt.split y " ")]
      refine List.map_congr_left fun z hz => ?_
      exact (letOf_ok (hl _ (List.mem_map_of_mem hz)).1).1.symm
    rw [e2, join_cut]
theorem sum_le : ∀ {ys : List Str} {b : Nat}, (∀ y ∈ ys, y.length ≤ b) → (ys.map (·.length)).sum ≤ b * ys.length
  | [], _, _ => Nat.zero_le _
  | y :: ys, b, h => by
    have e := sum_le fun z hz => h z (List.mem_cons_of_mem _ hz)
    have e2 := h y (List.mem_cons_self ..)
    rw [List.map_cons, List.sum_cons, List.length_cons, Nat.mul_add]
    omega
theorem rtx_len {ns : List Int} (h : Lt5 ns) (hn : ns.length ≤ 3000) : (rtx ns).length ≤ 6000 ∧ ((ns.map dg).map (·.length)).sum + (ns.map dg).length * (" " : Str).length ≤ 6000 := by
  have e1 : (" " : Str).length = 1 := by decide +kernel
  have s1 : ((ns.map dg).map (·.length)).sum ≤ 1 * (ns.map dg).length := sum_le fun y hy => by
    obtain ⟨n, hn, rfl⟩ := List.mem_map.mp hy
    have := (dg_facts n (five (h n hn).1 (h n hn).2)).2.1
    omega
  rw [List.length_map] at s1
  refine ⟨?_, by rw [e1, List.length_map]; omega⟩
  unfold rtx
  by_cases e : ns.length = 0
  · rw [if_pos e]
    decide +kernel
  · rw [if_neg e]
    have z := join_le " " (ns.map dg)
    rw [e1, List.length_map] at z
    omega
def PB (ps : List Str) : Prop := (∀ z ∈ ps, z.length ≤ 5) ∧ ps.length ≤ 3000
theorem PB.set {ps : List Str} {z : Str} (h : PB ps) (hz : z.length ≤ 5) (k : Nat) : PB (ps.set k z) := by
  refine ⟨fun w hw => ?_, by rw [List.length_set]; exact h.2⟩
  rcases List.mem_or_eq_of_mem_set hw with hw | rfl
  · exact h.1 w hw
  · exact hz
theorem PB.join {ps : List Str} (h : PB ps) : (Txt.join " " ps).length ≤ 18000 ∧ (ps.map (·.length)).sum + ps.length * (" " : Str).length ≤ 18000 := by
  have e1 : (" " : Str).length = 1 := by decide +kernel
  have s1 := sum_le h.1
  have l := h.2
  have z := join_le " " ps
  rw [e1] at z ⊢
  omega
theorem pb_rtx {ns : List Int} (h : Lt5 ns) (hn : ns.length ≤ 3000) : PB (Txt.split (rtx ns) " ") := by
  rw [parts_rtx h]
  by_cases e : ns.length = 0
  · rw [if_pos e]
    exact ⟨by decide +kernel, by decide⟩
  · rw [if_neg e]
    refine ⟨fun z hz => ?_, by rw [List.length_map]; exact hn⟩
    obtain ⟨n, hn, rfl⟩ := List.mem_map.mp hz
    have := (dg_facts n (five (h n hn).1 (h n hn).2)).2.1
    omega
def sp_letter_of : Sp := fun vs H Q _ => ∃ z : Str, vs = [.str z] ∧ Q (.int (letOf z)) H
def sp_Row_parse (K : PySem.W.Frag) (C B : Addr) : Sp := fun vs H Q E => ∃ y : Str, vs = [.ref C, .str y] ∧ y.length ≤ 20000 ∧ ((∃ i, badAt (rowOf y) i ∧ (∀ j < i, ¬ badAt (rowOf y) j) ∧ ∀ (H' : Hp) (d : Addr), Same H H' → H' d = none → E (.ref B) (some d) (upd H' d (.xd [(("place" : Str), .int (i : Nat))]))) ∨
  (OkR (rowOf y) ∧ ∀ (H' : Hp) (q : Addr), Same H H' → RowAt K C H' q (rowOf y) → Q (.ref q) H'))
def sp_Row_str (K : PySem.W.Frag) (C : Addr) : Sp := fun vs H Q _ => ∃ (r : Addr) (ns : List Int), vs = [.ref r] ∧ RowAt K C H r ns ∧ OkR ns ∧ ∀ H', Same H H' → Q (.str (rtx ns)) H'
def sp_Lletters : Sp := fun vs H Q _ => ∃ (p : Addr) (n : Nat), vs = [.ref p, .int (n : Nat)] ∧ n ≤ 2500 ∧ PoolAt H p ∧
  ∀ (H' : Hp) (q : Addr) (ts : List Int), Kp p H H' → PoolAt H' p → H q = none → H' q = some (.lst (ts.map V.int)) → (ts.length = n ∧ Lt5 ts) → Q (.ref q) H'
def sp_Lany : Sp := fun vs H Q _ => ∃ (p : Addr) (g : Str), vs = [.ref p, .str g] ∧ PoolAt H p ∧ 0 < g.length ∧ g.length ≤ 1000 ∧ ∀ (H' : Hp) (z : Str), Kp p H H' → z.length ≤ 40 → Q (.str z) H'
def oddL : List Str := ["", "5", "9", "-1", "00", "+1", "a", "empty", "0,1", "10", "_1", "1."]
theorem odd_len : ∀ k ∈ oddL, k.length ≤ 5 := by unfold oddL; decide +kernel
def textsL : List Str := ["", " ", "empty", "empty ", " empty", "Empty", "0 empty", "empty 0", "emptyempty", "  "]
theorem texts_len : ∀ k ∈ textsL, k.length ≤ 20 := by unfold textsL; decide +kernel
def sp_LoddS : Sp := fun vs H Q _ => ∃ p : Addr, vs = [.ref p] ∧ PoolAt H p ∧ ∀ (H' : Hp) (z : Str), Kp p H H' → PoolAt H' p → z.length ≤ 5 → Q (.str z) H'
def sp_Lwritten (K : PySem.W.Frag) : Sp := fun vs H Q _ => ∃ (l : Addr) (ns : List Int), vs = [.ref l] ∧ SqL K H l (ns.map V.int) ∧ Lt5 ns ∧ ns.length ≤ 3000 ∧ ∀ H', Same H H' → Q (.str (rtx ns)) H'
def sp_Lreading (K : PySem.W.Frag) : Sp := fun vs H Q _ => ∃ y : Str, vs = [.str y] ∧ y.length ≤ 20000 ∧ (∀ i, badAt (rowOf y) i → (∀ j < i, ¬ badAt (rowOf y) j) → ∀ (H' : Hp) (q : Addr), Same H H' → H' q = some (.lst [.non, .int (i : Nat)]) → Q (.ref q) H') ∧
  (OkR (rowOf y) → ∀ (H' : Hp) (q tl : Addr), Same H H' → H' q = some (.lst [.ref tl, .non]) → H' tl = some (.lst ((rowOf y).map V.int)) → Q (.ref q) H')
def sp_Lare (K : PySem.W.Frag) : Sp := fun vs H Q _ => ∃ (a b : Addr) (ns : List Int), vs = [.ref a, .ref b] ∧ SqL K H a (ns.map V.int) ∧ SqL K H b (ns.map V.int) ∧ ns.length ≤ 100000 ∧ ∀ H', Same H H' → Q (.bl true) H'
def sp_Lreads : Sp := fun vs H Q _ => ∃ y : Str, vs = [.str y] ∧ y.length ≤ 20000 ∧ ∀ H', Same H H' → Q (.bl true) H'
def sp_law (K : PySem.W.Frag) : Sp := fun vs H Q _ => ∃ (a : Addr) (ns : List Int), vs = [.ref a] ∧ SqL K H a (ns.map V.int) ∧ ns.length ≤ 63 ∧ ∀ H', Q (.bl true) H'
theorem str_at {ks : List Str} {r : Int} (h0 : 0 ≤ r) (h1 : r < (ks.length : Int)) : ∃ k, k ∈ ks ∧ atI (ks.map V.str) r = some (V.str k) := by
  have hj : r.toNat < ks.length := by omega
  have e0 : (ks.map V.str)[r.toNat]? = some (V.str ks[r.toNat]) := by rw [List.getElem?_map, List.getElem?_eq_getElem hj] <;> rfl
  have e := atI_nat e0
  rw [Int.toNat_of_nonneg h0] at e
  exact ⟨_, List.getElem_mem hj, e⟩
theorem str_of {ks : List Str} {i : Nat} {x : V} (h : (ks.map V.str)[i]? = some x) : ∃ k, ks[i]? = some k ∧ x = .str k := by
  rw [List.getElem?_map] at h
  cases e : ks[i]? with
  | none => rw [e] at h; cases h
  | some k => rw [e] at h; cases h; exact ⟨k, rfl, rfl⟩
theorem inV_str {z : Str} : ∀ {ks : List Str}, inV (.str z) (ks.map V.str) = decide (z ∈ ks) := by
  intro ks
  rw [Bool.eq_iff_iff, decide_eq_true_iff]
  unfold inV
  rw [List.any_map, List.any_eq_true]
  constructor
  · rintro ⟨k, hk, e⟩
    have e' : k = z := eq_of_beq (show (k == z) = true from e)
    exact e' ▸ hk
  · intro h
    exact ⟨z, h, by show (z == z) = true; exact beq_self_eq_true _⟩
theorem flat_strs (l : List Str) : (l.map V.str).all flatV = true := by
  rw [List.all_map, List.all_eq_true]
  intro j _
  rfl
def digL : List Str := ["0", "1", "2", "3", "4"]
theorem digL_eq : digL = ([0, 1, 2, 3, 4] : List Int).map dg := by unfold digL dg; decide +kernel
theorem in_dig {z : Str} : z ∈ digL ↔ 0 ≤ letOf z := by
  rw [digL_eq, List.mem_map]
  constructor
  · rintro ⟨n, hn, rfl⟩
    rw [(dg_facts n hn).1]
    simp only [List.mem_cons, List.not_mem_nil, or_false] at hn
    omega
  · intro h
    obtain ⟨e, h4⟩ := letOf_ok h
    exact ⟨letOf z, five h h4, e.symm⟩
theorem int_dig {z : Str} (h : z ∈ digL) : PySem.intText? z = some (letOf z) ∧ z.length ≤ 640 := by
  obtain ⟨e, h4⟩ := letOf_ok (in_dig.mp h)
  have k := dg_facts _ (five (in_dig.mp h) h4)
  rw [← e] at k
  exact ⟨k.2.2.2.2, by omega⟩
theorem two_same {K : PySem.W.Frag} {H : Hp} {a b : Addr} {n : Nat} {u v : V} (ha : H a = some (.lst [u, .bl true])) (hb : H b = some (.lst [v, .bl true])) (e : u = v) (f : flatD u = true) : SameV K H (n + 1) (.ref a) (.ref b) := by
  subst e
  exact .inr (.inl ⟨a, b, _, _, rfl, rfl, SqL.of ha, SqL.of hb, (by show 2 ≤ sizeLine; decide), Pairs.refl fun x hx => by
    simp only [List.mem_cons, List.not_mem_nil, or_false] at hx
    rcases hx with rfl | rfl
    · exact SameV.flat f
    · exact SameV.flat rfl⟩)
def topS (i : Nat) : Stmt := PySem.Challenge.pw_onecable_k08_row_text_there_and_back.main.body.getD i (.Pass ⟨0, 0, 0, 0⟩)
abbrev s_uletter_of : Stmt := topS 6
theorem sc_uletter_of : FnScope ["part", "letter"] ["part"] (defScope s_uletter_of) := ⟨rfl, rfl, rfl, by decide +kernel, rfl, by decide +kernel, by decide +kernel⟩
abbrev s_Row_init : Stmt := inClass (topS 7) 1
theorem sc_Row_init : FnScope ["self", "letters", "place", "letter"] ["self", "letters"] (defScope s_Row_init) := ⟨rfl, rfl, rfl, by decide +kernel, rfl, by decide +kernel, by decide +kernel⟩
abbrev s_Row_parse : Stmt := inClass (topS 7) 2
theorem sc_Row_parse : FnScope ["cls", "text", "part"] ["cls", "text"] (defScope s_Row_parse) := ⟨rfl, rfl, rfl, by decide +kernel, rfl, by decide +kernel, by decide +kernel⟩
abbrev s_Row_str : Stmt := inClass (topS 7) 3
theorem sc_Row_str : FnScope ["self", "letter"] ["self"] (defScope s_Row_str) := ⟨rfl, rfl, rfl, by decide +kernel, rfl, by decide +kernel, by decide +kernel⟩
abbrev s_Row_len : Stmt := inClass (topS 7) 4
theorem sc_Row_len : FnScope ["self"] ["self"] (defScope s_Row_len) := ⟨rfl, rfl, rfl, by decide +kernel, rfl, by decide +kernel, by decide +kernel⟩
abbrev s_Row_iter : Stmt := inClass (topS 7) 5
theorem sc_Row_iter : FnScope ["self"] ["self"] (defScope s_Row_iter) := ⟨rfl, rfl, rfl, by decide +kernel, rfl, by decide +kernel, by decide +kernel⟩
abbrev s_Lcell : Stmt := topS 9
theorem sc_Lcell : FnScope ["_law_script", "_law_at"] ["_law_script", "_law_at"] (defScope s_Lcell) := ⟨rfl, rfl, rfl, by decide +kernel, rfl, by decide +kernel, by decide +kernel⟩
abbrev s_Lpool : Stmt := topS 10
theorem sc_Lpool : FnScope ["_law_cell_here"] ["_law_cell_here"] (defScope s_Lpool) := ⟨rfl, rfl, rfl, by decide +kernel, rfl, by decide +kernel, by decide +kernel⟩
abbrev s_Ltake : Stmt := topS 11
theorem sc_Ltake : FnScope ["_law_pool_here", "_law_many", "_law_digit", "_law_mixed"] ["_law_pool_here", "_law_many"] (defScope s_Ltake) := ⟨rfl, rfl, rfl, by decide +kernel, rfl, by decide +kernel, by decide +kernel⟩
abbrev s_Lsame : Stmt := topS 12
theorem sc_Lsame : FnScope ["_law_told", "_law_due", "_law_k"] ["_law_told", "_law_due"] (defScope s_Lsame) := ⟨rfl, rfl, rfl, by decide +kernel, rfl, by decide +kernel, by decide +kernel⟩
abbrev s_Lletters : Stmt := topS 13
theorem sc_Lletters : FnScope ["_law_pool_here", "_law_size", "_law_step", "_law_shift", "_law_k"] ["_law_pool_here", "_law_size"] (defScope s_Lletters) := ⟨rfl, rfl, rfl, by decide +kernel, rfl, by decide +kernel, by decide +kernel⟩
abbrev s_Lsigns : Stmt := topS 14
theorem sc_Lsigns : FnScope ["_law_signs_here"] [] (defScope s_Lsigns) := ⟨rfl, rfl, rfl, by decide +kernel, rfl, by decide +kernel, by decide +kernel⟩
abbrev s_Lbent : Stmt := topS 15
theorem sc_Lbent : FnScope ["_law_pool_here", "_law_text", "_law_signs_here", "_law_at", "_law_sign", "_law_way"] ["_law_pool_here", "_law_text", "_law_signs_here"] (defScope s_Lbent) := ⟨rfl, rfl, rfl, by decide +kernel, rfl, by decide +kernel, by decide +kernel⟩
abbrev s_Lany : Stmt := topS 16
theorem sc_Lany : FnScope ["_law_pool_here", "_law_signs_here", "_law_k"] ["_law_pool_here", "_law_signs_here"] (defScope s_Lany) := ⟨rfl, rfl, rfl, by decide +kernel, rfl, by decide +kernel, by decide +kernel⟩
abbrev s_Lodd : Stmt := topS 17
theorem sc_Lodd : FnScope ["_law_pool_here"] ["_law_pool_here"] (defScope s_Lodd) := ⟨rfl, rfl, rfl, by decide +kernel, rfl, by decide +kernel, by decide +kernel⟩
abbrev s_Lwritten : Stmt := topS 18
theorem sc_Lwritten : FnScope ["_law_letters_here", "_law_letter"] ["_law_letters_here"] (defScope s_Lwritten) := ⟨rfl, rfl, rfl, by decide +kernel, rfl, by decide +kernel, by decide +kernel⟩
abbrev s_Lreading : Stmt := topS 19
theorem sc_Lreading : FnScope ["_law_text", "_law_letters_here", "_law_word", "_law_sign"] ["_law_text"] (defScope s_Lreading) := ⟨rfl, rfl, rfl, by decide +kernel, rfl, by decide +kernel, by decide +kernel⟩
abbrev s_Lletters_are : Stmt := topS 20
theorem sc_Lletters_are : FnScope ["_law_told", "_law_letters_here", "_law_odd_here", "_law_letter"] ["_law_told", "_law_letters_here"] (defScope s_Lletters_are) := ⟨rfl, rfl, rfl, by decide +kernel, rfl, by decide +kernel, by decide +kernel⟩
abbrev s_Lreads : Stmt := topS 21
theorem sc_Lreads : FnScope ["_law_text", "_law_due", "_law_told", "_law_place", "e"] ["_law_text"] (defScope s_Lreads) := ⟨rfl, rfl, rfl, by decide +kernel, rfl, by decide +kernel, by decide +kernel⟩
abbrev s_law : Stmt := topS 22
theorem sc_law : FnScope ["_law_script", "_law_pool_here", "_law_other", "_law_way", "_law_size", "_law_letters_here", "_law_text", "_law_parts", "_law_short", "_law_at", "_law_k", "_law_texts"] ["_law_script"] (defScope s_law) := ⟨rfl, rfl, rfl, by decide +kernel, rfl, by decide +kernel, by decide +kernel⟩
structure Txt (P : Program) (w : World) (K : PySem.W.Frag) (mg : Str → Option Value) (C_BadRow C_CableError C_Row A_LETTERS : Addr) : Prop where
  g_BadRow : mg "BadRow" = some (.ref C_BadRow)
  err_BadRow : ∃ fI : Addr, PySem.ErrX.ErrTxt P K mg C_BadRow fI
  k_BadRow : PySem.W.keepIn K (.ref C_BadRow) = true
  b_BadRow : PySem.W.subIn K (.ref C_BadRow) (.type "BaseException") = some true
  t_BadRow : PySem.W.typeIn K (.ref C_BadRow) = some (.type "type")
  ic_BadRow : PySem.W.isClsIn K C_BadRow = true
  s_BadRow : PySem.W.subIn K (.ref C_BadRow) (.ref C_BadRow) = some true
  e_BadRow : ExcC K C_BadRow
  g_CableError : mg "CableError" = some (.ref C_CableError)
  g_Row : mg "Row" = some (.ref C_Row)
  cl_Row : Cls K C_Row
  con_Row_MOST : ∃ u : Value, Con K C_Row "MOST" (.int 2000) u
  nf_Row_letters : NoAttr K C_Row "letters"
  cr_Row : ClX.CRead K C_Row (.type "type")
  i_Row : C8.InsC K C_Row
  c_LETTERS : mg "LETTERS" = some (.ref A_LETTERS)
  q_LETTERS : ∀ H : Hp, SqT K H A_LETTERS [V.int 0, V.int 1, V.int 2, V.int 3, V.int 4]
  c__NO_LETTER : ∃ t : Tok, mg "_NO_LETTER" = some (.int (-1) t)
  n_str : mg "str" = none
  n_enumerate : mg "enumerate" = none
  n_tuple : mg "tuple" = none
  n_len : mg "len" = none
  n_iter : mg "iter" = none
  n_int : mg "int" = none
  n_abs : mg "abs" = none
  n_isinstance : mg "isinstance" = none
  n_bool : mg "bool" = none
  n_list : mg "list" = none
  n_range : mg "range" = none
  n_ValueError : mg "ValueError" = none
  kt_cable : PySem.W.kitOne K (.ref C_BadRow) (.ref C_CableError) = some true
  kt_value : PySem.W.kitOne K (.ref C_BadRow) (.type "ValueError") = some true

section
variable {P : Program} {w : World} {K : PySem.W.Frag} {mg : Str → Option Value} {base : Heap} {C_BadRow C_CableError C_Row A_LETTERS : Addr}
theorem ok_Row_len {f : Addr} {fd : FuncData} (F : Fun K "__len__" "Row.__len__" s_Row_len f fd) (T : Txt P w K mg C_BadRow C_CableError C_Row A_LETTERS)  :
    FnOk P w K mg base CX0 1 f fd ["self"] (sp_Row_len K C_Row) := by
  refine F.ok sc_Row_len (fun vs H Q E h => ?_) (fun cdv A outer s H vs Q E hr h => ?_)
  · obtain ⟨x, ns, rfl, _⟩ := h
    rfl
  · obtain ⟨x, ns, rfl, ⟨dx, tp, hx, ht⟩, q⟩ := h
    refine ⟨_, (pss_one (ps_ret (pe_callB call_len_seq (by rfl) T.n_len PySem.boot_len (pa_cons (pe_fld (pv 0) rfl) pa_nil)))), ?_⟩
    refine ⟨_, rfl, x, C_Row, dx, _, _, rfl, hx, T.cl_Row, T.nf_Row_letters, rwf_at _, tp, _, rfl, .inr ht, ?_⟩
    rw [List.length_map]
    exact q
theorem ok_Row_iter {f : Addr} {fd : FuncData} (F : Fun K "__iter__" "Row.__iter__" s_Row_iter f fd) (T : Txt P w K mg C_BadRow C_CableError C_Row A_LETTERS)  :
    FnOk P w K mg base CX0 1 f fd ["self"] (sp_Row_iter K C_Row) := by
  refine F.ok sc_Row_iter (fun vs H Q E h => ?_) (fun cdv A outer s H vs Q E hr h => ?_)
  · obtain ⟨x, tp, dx, ns, rfl, _⟩ := h
    rfl
  · obtain ⟨x, tp, dx, ns, rfl, hx, ht, q⟩ := h
    refine ⟨_, (pss_one (ps_ret (pe_callB call_iterT (by rfl) T.n_iter (by decide +kernel) (pa_cons (pe_fld (pv 0) rfl) pa_nil)))), ?_⟩
    exact ⟨_, rfl, x, C_Row, dx, _, _, rfl, hx, T.cl_Row, T.nf_Row_letters, rwf_at _, tp, _, rfl, ht, q⟩
theorem sqb_sameR {K : PySem.W.Frag} {b : Bool} {H H' : Hp} {a : Addr} {xs : List V} (h : SqB K b H a xs) (e : Same H H') : SqB K b H' a xs := by
  cases b
  · exact Same.seq e h
  · exact sqt_same h e
theorem in_letters (n : Int) : inV (.int n) [V.int 0, V.int 1, V.int 2, V.int 3, V.int 4] = decide (0 ≤ n ∧ n ≤ 4) := by
  have e : inV (.int n) [V.int 0, V.int 1, V.int 2, V.int 3, V.int 4] = ((0 : Int) == n || ((1 : Int) == n || ((2 : Int) == n || ((3 : Int) == n || ((4 : Int) == n || false))))) := rfl
  rw [e, Bool.eq_iff_iff, decide_eq_true_iff]
  simp only [Bool.or_eq_true, beq_iff_eq, Bool.false_eq_true, or_false]
  omega
theorem ok_Row_init {f : Addr} {fd : FuncData} (F : Fun K "__init__" "Row.__init__" s_Row_init f fd) (T : Txt P w K mg C_BadRow C_CableError C_Row A_LETTERS)  :
    FnOk P w K mg base (L2.CX P w) 1 f fd ["self", "letters"] (sp_Row_init K C_Row C_BadRow) := by
  refine F.okX sc_Row_init (fun vs H Q E h => ?_) (fun cdv A outer s H vs Q E hr h => ?_)
  · obtain ⟨x, dx, a, b, ns, rfl, _⟩ := h
    rfl
  · obtain ⟨x, dx, a, bb, ns, rfl, hx, ha, hz, q⟩ := h
    refine ⟨_, (pss_cons (ps_for (passes_of rfl) rfl (pi_enumS (by rfl) T.n_enumerate (pa_cons (pv 1) pa_nil)) (pg_tup rfl (pgs_cons (pg_name (i := 2) sc_Row_init.nd rfl (Or.inl rfl)) (pgs_cons (pg_name (i := 3) sc_Row_init.nd rfl (Or.inl rfl)) pgs_nil)))
        (pss_one (ps_if (PW.pt (pw_or (pt_cmpR op_eq (pv 2) (pe_con (pv 0) rfl) (nomark _)) (pw_or1 (pt_cmpR op_notIn_seq (pv 3) (pe_glob (v := .ref A_LETTERS) rfl T.c_LETTERS rfl) (by rfl))))) (pss_one (ps_raise rfl (takes_of rfl rfl rfl rfl) (pmk_errE T.err_BadRow T.g_BadRow hr (pa_cons (pv 2) pa_nil)))) pss_nil)))
      (pss_one (ps_fld (pv 0) (pe_callTy call_tuple_of (by rfl) T.n_tuple (by decide +kernel) (pa_cons (pv 1) pa_nil)) rfl))), ?_⟩
    obtain ⟨u, hu⟩ := T.con_Row_MOST
    refine ⟨_, rfl, a, _, bb, rfl, ha, for_enumB (K := K) (bb := bb) (a := a) (xs := ns.map V.int) (fun i σ H' => ∃ v2 v3 : Option V, σ = [some (.ref x), some (.ref a), v2, v3] ∧ Same H H' ∧ ∀ j < i, ¬ badAt ns j)
      ⟨none, none, rfl, Same.of _, fun j hj => by omega⟩ (fun i σ H' _ ⟨_, _, _, s1, _⟩ => sqb_sameR ha s1) ?_ ?_⟩
    · rintro i y σ H' T' hy ⟨v2, v3, rfl, s1, hb⟩ hT
      obtain ⟨n, hn, rfl⟩ : ∃ n, ns[i]? = some n ∧ y = .int n := by
        rw [List.getElem?_map] at hy
        cases e : ns[i]? with
        | none =>
          rw [e] at hy
          cases hy
        | some n =>
          rw [e] at hy
          cases hy
          exact ⟨n, rfl, rfl⟩
      have hi : i < ns.length := (List.getElem?_eq_some_iff.mp hn).1
      have s2 := s1.trans (same_upd (o := .tup [.int (i : Nat), .int n]) hT)
      have hx2 := s2 _ _ hx
      have hlog : ((i : Nat) : Int).natAbs.log2 < 1920 := Nat.lt_of_lt_of_le (PySem.Flt.log2_lt_of (k := 200) (by decide) (by rw [Int.natAbs_natCast]; exact Nat.lt_of_lt_of_le (show i < 100001 by omega) (by decide))) (by decide)
      have bad : badAt ns i → ∀ (H3 : Hp), Same H H3 → ∀ d : Addr, H3 d = none → E (.ref C_BadRow) (some d) (upd H3 d (.xd [(("place" : Str), .int (i : Nat))])) := fun hbad H3 s3 d hd => by
        rcases q with ⟨k, hk, hk2, q⟩ | ⟨hok, _⟩
        · have e : k = i := by
            rcases Nat.lt_trichotomy k i with h | h | h
            · exact absurd hk (hb k h)
            · exact h
            · exact absurd hbad (hk2 i h)
          subst e
          exact q H3 d s3 hd
        · exact absurd hbad (hok i)
      refine ⟨T', _, rfl, SqT.of upd_same, rfl, _, _, rfl, _, _, rfl, rfl, ?_⟩
      refine ⟨_, rfl, _, rfl, x, C_Row, dx, [], _, u, rfl, hx2, T.cl_Row, hu, rfl, rfl, _, rfl, ?_⟩
      refine ite2 (fun hc => ?_) (fun hc => ?_)
      · have hc' := V.int.inj (of_decide_eq_true hc)
        refine iteT ⟨_, rfl, _, rfl, hlog, fun d hd => bad ⟨n, hn, .inl (by omega)⟩ _ s2 d hd⟩
      · have hc' : ¬ V.int (i : Nat) = V.int 2000 := fun z => hc (decide_eq_true z)
        have hi2 : ¬ i = 2000 := fun z => hc' (by rw [z]; rfl)
        refine ⟨_, rfl, A_LETTERS, _, rfl, .inr (T.q_LETTERS _), rfl, rfl, _, rfl, ?_⟩
        rw [in_letters]
        refine ite2 (fun hc => ?_) (fun hc => ?_)
        · refine ⟨_, rfl, _, rfl, hlog, fun d hd => bad ⟨n, hn, .inr ?_⟩ _ s2 d hd⟩
          by_cases h : 0 ≤ n ∧ n ≤ 4
          · rw [decide_eq_true h] at hc
            exact absurd hc (by decide)
          · omega
        · have hin : 0 ≤ n ∧ n ≤ 4 := by
            by_cases h : 0 ≤ n ∧ n ≤ 4
            · exact h
            · rw [decide_eq_false h] at hc
              exact absurd rfl hc
          refine ⟨_, _, rfl, s2, fun j hj => ?_⟩
          by_cases e : j = i
          · subst e
            rintro ⟨n', hn', h⟩
            rw [hn] at hn'
            cases hn'
            omega
          · exact hb j (by omega)
    · rintro σ H' ⟨v2, v3, rfl, s1, hb⟩
      rw [List.length_map] at hb
      have hok : ∀ j, ¬ badAt ns j := fun j hj => by
        by_cases h : j < ns.length
        · exact hb j h hj
        · obtain ⟨n, hn, _⟩ := hj
          have := (List.getElem?_eq_some_iff.mp hn).1
          omega
      have q' : ∀ H', Kp x H H' → RowAt K C_Row H' x ns → Q .non H' := by
        rcases q with ⟨i, hi, _⟩ | ⟨_, q⟩
        · exact absurd hi (hok i)
        · exact q
      have hx1 := s1 _ _ hx
      cases bb with
      | false =>
        have ha1 : SqL K H' a (ns.map V.int) := Same.seq s1 ha
        refine ⟨_, rfl, a, _, rfl, .inl ⟨ha1, fun z hz' => ?_⟩⟩
        have sz := same_upd (o := .tup (ns.map V.int)) hz'
        have nzx : z ≠ x := fun w => by rw [w, hx1] at hz'; cases hz'
        refine ⟨_, rfl, x, C_Row, dx, [], rfl, sz _ _ hx1, T.cl_Row, T.nf_Row_letters, (by show 0 < 1000; decide), ?_⟩
        refine q' _ (fun b o nb e => ?_) ⟨dx, z, upd_same, SqT.of (by rw [upd_ne nzx, upd_same])⟩
        rw [upd_ne nb]
        exact sz _ _ (s1 _ _ e)
      | true =>
        have ha1 : SqT K H' a (ns.map V.int) := sqt_same ha s1
        refine ⟨_, rfl, a, _, rfl, .inr ⟨ha1, ?_⟩⟩
        refine ⟨_, rfl, x, C_Row, dx, [], rfl, hx1, T.cl_Row, T.nf_Row_letters, (by show 0 < 1000; decide), ?_⟩
        refine q' _ (fun b o nb e => ?_) ⟨dx, a, upd_same, ?_⟩
        · rw [upd_ne nb]
          exact s1 _ _ e
        · rcases ha1 with (h | ⟨o, h⟩) | h
          · exact .inl (.inl (by rw [upd_ne (fun w => by rw [w, hx1] at h; cases h)]; exact h))
          · exact .inl (.inr ⟨o, by rw [upd_ne (fun w => by rw [w, hx1] at h; cases h)]; exact h⟩)
          · exact .inr h
theorem ok_uletter_of {f : Addr} {fd : FuncData} (F : Fun K "_letter_of" "_letter_of" s_uletter_of f fd) (T : Txt P w K mg C_BadRow C_CableError C_Row A_LETTERS)  :
    FnOk P w K mg base CX0 1 f fd ["part"] sp_letter_of := by
  refine F.ok sc_uletter_of (fun vs H Q E h => ?_) (fun cdv A outer s H vs Q E hr h => ?_)
  · obtain ⟨z, rfl, _⟩ := h
    rfl
  · obtain ⟨z, rfl, q⟩ := h
    refine ⟨_, (pss_cons (ps_for PassesOwn.never rfl (pi_tup (pe_glob (v := .ref A_LETTERS) rfl T.c_LETTERS rfl)) (pg_name (i := 1) sc_uletter_of.nd rfl (Or.inl rfl))
        (pss_one (ps_if (pt_cmpR op_eq (pv 0) (pe_callTy call_str_int (by rfl) T.n_str (by decide +kernel) (pa_cons (pv 1) pa_nil)) (nomark _)) (pss_one (ps_ret (pv 1))) pss_nil)))
      (pss_one (ps_ret (pe_globI rfl T.c__NO_LETTER)))), ?_⟩
    refine ⟨A_LETTERS, rfl, ⟨_, T.q_LETTERS _⟩, for_tup (K := K) (a := A_LETTERS) (xs := ([0, 1, 2, 3, 4] : List Int).map V.int) (fun i σ H' => H' = H ∧ (∃ v : Option V, σ = [some (.str z), v]) ∧ ∀ n ∈ ([0, 1, 2, 3, 4] : List Int).take i, z ≠ dg n) ⟨rfl, ⟨none, rfl⟩, fun n hn => by cases hn⟩ (fun i σ H' _ _ => T.q_LETTERS _) ?_ ?_⟩
    · rintro i x σ H' hx ⟨rfl, ⟨v, rfl⟩, hno⟩
      obtain ⟨n, hn, rfl⟩ := int_at hx
      have hm := List.mem_of_getElem? hn
      have df := dg_facts n hm
      refine ⟨_, rfl, _, rfl, n, rfl, df.2.2.2.1, rfl, _, rfl, iteB (fun hc => ?_) (fun hc => ?_)⟩
      · have e : z = dg n := by
          have := of_decide_eq_true hc
          injection this
        have e2 := df.1
        rw [← e] at e2
        rw [e2] at q
        exact ⟨_, rfl, q⟩
      · have e : ¬ z = dg n := fun w => of_decide_eq_false hc (by rw [w]; rfl)
        refine ⟨rfl, ⟨_, rfl⟩, fun m hm => ?_⟩
        rw [← take_snoc hn, List.mem_append, List.mem_singleton] at hm
        rcases hm with hm | rfl
        · exact hno m hm
        · exact e
    · rintro σ H' ⟨rfl, ⟨v, rfl⟩, hno⟩
      rw [letOf_miss hno] at q
      exact q
theorem ok_Row_parse {f : Addr} {fd : FuncData} (F : Fun K "parse" "Row.parse" s_Row_parse f fd) (T : Txt P w K mg C_BadRow C_CableError C_Row A_LETTERS) (c_Row : Mak (L2.CX P w) P w K mg base 1 "Row" C_Row (sp_Row_init K C_Row C_BadRow)) (c_uletter_of : Cal CX0 P w K mg base 1 "_letter_of" sp_letter_of) :
    FnOk P w K mg base (L2.CX P w) 3 f fd ["cls", "text"] (sp_Row_parse K C_Row C_BadRow) := by
  refine F.okX sc_Row_parse (fun vs H Q E h => ?_) (fun cdv A outer s H vs Q E hr h => ?_)
  · obtain ⟨y, rfl, _⟩ := h
    rfl
  · obtain ⟨y, rfl, hl, q⟩ := h
    refine ⟨_, (pss_cons (ps_if (pt_cmpR op_eq (pv 1) pe_str (nomark _)) (pss_one (ps_ret (pc_mkL (i := 0) c_Row hr (by decide) rfl (Or.inl rfl) (passes_call (takes_of rfl rfl rfl rfl) fun _ _ _ _ h => h) (pa_cons (pe_lst pa_nil) pa_nil)))) pss_nil)
      (pss_one (ps_ret (pc_mkL (i := 0) c_Row hr (by decide) rfl (Or.inl rfl) (passes_call (takes_of rfl rfl rfl rfl) fun _ _ _ _ h => h) (pa_cons (pe_lc (own := [("part", 2)]) (g := (gName 2)) (tt := tYes) rfl sc_Row_parse.nd (pi_list (pe_bm PySem.F.plainAttrs_str PySem.F.slot_str_split PySem.F.type_str_split mt_split (pv 1) (pa_cons pe_str pa_nil))) (blkOk_by (own := [("part", 2)]) (N := ["cls", "text", "part"]) (sc := defScope s_Row_parse) (by decide +kernel)) (fun _ _ _ _ _ => (pg_name (i := 2) sc_Row_parse.nd rfl (Or.inl rfl))) (fun _ _ _ _ _ => pts_nil) (fun _ _ _ _ _ => (pc_c c_uletter_of hr (by decide) rfl pass0 (pa_cons (pv 2) pa_nil)))) pa_nil))))), ?_⟩
    have mk : ∀ (H1 : Hp) (D : Addr), Same H H1 → H1 D = some (.lst ((rowOf y).map V.int)) → (rowOf y).length ≤ 100000 → ∀ x dx, H1 x = none → H1 dx = none → dx ≠ x → sp_Row_init K C_Row C_BadRow (.ref x :: ([.ref D] ++ [])) (upd (upd H1 dx (.own x)) x (.ins C_Row dx [])) (fun v H2 => v = .non ∧ Q (.ref x) H2) E := fun H1 D s1 hD hz x dx nx ndx ne => by
      have s0 : Same H1 (upd (upd H1 dx (.own x)) x (.ins C_Row dx [])) := mk_same nx ndx Kp.refl
      refine ⟨x, dx, D, false, rowOf y, rfl, upd_same, SqL.of (s0 _ _ hD), hz, ?_⟩
      rcases q with ⟨i, hi, hj, q⟩ | ⟨hok, q⟩
      · exact .inl ⟨i, hi, hj, fun H' d s hd => q H' d ((s1.trans s0).trans s) hd⟩
      · exact .inr ⟨hok, fun H' k1 hr => ⟨rfl, q _ x (s1.trans (mk_same nx ndx k1)) hr⟩⟩
    refine ⟨_, rfl, rfl, _, rfl, ite2 (fun hc => ?_) (fun hc => ?_)⟩
    · have e : y = "empty" := by
        have := of_decide_eq_true hc
        injection this
      have e2 : rowOf y = [] := by
        unfold rowOf
        rw [if_pos e]
      exact ⟨rfl, Nat.zero_le _, fun D hD => mk _ D (same_upd hD) (by rw [e2]; exact upd_same) (by rw [e2]; decide)⟩
    · have e : y ≠ "empty" := fun z => hc (by rw [z]; exact decide_eq_true rfl)
      have e2 : rowOf y = (Txt.split y " ").map letOf := by
        unfold rowOf
        rw [if_neg e]
      have hsl := split_le2 y
      refine ⟨rfl, _, rfl, rfl, y, _, rfl, rfl, rfl, (by rw [sizeLine_eq]; omega), fun p hp => ?_⟩
      have sp := same_upd (o := .lst ((Txt.split y " ").map V.str)) hp
      have hpp : (upd H p (.lst ((Txt.split y " ").map V.str))) p = some (.lst ((Txt.split y " ").map V.str)) := upd_same
      generalize upd H p (.lst ((Txt.split y " ").map V.str)) = H1 at sp hpp ⊢
      refine ⟨p, rfl, ⟨_, SqL.of hpp⟩, fun D hD => lc_list (K := K) (a := p) (xs := (Txt.split y " ").map V.str) (fun i H' => Same H1 H' ∧ H' D = some (.lst ((((Txt.split y " ").take i).map letOf).map V.int)))
        ⟨same_upd hD, upd_same⟩ (fun i H' _ ⟨s1, _⟩ => SqL.of (s1 _ _ hpp)) ?_ ?_⟩
      · rintro i x H' hx ⟨s1, hD1⟩
        obtain ⟨z, hz, rfl⟩ := str_of hx
        refine ⟨rfl, tyes ⟨_, rfl, z, rfl, _, hD1, big_small (by rw [List.length_map, List.length_map, List.length_take]; omega), same_app s1 hD, ?_⟩⟩
        rw [upd_same, ← take_snoc hz, List.map_append, List.map_append]
        rfl
      · rintro H' ⟨s1, hD1⟩
        rw [List.length_map, List.take_length, ← e2] at hD1
        exact mk _ D (sp.trans s1) hD1 (by rw [e2, List.length_map]; omega)
theorem ok_Row_str {f : Addr} {fd : FuncData} (F : Fun K "__str__" "Row.__str__" s_Row_str f fd) (T : Txt P w K mg C_BadRow C_CableError C_Row A_LETTERS)  :
    FnOk P w K mg base CX0 1 f fd ["self"] (sp_Row_str K C_Row) := by
  refine F.ok sc_Row_str (fun vs H Q E h => ?_) (fun cdv A outer s H vs Q E hr h => ?_)
  · obtain ⟨r, ns, rfl, _⟩ := h
    rfl
  · obtain ⟨r, ns, rfl, ⟨dx, tp, hr0, htp⟩, ok, q⟩ := h
    refine ⟨_, (pss_cons (ps_if (pt_cmpR op_eq (pe_callB call_len_seq (by rfl) T.n_len PySem.boot_len (pa_cons (pe_fld (pv 0) rfl) pa_nil)) pe_int (nomark _)) (pss_one (ps_ret pe_str)) pss_nil)
      (pss_one (ps_ret (pe_bm PySem.F.plainAttrs_str PySem.F.slot_str_join PySem.F.type_str_join mt_join pe_str (pa_cons (pe_lc (own := [("letter", 1)]) (g := (gName 1)) (tt := tYes) rfl sc_Row_str.nd (pi_tup (pe_fld (pv 0) rfl)) (blkOk_by (own := [("letter", 1)]) (N := ["self", "letter"]) (sc := defScope s_Row_str) (by decide +kernel)) (fun _ _ _ _ _ => (pg_name (i := 1) sc_Row_str.nd rfl (Or.inl rfl))) (fun _ _ _ _ _ => pts_nil) (fun _ _ _ _ _ => (pe_callTy call_str_int (by rfl) T.n_str (by decide +kernel) (pa_cons (pv 1) pa_nil)))) pa_nil))))), ?_⟩
    obtain ⟨l5, l2⟩ := okR_lt ok
    refine ⟨_, rfl, r, C_Row, dx, _, _, rfl, hr0, T.cl_Row, T.nf_Row_letters, rwf_at _, tp, _, rfl, .inr htp, rfl, _, rfl, ite2 (fun hc => ?_) (fun hc => ?_)⟩
    · have e : ns.length = 0 := by
        have z := of_decide_eq_true hc
        have := V.int.inj z
        rw [List.length_map] at this
        omega
      have q' := q H (Same.of _)
      unfold rtx at q'
      rw [if_pos e] at q'
      exact q'
    · have e : ¬ ns.length = 0 := fun z => hc (by rw [List.length_map, z]; rfl)
      refine ⟨rfl, _, rfl, r, C_Row, dx, _, _, rfl, hr0, T.cl_Row, T.nf_Row_letters, rwf_at _, tp, rfl, ⟨_, htp⟩, fun D hD => lc_tup (K := K) (a := tp) (xs := ns.map V.int) (fun i H' => Same H H' ∧ H' D = some (.lst (((ns.take i).map dg).map V.str)))
        ⟨same_upd hD, upd_same⟩ (fun i H' _ ⟨s1, _⟩ => sqt_same htp s1) ?_ ?_⟩
      · rintro i x H' hx ⟨s1, hD1⟩
        obtain ⟨n, hn, rfl⟩ := int_at hx
        have h5 := l5 n (List.mem_of_getElem? hn)
        have df := dg_facts n (five h5.1 h5.2)
        refine ⟨rfl, tyes ⟨_, rfl, n, rfl, df.2.2.2.1, _, hD1, big_small (by rw [List.length_map, List.length_map, List.length_take]; omega), same_app s1 hD, ?_⟩⟩
        rw [upd_same, ← take_snoc hn, List.map_append, List.map_append]
        rfl
      · rintro H' ⟨s1, hD1⟩
        rw [List.length_map, List.take_length] at hD1
        refine ⟨_, D, ns.map dg, rfl, rfl, .inl (SqL.of hD1), (by have := (rtx_len l5 (by omega)).2; omega), ?_⟩
        have q' := q H' s1
        unfold rtx at q'
        rw [if_neg e] at q'
        exact q'
theorem ok_Lcell {f : Addr} {fd : FuncData} (F : Fun K "_law_cell" "_law_cell" s_Lcell f fd) (T : Txt P w K mg C_BadRow C_CableError C_Row A_LETTERS)  :
    FnOk P w K mg base CX0 1 f fd ["_law_script", "_law_at"] (sp_Lcell K) := by
  refine F.ok sc_Lcell (fun vs H Q E h => ?_) (fun cdv A outer s H vs Q E hr h => ?_)
  · obtain ⟨l, ns, j, rfl, _⟩ := h
    rfl
  · obtain ⟨l, ns, j, rfl, hs, q⟩ := h
    refine ⟨_, (pss_cons (ps_if (pt_cmpR op_lt (pv 1) (pe_callB call_len_seq (by rfl) T.n_len PySem.boot_len (pa_cons (pv 0) pa_nil)) (nomark _)) (pss_one (ps_ret (pe_callB call_abs (by rfl) T.n_abs (by decide +kernel) (pa_cons (pe_callTy call_int1 (by rfl) T.n_int (by decide +kernel) (pa_cons (pe_ix ix_list (pv 0) (pv 1) (fun _ _ => rfl)) pa_nil)) pa_nil)))) pss_nil)
      (pss_one (ps_ret pe_int))), ?_⟩
    refine ⟨_, rfl, _, rfl, l, _, rfl, .inl hs, _, _, rfl, rfl, _, rfl, ?_⟩
    refine ite2 (fun hlt => ?_) (fun _ => q 0 (by decide))
    have hj : j < ns.length := by
      have z := of_decide_eq_true hlt
      rw [List.length_map] at z
      omega
    have hat : (ns.map V.int)[j]? = some (V.int ns[j]) := by rw [List.getElem?_map, List.getElem?_eq_getElem hj] <;> rfl
    refine ⟨_, rfl, _, rfl, l, _, _, _, rfl, rfl, hs, atI_nat hat, .inl ⟨_, rfl, _, rfl, q _ ?_⟩⟩
    split <;> omega
theorem ok_Lpool {f : Addr} {fd : FuncData} (F : Fun K "_law_pool" "_law_pool" s_Lpool f fd) (T : Txt P w K mg C_BadRow C_CableError C_Row A_LETTERS)  :
    FnOk P w K mg base CX0 1 f fd ["_law_cell_here"] sp_Lpool := by
  refine F.ok sc_Lpool (fun vs H Q E h => ?_) (fun cdv A outer s H vs Q E hr h => ?_)
  · obtain ⟨c, rfl, _⟩ := h
    rfl
  · obtain ⟨c, rfl, q⟩ := h
    refine ⟨_, (pss_cons (ps_if (pt_cmpR op_ge (pv 0) (pe_op op_pow pe_int pe_int) (nomark _)) (pss_one (ps_ret (pe_lst (pa_cons (pv 0) (pa_cons (pv 0) (pa_cons pe_int pa_nil)))))) pss_nil)
      (pss_one (ps_ret (pe_lst (pa_cons pe_int (pa_cons (pv 0) (pa_cons pe_int pa_nil))))))), ?_⟩
    refine ⟨_, rfl, _, _, rfl, rfl, ⟨by decide, by decide, by decide⟩, _, _, rfl, rfl, _, rfl, ?_⟩
    refine ite2 (fun _ => ?_) (fun _ => ?_)
    · exact ⟨_, rfl, _, rfl, (by show 3 ≤ sizeLine; decide), fun p hp => q p _ hp (same_upd hp) ⟨_, _, _, upd_same⟩⟩
    · exact ⟨_, rfl, (by show 3 ≤ sizeLine; decide), fun p hp => q p _ hp (same_upd hp) ⟨_, _, _, upd_same⟩⟩
theorem ok_Ltake {f : Addr} {fd : FuncData} (F : Fun K "_law_take" "_law_take" s_Ltake f fd) (T : Txt P w K mg C_BadRow C_CableError C_Row A_LETTERS)  :
    FnOk P w K mg base CX0 1 f fd ["_law_pool_here", "_law_many"] sp_Ltake := by
  refine F.ok sc_Ltake (fun vs H Q E h => ?_) (fun cdv A outer s H vs Q E hr h => ?_)
  · obtain ⟨p, many, rfl, _⟩ := h
    rfl
  · obtain ⟨p, many, rfl, ⟨x, y, z, hp⟩, hm, hb, q⟩ := h
    refine ⟨_, (pss_cons (ps_asg (pe_op op_add (pe_ix ix_list (pv 0) pe_int (fun _ _ => rfl)) pe_int) (pg_sub (pv 0) pe_int set_list))
      (pss_cons (ps_if (pt_cmpR op_gt (pe_ix ix_list (pv 0) pe_int (fun _ _ => rfl)) pe_int (nomark _)) (pss_cons (ps_set (i := 2) sc_Ltake.nd rfl (Or.inl rfl) (pe_op op_mod (pe_callTy call_int1 (by rfl) T.n_int (by decide +kernel) (pa_cons (pe_ix ix_list (pv 0) pe_int (fun _ _ => rfl)) pa_nil)) (pv 1)))
      (pss_cons (ps_asg (pe_op op_fdivW (pe_ix ix_list (pv 0) pe_int (fun _ _ => rfl)) (pv 1)) (pg_sub (pv 0) pe_int set_list))
      (pss_one (ps_ret (pv 2))))) pss_nil)
      (pss_cons (ps_set (i := 3) sc_Ltake.nd rfl (Or.inl rfl) (pe_op op_mod (pe_callTy call_int1 (by rfl) T.n_int (by decide +kernel) (pa_cons (pe_op op_mulA (pe_op op_add (pe_ix ix_list (pv 0) pe_int (fun _ _ => rfl)) (pe_op op_mulA pe_int (pe_ix ix_list (pv 0) pe_int (fun _ _ => rfl)))) pe_int) pa_nil)) pe_int))
      (pss_cons (ps_set (i := 3) sc_Ltake.nd rfl (Or.inl rfl) (pe_op op_mod (pe_callTy call_int1 (by rfl) T.n_int (by decide +kernel) (pa_cons (pe_op op_add (pe_op op_mulA (pv 3) pe_int) (pe_op op_mulA pe_int (pe_ix ix_list (pv 0) pe_int (fun _ _ => rfl)))) pa_nil)) pe_int))
      (pss_one (ps_ret (pe_op op_mod (pe_callTy call_int1 (by rfl) T.n_int (by decide +kernel) (pa_cons (pe_op op_fdivW (pv 3) pe_int) pa_nil)) (pv 1)))))))), ?_⟩
    refine ⟨_, rfl, p, _, _, _, rfl, rfl, SqL.of hp, at2, _, _, rfl, rfl, _, rfl, p, _, _, _, rfl, rfl, hp, rfl, ?_⟩
    refine ⟨_, rfl, p, _, _, _, rfl, rfl, SqL.of upd_same, at0, _, _, rfl, rfl, _, rfl, ?_⟩
    refine ite2 (fun _ => ?_) (fun _ => ?_)
    · refine ⟨_, rfl, p, _, _, _, rfl, rfl, SqL.of upd_same, at0, .inl ⟨_, rfl, _, rfl, _, _, rfl, rfl, hm, ?_⟩⟩
      refine ⟨_, rfl, p, _, _, _, rfl, rfl, SqL.of upd_same, at0, _, rfl, _, _, rfl, rfl, wide_div hm hb (by decide) (by decide), _, rfl, p, _, _, _, rfl, rfl, upd_same, rfl, ?_⟩
      exact ⟨_, rfl, q _ _ (Kp.trans Kp.upd Kp.upd) ⟨_, _, _, upd_same⟩ (Int.emod_nonneg _ (by omega)) (Int.emod_lt_of_pos _ hm)⟩
    · refine ⟨_, rfl, p, _, _, _, rfl, rfl, SqL.of upd_same, at1, _, rfl, p, _, _, _, rfl, rfl, SqL.of upd_same, at2, _, _, rfl, rfl, .inl (.inl ⟨by decide, by decide⟩), _, _, rfl, rfl, _, _, rfl, rfl, .inl (.inr ⟨by decide, by decide⟩), .inl ⟨_, rfl, _, _, rfl, rfl, (by show (0 : Int) < 2147483647; decide), ?_⟩⟩
      refine ⟨_, rfl, _, _, rfl, rfl, .inl (.inr ⟨by decide, by decide⟩), _, rfl, p, _, _, _, rfl, rfl, SqL.of upd_same, at2, _, _, rfl, rfl, .inl (.inl ⟨by decide, by decide⟩), _, _, rfl, rfl, .inl ⟨_, rfl, _, _, rfl, rfl, (by show (0 : Int) < 2147483399; decide), ?_⟩⟩
      refine ⟨_, rfl, _, _, rfl, rfl, wide_div (b := 300) (by decide) (by decide) (by decide) (by decide), .inl ⟨_, rfl, _, rfl, _, _, rfl, rfl, hm, ?_⟩⟩
      exact q _ _ Kp.upd ⟨_, _, _, upd_same⟩ (Int.emod_nonneg _ (by omega)) (Int.emod_lt_of_pos _ hm)
theorem okr_Lsame {f : Addr} {fd : FuncData} {j n : Nat} (F : Fun K "_law_same" "_law_same" s_Lsame f fd) (T : Txt P w K mg C_BadRow C_CableError C_Row A_LETTERS) (c_Lsame : Cal CX0 P w K mg base j "_law_same" (sp_Lsame K n)) :
    FnOk P w K mg base CX0 (j + 1) f fd ["_law_told", "_law_due"] (sp_Lsame K (n + 1)) := by
  refine F.ok sc_Lsame (fun vs H Q E h => ?_) (fun cdv A outer s H vs Q E hr h => ?_)
  · obtain ⟨x, y, rfl, _⟩ := h
    rfl
  · obtain ⟨x, y, rfl, hv, q⟩ := h
    refine ⟨_, (pss_cons (ps_if (pt_cmpR op_isN (pv 1) pe_non (nomark _)) (pss_one (ps_ret (pe_cmpR op_isN (pv 0) pe_non (nomark _)))) pss_nil)
      (pss_cons (ps_if (pt_cmpR op_isB (pv 1) pe_bl (nomark _)) (pss_one (ps_ret (pe_cmpR op_isB (pv 0) pe_bl (nomark _)))) pss_nil)
      (pss_cons (ps_if (pt_cmpR op_isB (pv 1) pe_bl (nomark _)) (pss_one (ps_ret (pe_cmpR op_isB (pv 0) pe_bl (nomark _)))) pss_nil)
      (pss_cons (ps_if (pt_val (pe_callB call_isi (by rfl) T.n_isinstance (by decide +kernel) (pa_cons (pv 1) (pa_cons (pe_bltn (v := .ty "int") (by rfl) T.n_int (by decide +kernel) rfl) pa_nil)))) (pss_one (ps_ret (pe_and (pe_callB call_isi (by rfl) T.n_isinstance (by decide +kernel) (pa_cons (pv 0) (pa_cons (pe_bltn (v := .ty "int") (by rfl) T.n_int (by decide +kernel) rfl) pa_nil))) (pe_and (pe_not (pe_callB call_isi (by rfl) T.n_isinstance (by decide +kernel) (pa_cons (pv 0) (pa_cons (pe_bltn (v := .ty "bool") (by rfl) T.n_bool (by decide +kernel) rfl) pa_nil)))) (pe_one (pe_cmpR op_eq (pv 0) (pv 1) (nomark _))))))) pss_nil)
      (pss_cons (ps_if (pt_val (pe_callB call_isi (by rfl) T.n_isinstance (by decide +kernel) (pa_cons (pv 1) (pa_cons (pe_bltn (v := .ty "str") (by rfl) T.n_str (by decide +kernel) rfl) pa_nil)))) (pss_one (ps_ret (pe_and (pe_callB call_isi (by rfl) T.n_isinstance (by decide +kernel) (pa_cons (pv 0) (pa_cons (pe_bltn (v := .ty "str") (by rfl) T.n_str (by decide +kernel) rfl) pa_nil))) (pe_one (pe_cmpR op_eq (pv 0) (pv 1) (nomark _)))))) pss_nil)
      (pss_cons (ps_if (PW.pt (pw_and (pt_val (pe_callB call_isi (by rfl) T.n_isinstance (by decide +kernel) (pa_cons (pv 1) (pa_cons (pe_bltn (v := .ty "tuple") (by rfl) T.n_tuple (by decide +kernel) rfl) pa_nil)))) (pw_and1 (pt_not (pt_val (pe_callB call_isi (by rfl) T.n_isinstance (by decide +kernel) (pa_cons (pv 0) (pa_cons (pe_bltn (v := .ty "tuple") (by rfl) T.n_tuple (by decide +kernel) rfl) pa_nil)))))))) (pss_one (ps_ret pe_bl)) pss_nil)
      (pss_cons (ps_if (PW.pt (pw_and (pt_val (pe_callB call_isi (by rfl) T.n_isinstance (by decide +kernel) (pa_cons (pv 1) (pa_cons (pe_bltn (v := .ty "list") (by rfl) T.n_list (by decide +kernel) rfl) pa_nil)))) (pw_and1 (pt_not (pt_val (pe_callB call_isi (by rfl) T.n_isinstance (by decide +kernel) (pa_cons (pv 0) (pa_cons (pe_bltn (v := .ty "list") (by rfl) T.n_list (by decide +kernel) rfl) pa_nil)))))))) (pss_one (ps_ret pe_bl)) pss_nil)
      (pss_cons (ps_if (pt_cmpR op_ne (pe_callB call_len_seq (by rfl) T.n_len PySem.boot_len (pa_cons (pv 0) pa_nil)) (pe_callB call_len_seq (by rfl) T.n_len PySem.boot_len (pa_cons (pv 1) pa_nil)) (nomark _)) (pss_one (ps_ret pe_bl)) pss_nil)
      (pss_cons (ps_for PassesOwn.never rfl (pi_range1 (by rfl) T.n_range (pa_cons (pe_callB call_len_seq (by rfl) T.n_len PySem.boot_len (pa_cons (pv 1) pa_nil)) pa_nil)) (pg_name (i := 2) sc_Lsame.nd rfl (Or.inl rfl))
        (pss_one (ps_if (pt_not (pt_val (pc_c c_Lsame hr (Nat.le_refl _) rfl pass0 (pa_cons (pe_ix ix_seq (pv 0) (pv 2) (fun _ _ => rfl)) (pa_cons (pe_ix ix_seq (pv 1) (pv 2) (fun _ _ => rfl)) pa_nil))))) (pss_one (ps_ret pe_bl)) pss_nil)))
      (pss_one (ps_ret pe_bl))))))))))), ?_⟩
    have kL1 : PySem.W.kitOne K (.type "list") (.type "int") = some false := kit_ty (by decide +kernel)
    have kL2 : PySem.W.kitOne K (.type "list") (.type "str") = some false := kit_ty (by decide +kernel)
    have kL3 : PySem.W.kitOne K (.type "list") (.type "tuple") = some false := kit_ty (by decide +kernel)
    have kL4 : PySem.W.kitOne K (.type "list") (.type "list") = some true := kit_ty (by decide +kernel)
    have kT1 : PySem.W.kitOne K (.type "tuple") (.type "int") = some false := kit_ty (by decide +kernel)
    have kT2 : PySem.W.kitOne K (.type "tuple") (.type "str") = some false := kit_ty (by decide +kernel)
    have kT3 : PySem.W.kitOne K (.type "tuple") (.type "tuple") = some true := kit_ty (by decide +kernel)
    have kT4 : PySem.W.kitOne K (.type "tuple") (.type "list") = some false := kit_ty (by decide +kernel)
    have hv' : (flatD x = true ∧ x = y) ∨ (∃ m, n = m + 1 ∧ ∃ (a b : Addr) (xs ys : List V), x = .ref a ∧ y = .ref b ∧ SqL K H a xs ∧ SqL K H b ys ∧ xs.length ≤ sizeLine ∧ Pairs (SameV K H m) xs ys) ∨
        (∃ m, n = m + 1 ∧ ∃ (a b : Addr) (xs ys : List V), x = .ref a ∧ y = .ref b ∧ SqT K H a xs ∧ SqT K H b ys ∧ xs.length ≤ sizeLine ∧ Pairs (SameV K H m) xs ys) := by
      cases n with
      | zero => exact .inl hv
      | succ m =>
        rcases hv with h | h | h
        · exact .inl h
        · exact .inr (.inl ⟨m, rfl, h⟩)
        · exact .inr (.inr ⟨m, rfl, h⟩)
    rcases hv' with ⟨hf, e⟩ | ⟨m, rfl, a, b, xs, ys, rfl, rfl, ha, hb, hl, hp⟩ | ⟨m, rfl, a, b, xs, ys, rfl, rfl, ha, hb, hl, hp⟩
    · subst e
      cases x with
      | non => exact ⟨_, rfl, rfl, _, rfl, iteDT rfl ⟨_, rfl, rfl, q⟩⟩
      | bl b =>
        refine ⟨_, rfl, rfl, _, rfl, iteDF (by intro z; cases z) ?_⟩
        cases b with
        | true => exact ⟨_, rfl, _, rfl, _, rfl, iteDT rfl ⟨_, rfl, _, rfl, q⟩⟩
        | false => exact ⟨_, rfl, _, rfl, _, rfl, iteDF (by intro z; cases z) ⟨_, rfl, _, rfl, _, rfl, iteDT rfl ⟨_, rfl, _, rfl, q⟩⟩⟩
      | int i =>
        refine ⟨_, rfl, rfl, _, rfl, iteDF (by intro z; cases z) ?_⟩
        refine ⟨_, rfl, _, rfl, _, rfl, iteDF (by intro z; cases z) ?_⟩
        refine ⟨_, rfl, _, rfl, _, rfl, iteDF (by intro z; cases z) ?_⟩
        refine ⟨_, rfl, _, _, _, .type "int", true, rfl, .ty "int", .base (.int i), kit_ty (by decide +kernel), true, rfl, iteT ?_⟩
        refine ⟨_, rfl, _, _, _, .type "int", true, rfl, .ty "int", .base (.int i), kit_ty (by decide +kernel), true, rfl, iteT ?_⟩
        refine ⟨_, rfl, _, _, _, .type "bool", false, rfl, .ty "bool", .base (.int i), kit_ty (by decide +kernel), false, rfl, true, rfl, iteT ?_⟩
        refine ⟨_, rfl, _, rfl, rfl, ?_⟩
        rw [decide_eq_true (show V.int i = V.int i from rfl)]
        exact q
      | str i =>
        refine ⟨_, rfl, rfl, _, rfl, iteDF (by intro z; cases z) ?_⟩
        refine ⟨_, rfl, _, rfl, _, rfl, iteDF (by intro z; cases z) ?_⟩
        refine ⟨_, rfl, _, rfl, _, rfl, iteDF (by intro z; cases z) ?_⟩
        refine ⟨_, rfl, _, _, _, .type "int", false, rfl, .ty "int", .base (.str i), kit_ty (by decide +kernel), false, rfl, iteF ?_⟩
        refine ⟨_, rfl, _, _, _, .type "str", true, rfl, .ty "str", .base (.str i), kit_ty (by decide +kernel), true, rfl, iteT ?_⟩
        refine ⟨_, rfl, _, _, _, .type "str", true, rfl, .ty "str", .base (.str i), kit_ty (by decide +kernel), true, rfl, iteT ?_⟩
        refine ⟨_, rfl, _, rfl, rfl, ?_⟩
        rw [decide_eq_true (show V.str i = V.str i from rfl)]
        exact q
      | _ => exact absurd (show false = true from hf) Bool.false_ne_true
    · refine ⟨_, rfl, rfl, _, rfl, iteDF (by intro z; cases z) ?_⟩
      refine ⟨_, rfl, _, rfl, _, rfl, iteDF (by intro z; cases z) ?_⟩
      refine ⟨_, rfl, _, rfl, _, rfl, iteDF (by intro z; cases z) ?_⟩
      refine ⟨_, rfl, _, _, _, .type "int", false, rfl, .ty "int", tyx_list hb, kL1, false, rfl, iteF ?_⟩
      refine ⟨_, rfl, _, _, _, .type "str", false, rfl, .ty "str", tyx_list hb, kL2, false, rfl, iteF ?_⟩
      refine ⟨_, rfl, _, _, _, .type "tuple", false, rfl, .ty "tuple", tyx_list hb, kL3, false, rfl, iteF (iteF ?_)⟩
      refine ⟨_, rfl, _, _, _, .type "list", true, rfl, .ty "list", tyx_list hb, kL4, true, rfl, iteT ?_⟩
      refine ⟨_, rfl, _, _, _, .type "list", true, rfl, .ty "list", tyx_list ha, kL4, true, rfl, iteF ?_⟩
      refine ⟨_, rfl, a, _, rfl, .inl ha, _, rfl, b, _, rfl, .inl hb, rfl, _, rfl, ?_⟩
      rw [decide_eq_true (show V.int (xs.length : Nat) = V.int (ys.length : Nat) by rw [hp.1])]
      refine iteF ?_
      have hy : ys.length ≤ 16777216 := by rw [← hp.1, ← sizeLine_eq]; exact hl
      refine ⟨_, rfl, b, _, rfl, .inl hb, _, rfl, by omega, by omega, for_range (lo := 0) (n := ((ys.length : Nat) : Int).toNat) (fun i σ H' => H' = H ∧ ∃ v : Option V, σ = [some (.ref a), some (.ref b), v]) ⟨rfl, none, rfl⟩ ?_ ?_⟩
      · rintro i σ H' hi ⟨rfl, v, rfl⟩
        have i1 : i < ys.length := by omega
        have i2 : i < xs.length := by rw [hp.1]; exact i1
        have ex : xs[i]? = some xs[i] := List.getElem?_eq_getElem i2
        have ey : ys[i]? = some ys[i] := List.getElem?_eq_getElem i1
        have ex' := atI_nat ex
        have ey' := atI_nat ey
        rw [show ((i : Nat) : Int) = 0 + ((i : Nat) : Int) by omega] at ex' ey'
        refine ⟨_, rfl, _, rfl, .inl ⟨a, _, _, _, rfl, rfl, ha, ex', _, rfl, _, rfl, .inl ⟨b, _, _, _, rfl, rfl, hb, ey', _, _, rfl, hp.2 i _ _ ex ey, true, rfl, iteF ?_⟩⟩⟩
        exact ⟨rfl, _, rfl⟩
      · rintro σ H' ⟨rfl, v, rfl⟩
        exact q
    · refine ⟨_, rfl, rfl, _, rfl, iteDF (by intro z; cases z) ?_⟩
      refine ⟨_, rfl, _, rfl, _, rfl, iteDF (by intro z; cases z) ?_⟩
      refine ⟨_, rfl, _, rfl, _, rfl, iteDF (by intro z; cases z) ?_⟩
      refine ⟨_, rfl, _, _, _, .type "int", false, rfl, .ty "int", tyx_tup hb, kT1, false, rfl, iteF ?_⟩
      refine ⟨_, rfl, _, _, _, .type "str", false, rfl, .ty "str", tyx_tup hb, kT2, false, rfl, iteF ?_⟩
      refine ⟨_, rfl, _, _, _, .type "tuple", true, rfl, .ty "tuple", tyx_tup hb, kT3, true, rfl, iteT ?_⟩
      refine ⟨_, rfl, _, _, _, .type "tuple", true, rfl, .ty "tuple", tyx_tup ha, kT3, true, rfl, iteF ?_⟩
      refine ⟨_, rfl, _, _, _, .type "list", false, rfl, .ty "list", tyx_tup hb, kT4, false, rfl, iteF (iteF ?_)⟩
      refine ⟨_, rfl, a, _, rfl, .inr ha, _, rfl, b, _, rfl, .inr hb, rfl, _, rfl, ?_⟩
      rw [decide_eq_true (show V.int (xs.length : Nat) = V.int (ys.length : Nat) by rw [hp.1])]
      refine iteF ?_
      have hy : ys.length ≤ 16777216 := by rw [← hp.1, ← sizeLine_eq]; exact hl
      refine ⟨_, rfl, b, _, rfl, .inr hb, _, rfl, by omega, by omega, for_range (lo := 0) (n := ((ys.length : Nat) : Int).toNat) (fun i σ H' => H' = H ∧ ∃ v : Option V, σ = [some (.ref a), some (.ref b), v]) ⟨rfl, none, rfl⟩ ?_ ?_⟩
      · rintro i σ H' hi ⟨rfl, v, rfl⟩
        have i1 : i < ys.length := by omega
        have i2 : i < xs.length := by rw [hp.1]; exact i1
        have ex : xs[i]? = some xs[i] := List.getElem?_eq_getElem i2
        have ey : ys[i]? = some ys[i] := List.getElem?_eq_getElem i1
        have ex' := atI_nat ex
        have ey' := atI_nat ey
        rw [show ((i : Nat) : Int) = 0 + ((i : Nat) : Int) by omega] at ex' ey'
        refine ⟨_, rfl, _, rfl, .inr (.inl ⟨a, _, _, _, rfl, rfl, ha, ex', _, rfl, _, rfl, .inr (.inl ⟨b, _, _, _, rfl, rfl, hb, ey', _, _, rfl, hp.2 i _ _ ex ey, true, rfl, iteF ?_⟩)⟩)⟩
        exact ⟨rfl, _, rfl⟩
      · rintro σ H' ⟨rfl, v, rfl⟩
        exact q
theorem ok_Lsame {f : Addr} {fd : FuncData} (F : Fun K "_law_same" "_law_same" s_Lsame f fd) (T : Txt P w K mg C_BadRow C_CableError C_Row A_LETTERS) (m : mg "_law_same" = some (.ref f)) (kp : PySem.W.keepIn K (.ref f) = true) (b : Binds K fd ["_law_told", "_law_due"] []) :
    ∀ n : Nat, FnOk P w K mg base CX0 (n + 1) f fd ["_law_told", "_law_due"] (sp_Lsame K n)
  | 0 => F.ok sc_Lsame (fun _ _ _ _ h => False.elim h) (fun _ _ _ _ _ _ _ _ _ h => False.elim h)
  | n + 1 => okr_Lsame F T (cal_mk (ok_Lsame F T m kp b n) m kp b)
theorem ok_Lsigns {f : Addr} {fd : FuncData} (F : Fun K "_law_signs" "_law_signs" s_Lsigns f fd) (T : Txt P w K mg C_BadRow C_CableError C_Row A_LETTERS)  :
    FnOk P w K mg base CX0 1 f fd [] sp_Lsigns := by
  refine F.ok sc_Lsigns (fun vs H Q E h => ?_) (fun cdv A outer s H vs Q E hr h => ?_)
  · obtain ⟨rfl, _⟩ := h
    rfl
  · obtain ⟨rfl, q⟩ := h
    refine ⟨_, (pss_cons (ps_set (i := 0) sc_Lsigns.nd rfl (Or.inl rfl) pe_str)
      (pss_one (ps_ret (pe_op op_add_str (pv 0) pe_str)))), ?_⟩
    exact ⟨_, rfl, _, _, rfl, rfl, (by decide +kernel), q⟩
theorem ok_Lbent {f : Addr} {fd : FuncData} (F : Fun K "_law_bent" "_law_bent" s_Lbent f fd) (T : Txt P w K mg C_BadRow C_CableError C_Row A_LETTERS) (c_Ltake : Cal CX0 P w K mg base 1 "_law_take" sp_Ltake) :
    FnOk P w K mg base CX0 2 f fd ["_law_pool_here", "_law_text", "_law_signs_here"] sp_LbentN := by
  refine F.ok sc_Lbent (fun vs H Q E h => ?_) (fun cdv A outer s H vs Q E hr h => ?_)
  · obtain ⟨p, y, g, rfl, _⟩ := h
    rfl
  · obtain ⟨p, y, g, rfl, hp, g0, g1, y1, q⟩ := h
    refine ⟨_, (pss_cons (ps_set (i := 3) sc_Lbent.nd rfl (Or.inl rfl) (pc_c c_Ltake hr (by decide) rfl pass0 (pa_cons (pv 0) (pa_cons (pe_op op_add (pe_callB call_len_str (by rfl) T.n_len PySem.boot_len (pa_cons (pv 1) pa_nil)) pe_int) pa_nil))))
      (pss_cons (ps_set (i := 4) sc_Lbent.nd rfl (Or.inl rfl) (pe_ix ix_str (pv 2) (pc_c c_Ltake hr (by decide) rfl pass0 (pa_cons (pv 0) (pa_cons (pe_callB call_len_str (by rfl) T.n_len PySem.boot_len (pa_cons (pv 2) pa_nil)) pa_nil))) (fun _ _ => rfl)))
      (pss_cons (ps_set (i := 5) sc_Lbent.nd rfl (Or.inl rfl) (pc_c c_Ltake hr (by decide) rfl pass0 (pa_cons (pv 0) (pa_cons pe_int pa_nil))))
      (pss_cons (ps_if (pt_cmpR op_eq (pv 5) pe_int (nomark _)) (pss_one (ps_ret (pe_op op_add_str (pe_op op_add_str (pe_slice sl_str (pv 1) po_none (po_some (pv 3))) (pv 4)) (pe_slice sl_str (pv 1) (po_some (pv 3)) po_none)))) pss_nil)
      (pss_cons (ps_if (pt_cmpR op_eq (pv 5) pe_int (nomark _)) (pss_one (ps_ret (pe_op op_add_str (pe_op op_add_str (pe_slice sl_str (pv 1) po_none (po_some (pv 3))) (pv 4)) (pe_slice sl_str (pv 1) (po_some (pe_op op_add (pv 3) pe_int)) po_none)))) pss_nil)
      (pss_one (ps_ret (pe_op op_add_str (pe_slice sl_str (pv 1) po_none (po_some (pv 3))) (pe_slice sl_str (pv 1) (po_some (pe_op op_add (pv 3) pe_int)) po_none))))))))), ?_⟩
    have big : ∀ n : Nat, n ≤ 100000 → n ≤ sizeLine := fun n h => small_line h
    have nb : ∀ r : Int, 0 ≤ r → r ≤ 100000 → r.natAbs < 2 ^ 300 := fun r h0 h1 => Nat.lt_of_lt_of_le (by omega : r.natAbs < 2 ^ 20) (by decide)
    refine ⟨_, rfl, _, rfl, y, rfl, big _ (by omega), _, _, rfl, rfl, p, _, rfl, hp, by omega, nb _ (by omega) (by omega), fun H1 a k1 p1 a0 a1 => ?_⟩
    refine ⟨_, rfl, _, rfl, _, rfl, g, rfl, big _ (by omega), p, _, rfl, p1, by omega, nb _ (by omega) (by omega), fun H2 b k2 p2 b0 b1 => ?_⟩
    obtain ⟨c, hc⟩ := atI_in (xs := g.cps.toList) b0 (by rw [Array.length_toList]; exact b1)
    refine ⟨g, b, c, rfl, rfl, big _ (by omega), hc, ?_⟩
    refine ⟨_, rfl, p, 3, rfl, p2, by decide, by decide, fun H3 wy k3 p3 w0 w1 => ?_⟩
    have kk := (k1.trans k2).trans k3
    have c1 : ∀ lo hi, (cutS y lo hi).length ≤ y.length := fun lo hi => cut_len y lo hi
    have one : (⟨#[c]⟩ : Str).length = 1 := rfl
    refine ⟨_, rfl, rfl, _, rfl, ite2 (fun _ => ?_) (fun _ => ?_)⟩
    · have x1 := c1 none (some a)
      have x2 := c1 (some a) none
      exact ⟨_, rfl, _, rfl, _, rfl, y, rfl, big _ (by omega), _, rfl, _, _, rfl, rfl, big _ (by omega), _, rfl, _, rfl, _, rfl, y, rfl, big _ (by omega), _, _, rfl, rfl, big _ (by rw [app_len]; omega), q _ _ kk p3 (by rw [app_len, app_len]; omega)⟩
    · have x1 := c1 none (some a)
      have x2 := c1 (some (a + 1)) none
      refine ⟨_, rfl, rfl, _, rfl, ite2 (fun _ => ?_) (fun _ => ?_)⟩
      · exact ⟨_, rfl, _, rfl, _, rfl, y, rfl, big _ (by omega), _, rfl, _, _, rfl, rfl, big _ (by omega), _, rfl, _, rfl, _, _, rfl, rfl, _, rfl, y, rfl, big _ (by omega), _, _, rfl, rfl, big _ (by rw [app_len]; omega), q _ _ kk p3 (by rw [app_len, app_len]; omega)⟩
      · exact ⟨_, rfl, _, rfl, _, rfl, y, rfl, big _ (by omega), _, rfl, _, rfl, _, _, rfl, rfl, _, rfl, y, rfl, big _ (by omega), _, _, rfl, rfl, big _ (by omega), q _ _ kk p3 (by rw [app_len]; omega)⟩
theorem pool_upd {H : Hp} {t p : Addr} {o : HO} (h : PoolAt H p) (n : t ≠ p) : PoolAt (upd H t o) p := by
  obtain ⟨x, y, z, e⟩ := h
  exact ⟨x, y, z, by rw [upd_ne n.symm]; exact e⟩
theorem ok_Lletters {f : Addr} {fd : FuncData} (F : Fun K "_law_letters" "_law_letters" s_Lletters f fd) (T : Txt P w K mg C_BadRow C_CableError C_Row A_LETTERS) (c_Ltake : Cal CX0 P w K mg base 1 "_law_take" sp_Ltake) :
    FnOk P w K mg base CX0 2 f fd ["_law_pool_here", "_law_size"] sp_Lletters := by
  refine F.ok sc_Lletters (fun vs H Q E h => ?_) (fun cdv A outer s H vs Q E hr h => ?_)
  · obtain ⟨p, n, rfl, _⟩ := h
    rfl
  · obtain ⟨p, n, rfl, hn, hp, q⟩ := h
    refine ⟨_, (C8.pss_cut (ps_if (PW.pt (pw_and (pt_cmpR op_gt (pv 1) pe_int (nomark _)) (pw_and1 (pt_cmpR op_eq (pe_ix ix_list (pv 0) pe_int (fun _ _ => rfl)) pe_int (nomark _))))) (pss_cons (ps_set (i := 2) sc_Lletters.nd rfl (Or.inr rfl) (pc_c c_Ltake hr (by decide) rfl pass0 (pa_cons (pv 0) (pa_cons pe_int pa_nil))))
      (pss_cons (ps_set (i := 3) sc_Lletters.nd rfl (Or.inr rfl) (pc_c c_Ltake hr (by decide) rfl pass0 (pa_cons (pv 0) (pa_cons pe_int pa_nil))))
      (pss_one (ps_ret (pe_lc (own := [("_law_k", 4)]) (g := (gName 4)) (tt := tYes) rfl sc_Lletters.nd (pi_range1 (by rfl) T.n_range (pa_cons (pv 1) pa_nil)) (blkOk_by (own := [("_law_k", 4)]) (N := ["_law_pool_here", "_law_size", "_law_step", "_law_shift", "_law_k"]) (sc := defScope s_Lletters) (by decide +kernel)) (fun _ _ _ _ _ => (pg_name (i := 4) sc_Lletters.nd rfl (Or.inl rfl))) (fun _ _ _ _ _ => pts_nil) (fun _ _ _ _ _ => (pe_op op_mod (pe_callTy call_int1 (by rfl) T.n_int (by decide +kernel) (pa_cons (pe_op op_add (pe_op op_mulA (pv 4) (pv 2)) (pv 3)) pa_nil)) pe_int))))))) pss_nil)
      (pss_one (ps_ret (pe_lc (own := [("_law_k", 4)]) (g := (gName 4)) (tt := tYes) rfl sc_Lletters.nd (pi_range1 (by rfl) T.n_range (pa_cons (pv 1) pa_nil)) (blkOk_by (own := [("_law_k", 4)]) (N := ["_law_pool_here", "_law_size", "_law_step", "_law_shift", "_law_k"]) (sc := defScope s_Lletters) (by decide +kernel)) (fun _ _ _ _ _ => (pg_name (i := 4) sc_Lletters.nd rfl (Or.inl rfl))) (fun _ _ _ _ _ => pts_nil) (fun _ _ _ _ _ => (pc_c c_Ltake hr (by decide) rfl pass0 (pa_cons (pv 0) (pa_cons pe_int pa_nil)))))))), ?_⟩
    refine ⟨fun σ' H' => σ' = [some (.ref p), some (.int (n : Nat)), none, none, none] ∧ H' = H, ?_, ?_⟩
    · refine ⟨_, rfl, _, _, rfl, rfl, _, rfl, ite2 (fun _ => ?_) (fun _ => ⟨rfl, rfl⟩)⟩
      obtain ⟨x, y, z, hp0⟩ := id hp
      refine ⟨_, rfl, p, _, _, _, rfl, rfl, SqL.of hp0, at0, rfl, _, rfl, ite2 (fun _ => ?_) (fun _ => ⟨rfl, rfl⟩)⟩
      refine ⟨_, rfl, p, 5, rfl, hp, by decide, by decide, fun H1 st k1 p1 st0 st1 => ?_⟩
      refine ⟨_, rfl, p, 5, rfl, p1, by decide, by decide, fun H2 sh k2 p2 sh0 sh1 => ?_⟩
      have k12 := k1.trans k2
      refine ⟨_, rfl, _, rfl, by omega, by omega, fun D hD => lc_range (lo := 0) (n := (((n : Nat) : Int)).toNat) (fun i H' => ∃ ts : List Int, ts.length = i ∧ (∀ n ∈ ts, 0 ≤ n ∧ n ≤ 4) ∧ Same H2 H' ∧ H' D = some (.lst (ts.map V.int)))
        ⟨[], rfl, (fun _ z => by cases z), same_upd hD, upd_same⟩ ?_ ?_⟩
      · rintro i H' hi ⟨ts, e1, e2, s3, hD1⟩
        refine ⟨rfl, tyes ?_⟩
        refine ⟨_, rfl, _, rfl, _, _, rfl, rfl, .inl (.inl ⟨by omega, by omega⟩), _, rfl, _, _, rfl, rfl, .inl ⟨_, rfl, _, _, rfl, rfl, (by show (0 : Int) < 5; decide), ?_⟩⟩
        have m0 := Int.emod_nonneg ((0 + (i : Int)) * st + sh) (show (5 : Int) ≠ 0 by decide)
        have m1 := Int.emod_lt_of_pos ((0 + (i : Int)) * st + sh) (show (0 : Int) < 5 by decide)
        refine ⟨_, hD1, big_small (by rw [List.length_map]; omega), ts ++ [((0 + (i : Int)) * st + sh) % 5], ?_, fun n hn => ?_, same_app s3 hD, ?_⟩
        · rw [List.length_append, e1]
          rfl
        · rw [List.mem_append, List.mem_singleton] at hn
          rcases hn with hn | rfl
          · exact e2 n hn
          · omega
        · rw [upd_same, List.map_append]
          rfl
      · rintro H' ⟨ts, e1, e2, s3, hD1⟩
        exact q H' D ts (fun b o nb e => s3 _ _ (k12 _ _ nb e)) (p2.same s3) (none_kp k12 (pool_ne p2 hD) hD) hD1 ⟨by omega, e2⟩
    · rintro σ' H' ⟨rfl, rfl⟩
      refine ⟨_, rfl, _, rfl, by omega, by omega, fun D hD => lc_range (lo := 0) (n := (((n : Nat) : Int)).toNat) (fun i H2 => ∃ ts : List Int, ts.length = i ∧ (∀ n ∈ ts, 0 ≤ n ∧ n ≤ 4) ∧ Kp p H' H2 ∧ PoolAt H2 p ∧ H2 D = some (.lst (ts.map V.int)))
        ⟨[], rfl, (fun _ z => by cases z), Kp.of (same_upd hD), hp.same (same_upd hD), upd_same⟩ ?_ ?_⟩
      · rintro i H2 hi ⟨ts, e1, e2, k3, p3, hD1⟩
        refine ⟨rfl, tyes ?_⟩
        refine ⟨_, rfl, p, 5, rfl, p3, by decide, by decide, fun H3 r k4 p4 r0 r1 => ?_⟩
        have nD := pool_ne hp hD
        refine ⟨_, k4 _ _ nD hD1, big_small (by rw [List.length_map]; omega), ts ++ [r], ?_, fun n hn => ?_, kp_app (k3.trans k4) hD, pool_upd p4 nD, ?_⟩
        · rw [List.length_append, e1]
          rfl
        · rw [List.mem_append, List.mem_singleton] at hn
          rcases hn with hn | rfl
          · exact e2 n hn
          · omega
        · rw [upd_same, List.map_append]
          rfl
      · rintro H2 ⟨ts, e1, e2, k3, p3, hD1⟩
        exact q H2 D ts k3 p3 hD hD1 ⟨by omega, e2⟩
theorem ok_Lany {f : Addr} {fd : FuncData} (F : Fun K "_law_any" "_law_any" s_Lany f fd) (T : Txt P w K mg C_BadRow C_CableError C_Row A_LETTERS) (c_Ltake : Cal CX0 P w K mg base 1 "_law_take" sp_Ltake) :
    FnOk P w K mg base CX0 2 f fd ["_law_pool_here", "_law_signs_here"] sp_Lany := by
  refine F.ok sc_Lany (fun vs H Q E h => ?_) (fun cdv A outer s H vs Q E hr h => ?_)
  · obtain ⟨p, g, rfl, _⟩ := h
    rfl
  · obtain ⟨p, g, rfl, hp, g0, g1, q⟩ := h
    refine ⟨_, (pss_one (ps_ret (pe_bm PySem.F.plainAttrs_str PySem.F.slot_str_join PySem.F.type_str_join mt_join pe_str (pa_cons (pe_lc (own := [("_law_k", 2)]) (g := (gName 2)) (tt := tYes) rfl sc_Lany.nd (pi_range1 (by rfl) T.n_range (pa_cons (pc_c c_Ltake hr (by decide) rfl pass0 (pa_cons (pv 0) (pa_cons pe_int pa_nil))) pa_nil)) (blkOk_by (own := [("_law_k", 2)]) (N := ["_law_pool_here", "_law_signs_here", "_law_k"]) (sc := defScope s_Lany) (by decide +kernel)) (fun _ _ _ _ _ => (pg_name (i := 2) sc_Lany.nd rfl (Or.inl rfl))) (fun _ _ _ _ _ => pts_nil) (fun _ _ _ _ _ => (pe_ix ix_str (pv 1) (pc_c c_Ltake hr (by decide) rfl pass0 (pa_cons (pv 0) (pa_cons (pe_callB call_len_str (by rfl) T.n_len PySem.boot_len (pa_cons (pv 1) pa_nil)) pa_nil))) (fun _ _ => rfl)))) pa_nil)))), ?_⟩
    have nb : ∀ r : Int, 0 ≤ r → r ≤ 100000 → r.natAbs < 2 ^ 300 := fun r h0 h1 => Nat.lt_of_lt_of_le (by omega : r.natAbs < 2 ^ 20) (by decide)
    refine ⟨rfl, _, rfl, p, 41, rfl, hp, by decide, by decide, fun H2 r kk2 p2 r0 r1 => ?_⟩
    refine ⟨r, rfl, by omega, by omega, fun D hD => lc_range (lo := 0) (n := r.toNat) (fun i H' => Kp p H2 H' ∧ PoolAt H' p ∧ ∃ ys : List Str, ys.length = i ∧ (∀ y ∈ ys, y.length = 1) ∧ H' D = some (.lst (ys.map V.str)))
      ⟨Kp.of (same_upd hD), p2.same (same_upd hD), [], rfl, (fun _ z => by cases z), upd_same⟩ ?_ ?_⟩
    · rintro i H' hi ⟨kk3, p3, ys, e1, e2, hD1⟩
      refine ⟨rfl, tyes ⟨_, rfl, _, rfl, _, rfl, g, rfl, small_line (by omega), p, _, rfl, p3, by omega, nb _ (by omega) (by omega), fun H4 t kk4 p4 t0 t1 => ?_⟩⟩
      obtain ⟨c, hc⟩ := sign_at t0 t1
      refine ⟨g, t, c, rfl, rfl, small_line (by omega), hc, ?_⟩
      have nD := pool_ne p2 hD
      refine ⟨_, kk4 _ _ nD hD1, small1000 (by rw [List.length_map]; omega), kp_app (kk3.trans kk4) hD, pool_at p4 nD, ys ++ [⟨#[c]⟩], ?_, fun y hy => ?_, ?_⟩
      · rw [List.length_append, e1]
        rfl
      · rw [List.mem_append, List.mem_singleton] at hy
        rcases hy with hy | rfl
        · exact e2 y hy
        · rfl
      · rw [upd_same, List.map_append]
        rfl
    · rintro H3 ⟨kk3, p3, ys, e1, e2, hD1⟩
      have e3 : ("" : Str).length = 0 := by decide +kernel
      have hs := sum1 e2
      refine ⟨_, D, ys, rfl, rfl, .inl (SqL.of hD1), by rw [hs, e3]; omega, q _ _ (kk2.trans kk3) ?_⟩
      have z := join_le "" ys
      rw [hs, e3] at z
      omega
theorem ok_Lletters_are {f : Addr} {fd : FuncData} (F : Fun K "_law_letters_are" "_law_letters_are" s_Lletters_are f fd) (T : Txt P w K mg C_BadRow C_CableError C_Row A_LETTERS)  :
    FnOk P w K mg base CX0 1 f fd ["_law_told", "_law_letters_here"] (sp_Lare K) := by
  refine F.ok sc_Lletters_are (fun vs H Q E h => ?_) (fun cdv A outer s H vs Q E hr h => ?_)
  · obtain ⟨a, b, ns, rfl, _⟩ := h
    rfl
  · obtain ⟨a, b, ns, rfl, ha, hb, hz, q⟩ := h
    refine ⟨_, (pss_cons (ps_setLc (i := 2) (own := [("_law_letter", 3)]) (g := (gName 3)) rfl sc_Lletters_are.nd rfl rfl (sw_true rfl rfl rfl (by decide +kernel)) (pi_list (pv 0)) (blkOk_by (own := [("_law_letter", 3)]) (N := ["_law_told", "_law_letters_here", "_law_odd_here", "_law_letter"]) (sc := defScope s_Lletters_are) (by decide +kernel)) (fun _ _ _ _ _ => (pg_name (i := 3) sc_Lletters_are.nd rfl (Or.inl rfl))) (fun _ _ _ _ _ => (pts_one (PW.pt (pw_or (pt_not (pt_val (pe_callB (call_isiK (K := K) rfl) (by rfl) T.n_isinstance (by decide +kernel) (pa_cons (pv 3) (pa_cons (pe_bltn (v := .ty "int") (by rfl) T.n_int (by decide +kernel) rfl) pa_nil))))) (pw_or1 (pt_val (pe_callB (call_isiK (K := K) rfl) (by rfl) T.n_isinstance (by decide +kernel) (pa_cons (pv 3) (pa_cons (pe_bltn (v := .ty "bool") (by rfl) T.n_bool (by decide +kernel) rfl) pa_nil))))))))) (fun _ _ _ _ _ => (pv 3)))
      (pss_one (ps_ret (pe_and (pe_cmpR op_eq (pe_callB call_len_seq (by rfl) T.n_len PySem.boot_len (pa_cons (pv 2) pa_nil)) pe_int (nomark _)) (pe_one (pe_cmpR (op_eqLI (Room.units hr)) (pv 0) (pv 1) (nomark _))))))), ?_⟩
    refine ⟨_, rfl, a, rfl, ⟨_, ha⟩, fun D hD => lc_list (K := K) (a := a) (xs := ns.map V.int) (fun i H' => Same H H' ∧ H' D = some (.lst []))
      ⟨same_upd hD, upd_same⟩ (fun i H' _ ⟨s1, _⟩ => Same.seq s1 ha) ?_ ?_⟩
    · rintro i y H' hy ⟨s1, hD1⟩
      obtain ⟨z, hz1, rfl⟩ := int_at hy
      refine ⟨rfl, _, rfl, _, _, _, .type "int", true, rfl, .ty "int", .base (.int z), kit_ty (by decide +kernel), true, rfl, iteF ?_⟩
      exact ⟨_, rfl, _, _, _, .type "bool", false, rfl, .ty "bool", .base (.int z), kit_ty (by decide +kernel), false, rfl, iteF ⟨s1, hD1⟩⟩
    · rintro H1 ⟨s1, hD1⟩
      refine ⟨_, rfl, D, _, rfl, .inl (SqL.of hD1), rfl, true, rfl, iteT ?_⟩
      refine ⟨_, rfl, _, rfl, a, b, ns, ns, rfl, rfl, Same.seq s1 ha, Same.seq s1 hb, ?_⟩
      rw [decide_eq_true rfl]
      exact q _ s1
theorem ok_Lodd {f : Addr} {fd : FuncData} (F : Fun K "_law_odd" "_law_odd" s_Lodd f fd) (T : Txt P w K mg C_BadRow C_CableError C_Row A_LETTERS) (c_Ltake : Cal CX0 P w K mg base 1 "_law_take" sp_Ltake) :
    FnOk P w K mg base CX0 2 f fd ["_law_pool_here"] sp_LoddS := by
  refine F.ok sc_Lodd (fun vs H Q E h => ?_) (fun cdv A outer s H vs Q E hr h => ?_)
  · obtain ⟨p, rfl, _⟩ := h
    rfl
  · obtain ⟨p, rfl, hp, q⟩ := h
    refine ⟨_, (pss_one (ps_ret (pe_ix ix_list (pe_lst (pa_cons pe_str (pa_cons pe_str (pa_cons pe_str (pa_cons pe_str (pa_cons pe_str (pa_cons pe_str (pa_cons pe_str (pa_cons pe_str (pa_cons pe_str (pa_cons pe_str (pa_cons pe_str (pa_cons pe_str pa_nil))))))))))))) (pc_c c_Ltake hr (by decide) rfl pass0 (pa_cons (pv 0) (pa_cons pe_int pa_nil))) (fun _ _ => rfl)))), ?_⟩
    refine ⟨(by show 12 ≤ sizeLine; decide), fun l hl => ?_⟩
    have s1 := same_upd (o := .lst (oddL.map V.str)) hl
    have n1 := pool_ne hp hl
    refine ⟨_, rfl, p, 12, rfl, hp.same s1, by decide, by decide, fun H2 r k2 p2 r0 r1 => ?_⟩
    obtain ⟨k, hk, hat⟩ := str_at (ks := oddL) r0 r1
    exact ⟨l, _, _, _, rfl, rfl, SqL.of (k2 _ _ n1 upd_same), hat, q _ k ((Kp.of s1).trans k2) p2 (odd_len k hk)⟩
theorem ok_Lwritten {f : Addr} {fd : FuncData} (F : Fun K "_law_written" "_law_written" s_Lwritten f fd) (T : Txt P w K mg C_BadRow C_CableError C_Row A_LETTERS)  :
    FnOk P w K mg base CX0 1 f fd ["_law_letters_here"] (sp_Lwritten K) := by
  refine F.ok sc_Lwritten (fun vs H Q E h => ?_) (fun cdv A outer s H vs Q E hr h => ?_)
  · obtain ⟨l, ns, rfl, _⟩ := h
    rfl
  · obtain ⟨l, ns, rfl, hl, l5, hz, q⟩ := h
    refine ⟨_, (pss_cons (ps_if (pt_cmpR op_eq (pe_callB call_len_seq (by rfl) T.n_len PySem.boot_len (pa_cons (pv 0) pa_nil)) pe_int (nomark _)) (pss_one (ps_ret pe_str)) pss_nil)
      (pss_one (ps_ret (pe_bm PySem.F.plainAttrs_str PySem.F.slot_str_join PySem.F.type_str_join mt_join pe_str (pa_cons (pe_lc (own := [("_law_letter", 1)]) (g := (gName 1)) (tt := tYes) rfl sc_Lwritten.nd (pi_list (pv 0)) (blkOk_by (own := [("_law_letter", 1)]) (N := ["_law_letters_here", "_law_letter"]) (sc := defScope s_Lwritten) (by decide +kernel)) (fun _ _ _ _ _ => (pg_name (i := 1) sc_Lwritten.nd rfl (Or.inl rfl))) (fun _ _ _ _ _ => pts_nil) (fun _ _ _ _ _ => (pe_callTy call_str_int (by rfl) T.n_str (by decide +kernel) (pa_cons (pv 1) pa_nil)))) pa_nil))))), ?_⟩
    refine ⟨_, rfl, l, _, rfl, .inl hl, rfl, _, rfl, ite2 (fun hc => ?_) (fun hc => ?_)⟩
    · have e : ns.length = 0 := by
        have z := of_decide_eq_true hc
        have := V.int.inj z
        rw [List.length_map] at this
        omega
      have q' := q H (Same.of _)
      unfold rtx at q'
      rw [if_pos e] at q'
      exact q'
    · have e : ¬ ns.length = 0 := fun z => hc (by rw [List.length_map, z]; rfl)
      refine ⟨rfl, _, rfl, l, rfl, ⟨_, hl⟩, fun D hD => lc_list (K := K) (a := l) (xs := ns.map V.int) (fun i H' => Same H H' ∧ H' D = some (.lst (((ns.take i).map dg).map V.str)))
        ⟨same_upd hD, upd_same⟩ (fun i H' _ ⟨s1, _⟩ => Same.seq s1 hl) ?_ ?_⟩
      · rintro i x H' hx ⟨s1, hD1⟩
        obtain ⟨n, hn, rfl⟩ := int_at hx
        have h5 := l5 n (List.mem_of_getElem? hn)
        have df := dg_facts n (five h5.1 h5.2)
        refine ⟨rfl, tyes ⟨_, rfl, n, rfl, df.2.2.2.1, _, hD1, big_small (by rw [List.length_map, List.length_map, List.length_take]; omega), same_app s1 hD, ?_⟩⟩
        rw [upd_same, ← take_snoc hn, List.map_append, List.map_append]
        rfl
      · rintro H' ⟨s1, hD1⟩
        rw [List.length_map, List.take_length] at hD1
        refine ⟨_, D, ns.map dg, rfl, rfl, .inl (SqL.of hD1), (by have := (rtx_len l5 hz).2; omega), ?_⟩
        have q' := q H' s1
        unfold rtx at q'
        rw [if_neg e] at q'
        exact q'
theorem ok_Lreading {f : Addr} {fd : FuncData} (F : Fun K "_law_reading" "_law_reading" s_Lreading f fd) (T : Txt P w K mg C_BadRow C_CableError C_Row A_LETTERS)  :
    FnOk P w K mg base CX0 1 f fd ["_law_text"] (sp_Lreading K) := by
  refine F.ok sc_Lreading (fun vs H Q E h => ?_) (fun cdv A outer s H vs Q E hr h => ?_)
  · obtain ⟨y, rfl, _⟩ := h
    rfl
  · obtain ⟨y, rfl, hl, q1, q2⟩ := h
    refine ⟨_, (pss_cons (ps_set (i := 1) sc_Lreading.nd rfl (Or.inl rfl) (pe_lst pa_nil))
      (pss_cons (ps_set (i := 2) sc_Lreading.nd rfl (Or.inl rfl) pe_str)
      (pss_cons (ps_if (pt_cmpR op_eq (pv 0) pe_str (nomark _)) (pss_one (ps_ret (pe_lst (pa_cons (pv 1) (pa_cons pe_non pa_nil))))) pss_nil)
      (pss_cons (ps_for PassesOwn.never rfl (pi_str (pe_op op_add_str (pv 0) pe_str)) (pg_name (i := 3) sc_Lreading.nd rfl (Or.inl rfl))
        (pss_one (ps_if (pt_cmpR op_eq (pv 3) pe_str (nomark _)) (pss_cons (ps_if (PW.pt (pw_or (pt_cmpR op_eq (pe_callB call_len_seq (by rfl) T.n_len PySem.boot_len (pa_cons (pv 1) pa_nil)) pe_int (nomark _)) (pw_or1 (pt_cmpR op_notIn_seq (pv 2) (pe_lst (pa_cons pe_str (pa_cons pe_str (pa_cons pe_str (pa_cons pe_str (pa_cons pe_str pa_nil)))))) (by rfl))))) (pss_one (ps_ret (pe_lst (pa_cons pe_non (pa_cons (pe_callB call_len_seq (by rfl) T.n_len PySem.boot_len (pa_cons (pv 1) pa_nil)) pa_nil))))) pss_nil)
      (pss_cons (ps_expr (pe_bm PySem.F.plainAttrs_list PySem.F.slot_list_append PySem.F.type_list_append mt_append (pv 1) (pa_cons (pe_callTy call_int_str (by rfl) T.n_int (by decide +kernel) (pa_cons (pv 2) pa_nil)) pa_nil)))
      (pss_one (ps_set (i := 2) sc_Lreading.nd rfl (Or.inl rfl) pe_str)))) (pss_one (ps_set (i := 2) sc_Lreading.nd rfl (Or.inl rfl) (pe_op op_add_str (pv 2) (pv 3)))))))
      (pss_one (ps_ret (pe_lst (pa_cons (pv 1) (pa_cons pe_non pa_nil))))))))), ?_⟩
    have e1 : (" " : Str).length = 1 := by decide +kernel
    have ty : TL.tl (y ++ " ") = TL.tl y ++ [32] := by rw [TL.tl_append, sep1_tl]
    have hyl : y.length = (TL.tl y).length := TL.len_tl y
    have hsl := split_le2 y
    refine ⟨Nat.zero_le _, fun D hD => ⟨_, rfl, rfl, _, rfl, ite2 (fun hc => ?_) (fun hc => ?_)⟩⟩
    · have e : y = "empty" := by
        have := of_decide_eq_true hc
        injection this
      have e2 : rowOf y = [] := by
        unfold rowOf
        rw [if_pos e]
      have sD := same_upd (o := .lst []) hD
      exact ⟨_, rfl, (by show 2 ≤ sizeLine; decide), fun g hg => q2 (by rw [e2]; rintro j ⟨p, hp, _⟩; cases hp) _ g D (sD.trans (same_upd hg)) upd_same (same_upd hg _ _ (by rw [e2]; exact upd_same))⟩
    · have e : y ≠ "empty" := fun z => hc (by rw [z]; exact decide_eq_true rfl)
      have e2 : rowOf y = (Txt.split y " ").map letOf := by
        unfold rowOf
        rw [if_neg e]
      have sD := same_upd (o := .lst []) hD
      refine ⟨_, rfl, _, _, rfl, rfl, big_le (by omega), y ++ " ", rfl, for_str (x := y ++ " ") (fun i σ H' => ∃ (v3 : Option V) (ps : List Str) (w : Str), σ = [some (.str y), some (.ref D), some (.str w), v3] ∧ Same H H' ∧ H' D = some (.lst ((ps.map letOf).map V.int)) ∧ (∀ j < ps.length, ¬ badAt (rowOf y) j) ∧ w.length ≤ i ∧
          (∃ rest : List Str, ps ++ rest = Txt.split y " ") ∧ (i ≤ y.length → ps.map TL.tl ++ TL.spl [32] 0 (TL.tl w) ((TL.tl y).drop i) = TL.spl [32] 0 [] (TL.tl y)) ∧ (i = y.length + 1 → ps = Txt.split y " "))
        ⟨none, [], "", rfl, sD, upd_same, (fun j hj => by cases hj), by rw [empty_len]; exact Nat.le_refl _, ⟨_, rfl⟩, fun _ => rfl, fun h => by omega⟩ ?_ ?_⟩
      · rintro i c σ H' hc ⟨v3, ps, w, rfl, s1, hD1, hno, hw, ⟨rest, hrest⟩, he, _⟩
        have hcl := (List.getElem?_eq_some_iff.mp hc).1
        have hi : i ≤ y.length := by
          have : (TL.tl (y ++ " ")).length = y.length + 1 := by rw [ty, List.length_append, ← hyl]; rfl
          have h2 : i < (TL.tl (y ++ " ")).length := hcl
          omega
        have he' := he hi
        have hc2 : (TL.tl y ++ [32])[i]? = some c := by rw [← ty]; exact hc
        refine ⟨_, rfl, rfl, _, rfl, iteB (fun h1 => ?_) (fun h1 => ?_)⟩
        · have c32 : c = 32 := by
            have := of_decide_eq_true h1
            have h3 : (⟨#[c]⟩ : Str) = " " := by injection this
            have h4 := congrArg TL.tl h3
            rw [sep1_tl] at h4
            have h5 : [c] = [32] := h4
            simpa using h5
          subst c32
          -- the word that ends here is the next part
          obtain ⟨rest', hr⟩ : ∃ rest', ps ++ w :: rest' = Txt.split y " " ∧ (i < y.length → (ps ++ [w]).map TL.tl ++ TL.spl [32] 0 [] ((TL.tl y).drop (i + 1)) = TL.spl [32] 0 [] (TL.tl y)) ∧ (i = y.length → rest' = []) := by
            by_cases hlt : i < y.length
            · obtain ⟨d, hd⟩ := TL.getElem_drop_cons (L := TL.tl y) (a := i) (by omega)
              rw [List.getElem?_append_left (by omega)] at hc2
              have hd32 : d = 32 := by
                have z := congrArg (fun l : List Nat => l[0]?) hd
                simp only [List.getElem?_drop, Nat.add_zero, List.getElem?_cons_zero] at z
                rw [hc2] at z
                injection z with z
                exact z.symm
              subst hd32
              have hp : TL.pre [32] (32 :: (TL.tl y).drop (i + 1)) = true := rfl
              rw [hd, TL.spl_hit hp] at he'
              have sp := split1 y
              rw [← he'] at sp
              have hlen := congrArg List.length hrest
              obtain ⟨u, r', hur⟩ : ∃ u r', rest = u :: r' := by
                cases rest with
                | nil =>
                  rw [List.append_nil] at hrest
                  rw [← hrest] at sp
                  have := congrArg List.length sp
                  rw [List.length_append] at this
                  simp at this
                | cons u r' => exact ⟨u, r', rfl⟩
              subst hur
              rw [← hrest, List.map_append] at sp
              have sp2 := List.append_cancel_left sp
              rw [List.map_cons] at sp2
              injection sp2 with sp3 sp4
              have hu : u = w := TL.ext_tl sp3
              subst hu
              refine ⟨r', hrest, fun _ => ?_, fun z => by omega⟩
              rw [List.map_append, List.append_assoc]
              exact he'
            · have hiy : i = y.length := by omega
              rw [hiy, hyl, List.drop_length, TL.spl_nil] at he'
              have sp := split1 y
              rw [← he'] at sp
              rw [← hrest, List.map_append] at sp
              have sp2 := List.append_cancel_left sp
              cases rest with
              | nil => cases sp2
              | cons u r' =>
                rw [List.map_cons] at sp2
                injection sp2 with sp3 sp4
                have hu : u = w := TL.ext_tl sp3
                subst hu
                have hr' : r' = [] := List.map_eq_nil_iff.mp sp4
                subst hr'
                exact ⟨[], hrest, fun z => by omega, fun _ => rfl⟩
          obtain ⟨hr1, hr2, hr3⟩ := hr
          have hat : (rowOf y)[ps.length]? = some (letOf w) := by
            rw [e2, ← hr1, List.getElem?_map, List.getElem?_append_right (Nat.le_refl _), Nat.sub_self]
            rfl
          have hpl : ps.length ≤ 20001 := by
            have := congrArg List.length hr1
            rw [List.length_append, List.length_cons] at this
            omega
          have ret : badAt (rowOf y) ps.length → ∀ g, H' g = none → Q (.ref g) (upd H' g (.lst [.non, .int (ps.length : Nat)])) := fun hb g hg => q1 _ hb hno _ g (s1.trans (same_upd hg)) upd_same
          have hll : ((ps.map letOf).map V.int).length = ps.length := by rw [List.length_map, List.length_map]
          have retR : badAt (rowOf y) ps.length → ∀ g, H' g = none → Q (.ref g) (upd H' g (.lst [.non, .int (((ps.map letOf).map V.int).length : Nat)])) := fun hb g hg => by
            rw [hll]
            exact ret hb g hg
          refine ⟨_, rfl, D, _, rfl, .inl (SqL.of hD1), rfl, _, rfl, iteB (fun h2 => ?_) (fun h2 => ?_)⟩
          · have e2000 : ps.length = 2000 := by
              have := V.int.inj (of_decide_eq_true h2)
              rw [hll] at this
              omega
            exact ⟨_, rfl, D, _, rfl, .inl (SqL.of hD1), (by show 2 ≤ sizeLine; decide), retR ⟨_, hat, .inl e2000⟩⟩
          · have n2000 : ¬ ps.length = 2000 := fun z => of_decide_eq_false h2 (by rw [hll, z]; rfl)
            refine ⟨_, rfl, (by show 5 ≤ sizeLine; decide), fun g hg => ?_⟩
            have sg := same_upd (o := .lst (digL.map V.str)) hg
            have hDg := sg _ _ hD1
            refine ⟨g, digL.map V.str, rfl, .inl (SqL.of upd_same), rfl, flat_strs _, _, rfl, iteB (fun h3 => ?_) (fun h3 => ?_)⟩
            · have h4 : (!inV (.str w) (digL.map V.str)) = true := h3
              rw [inV_str] at h4
              have h5 : ¬ w ∈ digL := fun z => by rw [decide_eq_true z] at h4; cases h4
              have h6 : letOf w < 0 := by
                by_cases h : 0 ≤ letOf w
                · exact absurd (in_dig.mpr h) h5
                · omega
              refine ⟨_, rfl, D, _, rfl, .inl (SqL.of hDg), (by show 2 ≤ sizeLine; decide), fun g2 hg2 => ?_⟩
              rw [hll]
              exact q1 _ ⟨_, hat, .inr (.inl h6)⟩ hno _ g2 ((s1.trans sg).trans (same_upd hg2)) upd_same
            · have h4 : (!inV (.str w) (digL.map V.str)) = false := h3
              rw [inV_str] at h4
              have h5 : w ∈ digL := by
                by_cases z : w ∈ digL
                · exact z
                · rw [decide_eq_false z] at h4
                  cases h4
              obtain ⟨hint, h640⟩ := int_dig h5
              have hge := in_dig.mp h5
              have h4' := (letOf_ok hge).2
              refine ⟨_, rfl, .inl ⟨rfl, _, SqL.of hDg⟩, _, rfl, w, _, rfl, hint, h640, D, _, _, rfl, rfl, hDg, big_small (by rw [hll]; omega), ?_⟩
              have nDg : D ≠ g := fun z => by rw [← z, hD1] at hg; cases hg
              refine ⟨_, ps ++ [w], "", rfl, same_app (s1.trans sg) hD, ?_, fun j hj => ?_, by rw [empty_len]; omega, ⟨rest', by rw [List.append_assoc]; exact hr1⟩, fun hi2 => ?_, fun hi2 => ?_⟩
              · rw [upd_same, List.map_append, List.map_append]
                rfl
              · rw [List.length_append] at hj
                by_cases ej : j = ps.length
                · subst ej
                  rintro ⟨n, hn, hb⟩
                  rw [hat] at hn
                  cases hn
                  omega
                · exact hno j (by simp at hj; omega)
              · exact hr2 (by omega)
              · have := hr3 (by omega)
                subst this
                exact hr1
        · have c32 : ¬ c = 32 := fun z => by
            rw [z] at h1
            exact of_decide_eq_false h1 rfl
          have hlt : i < y.length := by
            by_cases hlt : i < y.length
            · exact hlt
            · rw [List.getElem?_append_right (by omega), show i - (TL.tl y).length = 0 by omega] at hc2
              exact absurd (by simpa using hc2.symm) c32
          obtain ⟨d, hd⟩ := TL.getElem_drop_cons (L := TL.tl y) (a := i) (by omega)
          rw [List.getElem?_append_left (by omega)] at hc2
          have hdc : d = c := by
            have z := congrArg (fun l : List Nat => l[0]?) hd
            simp only [List.getElem?_drop, Nat.add_zero, List.getElem?_cons_zero] at z
            rw [hc2] at z
            injection z with z
            exact z.symm
          subst hdc
          have hp : TL.pre [32] (d :: (TL.tl y).drop (i + 1)) = false := TL.pre_of_head [] _ c32
          rw [hd, TL.spl_miss hp] at he'
          refine ⟨_, rfl, _, rfl, _, _, rfl, rfl, big_le (by show w.length + 1 ≤ _; omega), ?_⟩
          refine ⟨_, ps, w ++ ⟨#[d]⟩, rfl, s1, hD1, hno, by rw [app_len]; exact Nat.succ_le_succ hw, ⟨rest, hrest⟩, fun _ => ?_, fun z => by omega⟩
          rw [TL.tl_append]
          exact he'
      · rintro σ H' ⟨v3, ps, w, rfl, s1, hD1, hno, hw, _, _, hfin⟩
        have hps := hfin (by rw [app_len, e1])
        rw [hps, ← e2] at hD1
        have ok : OkR (rowOf y) := fun j hj => by
          by_cases h : j < ps.length
          · exact hno j h hj
          · obtain ⟨n, hn, _⟩ := hj
            have := (List.getElem?_eq_some_iff.mp hn).1
            rw [e2, List.length_map, ← hps] at this
            omega
        refine ⟨_, rfl, (by show 2 ≤ sizeLine; decide), fun g hg => ?_⟩
        have sg := same_upd (o := .lst [.ref D, .non]) hg
        exact q2 ok _ g D (s1.trans sg) upd_same (sg _ _ hD1)
theorem ok_Lreads {f : Addr} {fd : FuncData} (F : Fun K "_law_reads" "_law_reads" s_Lreads f fd) (T : Txt P w K mg C_BadRow C_CableError C_Row A_LETTERS) (c_Lreading : Cal CX0 P w K mg base 1 "_law_reading" (sp_Lreading K)) (c_Row_parse : ClM (L2.CX P w) P w K mg base 3 C_Row "parse" (sp_Row_parse K C_Row C_BadRow)) (c_Lsame : Cal CX0 P w K mg base 3 "_law_same" (sp_Lsame K 2)) (c_Row_len : Met CX0 P w K mg base 1 C_Row "__len__" (sp_Row_len K C_Row)) (c_Lletters_are : Cal CX0 P w K mg base 1 "_law_letters_are" (sp_Lare K)) (c_Row_iter : Met CX0 P w K mg base 1 C_Row "__iter__" (sp_Row_iter K C_Row)) (c_Row_str : Met CX0 P w K mg base 1 C_Row "__str__" (sp_Row_str K C_Row)) :
    FnOk P w K mg base CX0 7 f fd ["_law_text"] sp_Lreads := by
  refine F.ok sc_Lreads (fun vs H Q E h => ?_) (fun cdv A outer s H vs Q E hr h => ?_)
  · obtain ⟨y, rfl, _⟩ := h
    rfl
  · obtain ⟨y, rfl, hl, q⟩ := h
    refine ⟨_, (pss_cons (ps_set (i := 1) sc_Lreads.nd rfl (Or.inl rfl) (pc_c c_Lreading hr (by decide) rfl pass0 (pa_cons (pv 0) pa_nil)))
      (pss_cons (ps_set (i := 2) sc_Lreads.nd rfl (Or.inl rfl) pe_non)
      (pss_cons (ps_set (i := 3) sc_Lreads.nd rfl (Or.inl rfl) pe_non)
      (pss_cons (ps_try_as (i := 4) (Wout := fun _ _ _ _ => False) rfl rfl sc_Lreads.nd rfl rfl ⟨rfl, by decide, .inl T.g_BadRow⟩ takes0 (fun W pn xe tk _ => (pss_one (ps_set (i := 2) sc_Lreads.nd rfl (Or.inl rfl) (pc_cmS c_Row_parse hr (by decide) (fun σ => passAt tk σ) (pe_glob (v := .ref C_Row) rfl T.g_Row rfl) (pa_cons (pv 0) pa_nil)))))
        (fun a oe cls d pn hz hf => (pss_one (ps_set (i := 3) sc_Lreads.nd rfl (Or.inl rfl) (pe_lst (pa_cons (pe_placeE T.err_BadRow hz hf (pv 4)) (pa_cons (pe_and (pe_callB (call_isErr T.e_BadRow hz hf) (by rfl) T.n_isinstance (by decide +kernel) (pa_cons (pv 4) (pa_cons (pe_glob (v := .ref C_CableError) rfl T.g_CableError rfl) pa_nil))) (pe_one (pe_callB (call_isErr T.e_BadRow hz hf) (by rfl) T.n_isinstance (by decide +kernel) (pa_cons (pv 4) (pa_cons (pe_bltn (v := .ty "ValueError") (by rfl) T.n_ValueError (by decide +kernel) rfl) pa_nil))))) pa_nil)))))))
      (pss_cons (ps_if (pt_cmpR op_isN (pe_ix ix_list (pv 1) pe_int (fun _ _ => rfl)) pe_non (nomark _)) (pss_one (ps_ret (pe_and (pe_cmpR op_isN (pv 2) pe_non (nomark _)) (pe_one (pc_c c_Lsame hr (by decide) rfl pass0 (pa_cons (pv 3) (pa_cons (pe_lst (pa_cons (pe_ix ix_list (pv 1) pe_int (fun _ _ => rfl)) (pa_cons pe_bl pa_nil))) pa_nil))))))) pss_nil)
      (pss_cons (ps_if (PW.pt (pw_or (pt_cmpR op_notN (pv 3) pe_non (nomark _)) (pw_or1 (pt_not (pt_val (pe_callB (C8.call_isC T.i_Row) (by rfl) T.n_isinstance (by decide +kernel) (pa_cons (pv 2) (pa_cons (pe_glob (v := .ref C_Row) rfl T.g_Row rfl) pa_nil)))))))) (pss_one (ps_ret pe_bl)) pss_nil)
      (pss_cons (ps_if (PW.pt (pw_or (pt_cmpR op_ne (pe_callB (call_lenO (E := E0) c_Row_len hr (by decide)) (by rfl) T.n_len PySem.boot_len (pa_cons (pv 2) pa_nil)) (pe_callB call_len_seq (by rfl) T.n_len PySem.boot_len (pa_cons (pe_ix ix_list (pv 1) pe_int (fun _ _ => rfl)) pa_nil)) (nomark _)) (pw_or1 (pt_not (pt_val (pc_c c_Lletters_are hr (by decide) rfl pass0 (pa_cons (pe_callTy (call_listO rfl c_Row_iter c_Row_len hr (by decide) (by decide)) (by rfl) T.n_list (by decide +kernel) (pa_cons (pv 2) pa_nil)) (pa_cons (pe_ix ix_list (pv 1) pe_int (fun _ _ => rfl)) pa_nil)))))))) (pss_one (ps_ret pe_bl)) pss_nil)
      (pss_one (ps_ret (pc_c c_Lsame hr (by decide) rfl pass0 (pa_cons (pe_callTy (call_strO c_Row_str hr (by decide) pass0) (by rfl) T.n_str (by decide +kernel) (pa_cons (pv 2) pa_nil)) (pa_cons (pv 0) pa_nil)))))))))))), ?_⟩
    refine ⟨_, rfl, y, rfl, hl, fun i hi hj H0 d s0 hd => ?_, fun ok H0 d tl s0 hd htl => ?_⟩
    · refine ⟨rfl, _, rfl, y, rfl, hl, .inl ⟨i, hi, hj, fun H' d1 s1' hd1 => ⟨true, exm_self T.b_BadRow T.ic_BadRow T.t_BadRow T.s_BadRow, fun _ a0 ha0 => ?_, fun z => absurd z (by decide)⟩⟩⟩
      refine ⟨_, rfl, rfl, rfl, d1, _, rfl, upd_same, ?_⟩
      refine ⟨_, rfl, rfl, ⟨d1, _, rfl, upd_same⟩, _, _, true, rfl, fun u ru => ru, T.kt_cable, true, rfl, iteT ?_⟩
      refine ⟨_, rfl, rfl, ⟨d1, _, rfl, upd_same⟩, _, _, true, rfl, fun u ru => ru, T.kt_value, ?_⟩
      refine ⟨(by show 2 ≤ sizeLine; decide), fun pl hpl => ?_⟩
      have s2' := (s1'.trans (same_upd hd1)).trans (same_upd (o := .lst [.int (i : Nat), .bl true]) hpl)
      have s2 := s0.trans s2'
      have hd2 := s2' _ _ hd
      refine ⟨_, rfl, d, _, _, _, rfl, rfl, SqL.of hd2, rfl, rfl, _, rfl, iteDT rfl ?_⟩
      refine ⟨_, rfl, rfl, _, rfl, iteDT rfl ?_⟩
      refine ⟨_, rfl, _, rfl, d, _, _, _, rfl, rfl, SqL.of hd2, rfl, (by show 2 ≤ sizeLine; decide), fun z hz => ?_⟩
      have s3 := same_upd (o := .lst [.int (i : Nat), .bl true]) hz
      exact ⟨_, _, rfl, two_same (s3 _ _ upd_same) upd_same rfl rfl, q _ (s2.trans s3)⟩
    · refine ⟨rfl, _, rfl, y, rfl, hl, .inr ⟨ok, fun H1 r s1 hr0 => ?_⟩⟩
      obtain ⟨l5, l2⟩ := okR_lt ok
      have hd1 := s1 _ _ hd
      have htl1 := s1 _ _ htl
      have hln : ((rowOf y).map V.int).length = (rowOf y).length := List.length_map ..
      obtain ⟨dx, tp, hra, htp⟩ := id hr0
      refine ⟨_, rfl, d, _, _, _, rfl, rfl, SqL.of hd1, rfl, rfl, _, rfl, iteDF (by intro z; cases z) ?_⟩
      refine ⟨_, rfl, rfl, _, rfl, iteNe rfl ?_⟩
      refine ⟨_, rfl, r, dx, _, rfl, hra, true, rfl, iteF ?_⟩
      refine ⟨_, rfl, r, dx, _, rfl, hra, r, _, rfl, hr0, (rowOf y).length, rfl, by omega, ?_⟩
      refine ⟨_, rfl, d, _, _, _, rfl, rfl, SqL.of hd1, rfl, tl, _, rfl, .inl (SqL.of htl1), rfl, _, rfl, iteNe (by rw [hln]) ?_⟩
      refine ⟨_, rfl, r, dx, _, rfl, hra, fun u hu => ?_⟩
      have s4 := same_upd (o := .lst []) hu
      refine ⟨r, tp, dx, rowOf y, rfl, s4 _ _ hra, sqt_same htp s4, fun it hit => ?_⟩
      have s5 := same_upd (o := itO it tp 0) hit
      have nui : u ≠ it := fun w => by rw [← w, upd_same] at hit; cases hit
      have s45 := s4.trans s5
      refine ⟨it, tp, (rowOf y).map V.int, dx, _, rfl, upd_same, s45 _ _ hra, nui, r, _, rfl, hr0.same s45, (rowOf y).length, rfl, by omega, (rowOf y).length, rfl, by omega, sqt_same htp s45, upd_same, (by rw [upd_ne nui, upd_same]), fun H6 he6 hu6 => ?_⟩
      have s36 : Same H1 H6 := fun b o e => by
        have nb : b ≠ u := ne_of_none e hu
        have nb2 : b ≠ it := ne_of_none (s4 _ _ e) hit
        rw [he6 b nb2 nb]
        exact s45 _ _ e
      refine ⟨_, rfl, d, _, _, _, rfl, rfl, SqL.of (s36 _ _ hd1), rfl, u, tl, rowOf y, rfl, SqL.of hu6, SqL.of (s36 _ _ htl1), by omega, fun H7 s7 => ⟨true, rfl, iteF ?_⟩⟩
      have s17 := s36.trans s7
      refine ⟨_, rfl, r, dx, _, rfl, s17 _ _ hra, r, _, rfl, hr0.same s17, ok, fun H8 s8 => ?_⟩
      rw [rtx_rowOf ok]
      exact ⟨_, rfl, _, rfl, _, _, rfl, SameV.flat rfl, q _ ((s0.trans s1).trans (s17.trans s8))⟩
theorem ok_law {f : Addr} {fd : FuncData} (F : Fun K "law" "law" s_law f fd) (T : Txt P w K mg C_BadRow C_CableError C_Row A_LETTERS) (c_Lpool : Cal CX0 P w K mg base 1 "_law_pool" sp_Lpool) (c_Lcell : Cal CX0 P w K mg base 1 "_law_cell" (sp_Lcell K)) (c_Ltake : Cal CX0 P w K mg base 1 "_law_take" sp_Ltake) (c_Lletters : Cal CX0 P w K mg base 2 "_law_letters" sp_Lletters) (c_Lwritten : Cal CX0 P w K mg base 1 "_law_written" (sp_Lwritten K)) (c_Lsame : Cal CX0 P w K mg base 3 "_law_same" (sp_Lsame K 2)) (c_Row_str : Met CX0 P w K mg base 1 C_Row "__str__" (sp_Row_str K C_Row)) (c_Row : Mak (L2.CX P w) P w K mg base 1 "Row" C_Row (sp_Row_init K C_Row C_BadRow)) (c_Lreads : Cal CX0 P w K mg base 7 "_law_reads" sp_Lreads) (c_Lodd : Cal CX0 P w K mg base 2 "_law_odd" sp_LoddS) (c_Lbent : Cal CX0 P w K mg base 2 "_law_bent" sp_LbentN) (c_Lsigns : Cal CX0 P w K mg base 1 "_law_signs" sp_Lsigns) (c_Lany : Cal CX0 P w K mg base 2 "_law_any" sp_Lany) :
    FnOk P w K mg base CX0 10 f fd ["_law_script"] (sp_law K) := by
  refine F.ok sc_law (fun vs H Q E h => ?_) (fun cdv A outer s H vs Q E hr h => ?_)
  · obtain ⟨a, ns, rfl, _⟩ := h
    rfl
  · obtain ⟨a, ns, rfl, hS, hlen, q⟩ := h
    refine ⟨_, (pss_cons (ps_set (i := 1) sc_law.nd rfl (Or.inl rfl) (pc_c c_Lpool hr (by decide) rfl pass0 (pa_cons (pc_c c_Lcell hr (by decide) rfl pass0 (pa_cons (pv 0) (pa_cons pe_int pa_nil))) pa_nil)))
      (pss_cons (ps_set (i := 2) sc_law.nd rfl (Or.inl rfl) (pc_c c_Lpool hr (by decide) rfl pass0 (pa_cons (pc_c c_Lcell hr (by decide) rfl pass0 (pa_cons (pv 0) (pa_cons pe_int pa_nil))) pa_nil)))
      (pss_cons (ps_set (i := 3) sc_law.nd rfl (Or.inl rfl) (pe_op op_mod (pe_callTy call_int1 (by rfl) T.n_int (by decide +kernel) (pa_cons (pc_c c_Lcell hr (by decide) rfl pass0 (pa_cons (pv 0) (pa_cons pe_int pa_nil))) pa_nil)) pe_int))
      (pss_cons (ps_set (i := 4) sc_law.nd rfl (Or.inl rfl) (pc_c c_Ltake hr (by decide) rfl pass0 (pa_cons (pv 1) (pa_cons pe_int pa_nil))))
      (C8.pss_cut (ps_if (pt_cmpR op_eq (pv 3) pe_int (nomark _)) (pss_one (ps_set (i := 4) sc_law.nd rfl (Or.inl rfl) (pc_c c_Ltake hr (by decide) rfl pass0 (pa_cons (pv 1) (pa_cons pe_int pa_nil))))) (pss_one (ps_if (pt_cmpR op_eq (pv 3) pe_int (nomark _)) (pss_one (ps_set (i := 4) sc_law.nd rfl (Or.inl rfl) (pe_op op_add pe_int (pc_c c_Ltake hr (by decide) rfl pass0 (pa_cons (pv 1) (pa_cons pe_int pa_nil)))))) pss_nil)))
      (pss_cons (ps_set (i := 5) sc_law.nd rfl (Or.inl rfl) (pc_c c_Lletters hr (by decide) rfl pass0 (pa_cons (pv 1) (pa_cons (pv 4) pa_nil))))
      (pss_cons (ps_set (i := 6) sc_law.nd rfl (Or.inl rfl) (pc_c c_Lwritten hr (by decide) rfl pass0 (pa_cons (pv 5) pa_nil)))
      (C8.pss_cut (ps_if (PW.pt (pw_or (PW.pt (pw_and (pt_cmpR op_le (pv 4) pe_int (nomark _)) (pw_and1 (pt_not (pt_val (pc_c c_Lsame hr (by decide) rfl pass0 (pa_cons (pe_callTy (call_strO c_Row_str hr (by decide) pass0) (by rfl) T.n_str (by decide +kernel) (pa_cons (pc_mk c_Row hr (by decide) rfl passL (pa_cons (pe_callTy call_list_of (by rfl) T.n_list (by decide +kernel) (pa_cons (pv 5) pa_nil)) pa_nil)) pa_nil)) (pa_cons (pv 6) pa_nil)))))))) (pw_or1 (pt_not (pt_val (pc_c c_Lreads hr (by decide) rfl pass0 (pa_cons (pv 6) pa_nil))))))) (pss_one (ps_ret pe_bl)) pss_nil)
      (pss_cons (ps_set (i := 7) sc_law.nd rfl (Or.inl rfl) (pe_bm PySem.F.plainAttrs_str PySem.F.slot_str_split PySem.F.type_str_split mt_split (pv 6) (pa_cons pe_str pa_nil)))
      (pss_cons (ps_set (i := 8) sc_law.nd rfl (Or.inl rfl) pe_str)
      (C8.pss_cut (ps_if (PW.pt (pw_and (PW.pt (pw_or (pt_cmpR op_eq (pv 3) pe_int (nomark _)) (pw_or1 (pt_cmpR op_eq (pv 3) pe_int (nomark _))))) (pw_and1 (pt_cmpR op_eq (pe_op op_mod (pe_callTy call_int1 (by rfl) T.n_int (by decide +kernel) (pa_cons (pc_c c_Lcell hr (by decide) rfl pass0 (pa_cons (pv 0) (pa_cons pe_int pa_nil))) pa_nil)) pe_int) pe_int (nomark _))))) (pss_one (ps_ret pe_bl)) pss_nil)
      (C8.pss_cut (ps_if (PW.pt (pw_or (pt_cmpR op_eq (pv 3) pe_int (nomark _)) (pw_or (pt_cmpR op_eq (pv 3) pe_int (nomark _)) (pw_or1 (pt_cmpR op_eq (pv 3) pe_int (nomark _)))))) (pss_cons (ps_set (i := 9) sc_law.nd rfl (Or.inl rfl) (pc_c c_Ltake hr (by decide) rfl pass0 (pa_cons (pv 2) (pa_cons (pe_callB call_len_seq (by rfl) T.n_len PySem.boot_len (pa_cons (pv 7) pa_nil)) pa_nil))))
      (pss_cons (ps_asg (pc_c c_Lodd hr (by decide) rfl pass0 (pa_cons (pv 2) pa_nil)) (pg_sub (pv 7) (pv 9) set_list))
      (pss_one (ps_set (i := 6) sc_law.nd rfl (Or.inl rfl) (pe_bm PySem.F.plainAttrs_str PySem.F.slot_str_join PySem.F.type_str_join mt_join pe_str (pa_cons (pv 7) pa_nil)))))) (pss_one (ps_if (pt_cmpR op_eq (pv 3) pe_int (nomark _)) (pss_cons (ps_for PassesOwn.never rfl (pi_range1 (by rfl) T.n_range (pa_cons (pe_callB call_len_seq (by rfl) T.n_len PySem.boot_len (pa_cons (pv 7) pa_nil)) pa_nil)) (pg_name (i := 10) sc_law.nd rfl (Or.inl rfl))
        (pss_one (ps_if (pt_cmpR op_eq (pc_c c_Ltake hr (by decide) rfl pass0 (pa_cons (pv 2) (pa_cons pe_int pa_nil))) pe_int (nomark _)) (pss_one (ps_asg (pc_c c_Lodd hr (by decide) rfl pass0 (pa_cons (pv 2) pa_nil)) (pg_sub (pv 7) (pv 10) set_list))) pss_nil)))
      (pss_one (ps_set (i := 6) sc_law.nd rfl (Or.inl rfl) (pe_bm PySem.F.plainAttrs_str PySem.F.slot_str_join PySem.F.type_str_join mt_join pe_str (pa_cons (pv 7) pa_nil))))) (pss_one (ps_if (pt_cmpR op_eq (pv 3) pe_int (nomark _)) (pss_one (ps_set (i := 6) sc_law.nd rfl (Or.inl rfl) (pc_c c_Lbent hr (by decide) rfl pass0 (pa_cons (pv 2) (pa_cons (pv 6) (pa_cons (pv 8) pa_nil)))))) (pss_one (ps_if (pt_cmpR op_eq (pv 3) pe_int (nomark _)) (pss_one (ps_set (i := 6) sc_law.nd rfl (Or.inl rfl) (pc_c c_Lbent hr (by decide) rfl pass0 (pa_cons (pv 2) (pa_cons (pv 6) (pa_cons (pc_c0 c_Lsigns hr (by decide) rfl pass0) pa_nil)))))) (pss_one (ps_if (pt_cmpR op_eq (pv 3) pe_int (nomark _)) (pss_one (ps_set (i := 6) sc_law.nd rfl (Or.inl rfl) (pc_c c_Lany hr (by decide) rfl pass0 (pa_cons (pv 2) (pa_cons (pv 8) pa_nil))))) (pss_one (ps_if (pt_cmpR op_eq (pv 3) pe_int (nomark _)) (pss_one (ps_set (i := 6) sc_law.nd rfl (Or.inl rfl) (pc_c c_Lany hr (by decide) rfl pass0 (pa_cons (pv 2) (pa_cons (pc_c0 c_Lsigns hr (by decide) rfl pass0) pa_nil))))) (pss_one (ps_if (pt_cmpR op_eq (pv 3) pe_int (nomark _)) (pss_cons (ps_set (i := 11) sc_law.nd rfl (Or.inl rfl) (pe_lst (pa_cons pe_str (pa_cons pe_str (pa_cons pe_str (pa_cons pe_str (pa_cons pe_str (pa_cons pe_str (pa_cons pe_str (pa_cons pe_str (pa_cons pe_str (pa_cons pe_str pa_nil))))))))))))
      (pss_one (ps_set (i := 6) sc_law.nd rfl (Or.inl rfl) (pe_ix ix_list (pv 11) (pc_c c_Ltake hr (by decide) rfl pass0 (pa_cons (pv 2) (pa_cons pe_int pa_nil))) (fun _ _ => rfl))))) pss_nil)))))))))))))
      (pss_one (ps_ret (pc_c c_Lreads hr (by decide) rfl pass0 (pa_cons (pv 6) pa_nil)))))))))))))))), ?_⟩
    refine ⟨_, rfl, a, ns, 0, rfl, hS, fun c0 _ => ⟨c0, rfl, fun p H1 np s1 hp => ?_⟩⟩
    refine ⟨_, rfl, a, ns, 1, rfl, s1.seq hS, fun c1 _ => ⟨c1, rfl, fun o H2 no s2 ho => ?_⟩⟩
    have hp2 := hp.same s2
    have nop := pool_ne hp no
    have S2 := s1.trans s2
    refine ⟨_, rfl, a, ns, 2, rfl, S2.seq hS, fun c2 _ => .inl ⟨_, rfl, _, _, rfl, rfl, (by show (0 : Int) < 10; decide), ?_⟩⟩
    refine ⟨_, rfl, p, 41, rfl, hp2, by decide, by decide, fun H3 z0 k3 p3 z00 z01 => ?_⟩
    refine ⟨fun σ' H' => ∃ z : Nat, σ' = [some (.ref a), some (.ref p), some (.ref o), some (.int (c2 % 10)), some (.int (z : Nat)), none, none, none, none, none, none, none] ∧ z ≤ 2500 ∧ Kp p H2 H' ∧ PoolAt H' p, ?_, ?_⟩
    · refine ⟨_, rfl, rfl, _, rfl, iteB (fun _ => ?_) (fun _ => ⟨_, rfl, rfl, _, rfl, iteB (fun _ => ?_) (fun _ => ?_)⟩)⟩
      · exact ⟨_, rfl, p, 2004, rfl, p3, by decide, by decide, fun H4 r k4 p4 r0 r1 => ⟨r.toNat, by rw [Int.toNat_of_nonneg r0]; rfl, by omega, k3.trans k4, p4⟩⟩
      · exact ⟨_, rfl, p, 7, rfl, p3, by decide, by decide, fun H4 r k4 p4 r0 r1 => ⟨_, _, rfl, rfl, (1997 + r).toNat, by rw [Int.toNat_of_nonneg (by omega)]; rfl, by omega, k3.trans k4, p4⟩⟩
      · exact ⟨z0.toNat, by rw [Int.toNat_of_nonneg z00]; rfl, by omega, k3, p3⟩
    rintro σ' H4 ⟨z, rfl, hz, k4, p4⟩
    refine ⟨_, rfl, _, rfl, p, z, rfl, hz, p4, fun H5 D ts k5 p5 nD hD hts => ?_⟩
    obtain ⟨htl, l5⟩ := hts
    have k25 := k4.trans k5
    have o5 : PoolAt H5 o := by
      obtain ⟨x, y, w, e⟩ := ho
      exact ⟨x, y, w, k25 _ _ nop e⟩
    have rl := rtx_len l5 (by omega)
    refine ⟨_, rfl, D, ts, rfl, SqL.of hD, l5, by omega, fun H6 s6 => ?_⟩
    have hD6 := s6 _ _ hD
    have o6 := o5.same s6
    have S6 : Same H H6 := (Kp.same s1 ((Kp.of s2).trans k25) np).trans s6
    have e1 : (" " : Str).length = 1 := by decide +kernel
    refine ⟨fun σ' H' => σ' = [some (.ref a), some (.ref p), some (.ref o), some (.int (c2 % 10)), some (.int (z : Nat)), some (.ref D), some (.str (rtx ts)), none, none, none, none, none] ∧ Same H6 H', ?_, ?_⟩
    · refine ⟨_, rfl, _, _, rfl, rfl, _, rfl, iteB (fun hc => ?_) (fun hc => iteF ⟨_, rfl, _, rfl, by omega, fun H7 s7 => ⟨true, rfl, iteF ⟨rfl, s7⟩⟩⟩)⟩
      have hc' := of_decide_eq_true hc
      refine ⟨_, rfl, D, _, rfl, .inl (SqL.of hD6), fun g hg => ?_⟩
      have sg := same_upd (o := .lst (ts.map V.int)) hg
      intro x dx nx ndx ne
      have f1 : Same (upd H6 g (.lst (ts.map V.int))) (upd (upd (upd H6 g (.lst (ts.map V.int))) dx (.own x)) x (.ins C_Row dx [])) := mk_same nx ndx Kp.refl
      have ok : OkR ts := okR_of l5 (by omega)
      refine ⟨x, dx, g, false, ts, rfl, upd_same, SqL.of (f1 _ _ upd_same), by omega, .inr ⟨ok, fun J kJ hr => ⟨rfl, ?_⟩⟩⟩
      have sJ : Same H6 J := sg.trans (mk_same nx ndx kJ)
      obtain ⟨dy, tp, hra, htp⟩ := id hr
      refine ⟨x, dy, _, rfl, hra, x, ts, rfl, hr, ok, fun K1 s3 => ⟨_, rfl, _, rfl, _, _, rfl, SameV.flat rfl, true, rfl, iteF ?_⟩⟩
      exact ⟨_, rfl, _, rfl, by omega, fun H7 s7 => ⟨true, rfl, iteF ⟨rfl, (sJ.trans s3).trans s7⟩⟩⟩
    rintro σ' H7 ⟨rfl, s7⟩
    have o7 := o6.same s7
    have hpb := pb_rtx l5 (by omega)
    have hpos := split_pos (rtx ts)
    refine ⟨_, rfl, rfl, _, _, rfl, rfl, rfl, big_le (by omega), fun P hP => ?_⟩
    generalize Txt.split (rtx ts) " " = parts at hpb hpos hP ⊢
    have hP8 : (upd H7 P (.lst (parts.map V.str))) P = some (.lst (parts.map V.str)) := upd_same
    have s8 := same_upd (o := .lst (parts.map V.str)) hP
    have nPo := pool_ne o7 hP
    have o8 := o7.same s8
    have S8 := (S6.trans s7).trans s8
    generalize upd H7 P (.lst (parts.map V.str)) = H8 at hP8 s8 o8 S8 ⊢
    have hpl : (parts.map V.str).length = parts.length := List.length_map ..
    have hpm := hpb.2
    have nb : ∀ r : Int, 0 ≤ r → r ≤ 100000 → r.natAbs < 2 ^ 300 := fun r h0 h1 => Nat.lt_of_lt_of_le (by omega : r.natAbs < 2 ^ 20) (by decide)
    refine ⟨fun σ' H' => σ' = [some (.ref a), some (.ref p), some (.ref o), some (.int (c2 % 10)), some (.int (z : Nat)), some (.ref D), some (.str (rtx ts)), some (.ref P), some (.str "01234 56-+,emptyE"), none, none, none] ∧ H' = H8, ?_, ?_⟩
    · refine ⟨_, rfl, rfl, _, rfl, iteB (fun _ => iteT ?_) (fun _ => ⟨_, rfl, rfl, _, rfl, iteB (fun _ => ?_) (fun _ => iteF ⟨rfl, rfl⟩)⟩)⟩
      · exact ⟨_, rfl, a, ns, 3, rfl, S8.seq hS, fun c3 _ => .inl ⟨_, rfl, _, _, rfl, rfl, (by show (0 : Int) < 2; decide), rfl, _, rfl, iteB (fun _ => q _) (fun _ => ⟨rfl, rfl⟩)⟩⟩
      · exact ⟨_, rfl, a, ns, 3, rfl, S8.seq hS, fun c3 _ => .inl ⟨_, rfl, _, _, rfl, rfl, (by show (0 : Int) < 2; decide), rfl, _, rfl, iteB (fun _ => q _) (fun _ => ⟨rfl, rfl⟩)⟩⟩
    rintro σ' H9 ⟨rfl, e9⟩
    have hP9 : H9 P = some (.lst (parts.map V.str)) := by rw [e9]; exact hP8
    have o9 : PoolAt H9 o := by rw [e9]; exact o8
    clear e9
    refine ⟨fun σ' H' => ∃ (w : Str) (v7 v8 v9 v10 v11 : Option V), σ' = [some (.ref a), some (.ref p), some (.ref o), some (.int (c2 % 10)), some (.int (z : Nat)), some (.ref D), some (.str w), v7, v8, v9, v10, v11] ∧ w.length ≤ 20000, ?_, ?_⟩
    · have gl : ("01234 56-+,emptyE" : Str).length = 17 := by decide +kernel
      refine ⟨_, rfl, rfl, _, rfl, iteB (fun _ => ?_) (fun _ => ⟨_, rfl, rfl, _, rfl, iteB (fun _ => ?_) (fun _ => ⟨_, rfl, rfl, _, rfl, iteB (fun _ => ?_) (fun _ => ⟨_, rfl, rfl, _, rfl, iteB (fun _ => ?_) (fun _ => ⟨_, rfl, rfl, _, rfl, iteB (fun _ => ?_) (fun _ => ⟨_, rfl, rfl, _, rfl, iteB (fun _ => ?_) (fun _ => ⟨_, rfl, rfl, _, rfl, iteB (fun _ => ?_) (fun _ => ⟨_, rfl, rfl, _, rfl, iteB (fun _ => ?_) (fun _ => ⟨_, rfl, rfl, _, rfl, iteB (fun _ => ?_) (fun _ => ?_)⟩)⟩)⟩)⟩)⟩)⟩)⟩)⟩)⟩
      iterate 3
        · refine ⟨_, rfl, _, rfl, P, _, rfl, .inl (SqL.of hP9), o, _, rfl, o9, by rw [hpl]; omega, nb _ (by omega) (by rw [hpl]; omega), fun HA r kA oA r0 r1 => ?_⟩
          have hPA := kA _ _ nPo hP9
          rw [hpl] at r1
          refine ⟨_, rfl, o, rfl, oA, fun HB w kB oB hw => ⟨_, rfl, _, rfl, P, _, r, r.toNat, rfl, rfl, kB _ _ nPo hPA, ?_, ?_⟩⟩
          · have e := ixN_nat (n := (parts.map V.str).length) (k := r.toNat) (by rw [hpl]; omega)
            rw [Int.toNat_of_nonneg r0] at e
            exact e
          · rw [← List.map_set]
            have pbs := hpb.set hw r.toNat
            have pj := pbs.join
            exact ⟨rfl, _, rfl, _, P, _, rfl, rfl, .inl (SqL.of upd_same), by omega, _, _, _, _, _, _, rfl, by omega⟩
      · refine ⟨_, rfl, P, _, rfl, .inl (SqL.of hP9), _, rfl, by omega, by omega, for_range (lo := 0) (n := (((parts.map V.str).length : Nat) : Int).toNat) (fun i σ H' => ∃ (v : Option V) (ps : List Str), σ = [some (.ref a), some (.ref p), some (.ref o), some (.int (c2 % 10)), some (.int (z : Nat)), some (.ref D), some (.str (rtx ts)), some (.ref P), some (.str "01234 56-+,emptyE"), none, v, none] ∧ H' P = some (.lst (ps.map V.str)) ∧ PB ps ∧ ps.length = parts.length ∧ PoolAt H' o)
          ⟨none, parts, rfl, hP9, hpb, rfl, o9⟩ ?_ ?_⟩
        · rintro i σ H' hi ⟨v, ps, rfl, hPi, pbi, hli, oi⟩
          have hi' : i < ps.length := by omega
          refine ⟨_, rfl, o, 4, rfl, oi, by decide, by decide, fun HA r kA oA r0 r1 => ⟨rfl, _, rfl, iteB (fun _ => ?_) (fun _ => ⟨_, ps, rfl, kA _ _ nPo hPi, pbi, hli, oA⟩)⟩⟩
          refine ⟨_, rfl, o, rfl, oA, fun HB w kB oB hw => ⟨_, rfl, _, rfl, P, _, _, i, rfl, rfl, kB _ _ nPo (kA _ _ nPo hPi), by rw [Int.zero_add]; exact ixN_nat (by rw [List.length_map]; exact hi'), ?_⟩⟩
          exact ⟨_, ps.set i w, rfl, by rw [upd_same, List.map_set], pbi.set hw i, by rw [List.length_set]; exact hli, pool_at oB nPo⟩
        · rintro σ H' ⟨v, ps, rfl, hPi, pbi, hli, oi⟩
          have pj := pbi.join
          exact ⟨rfl, _, rfl, _, P, _, rfl, rfl, .inl (SqL.of hPi), by omega, _, _, _, _, _, _, rfl, by omega⟩
      · exact ⟨_, rfl, _, rfl, _, rfl, o, _, _, rfl, o9, by rw [gl]; decide, by rw [gl]; decide, by omega, fun H' w k o' hw => ⟨w, _, _, _, _, _, rfl, by omega⟩⟩
      · exact ⟨_, rfl, _, rfl, rfl, o, _, _, rfl, o9, by rw [sgns_len]; decide, by rw [sgns_len]; decide, by omega, fun H' w k o' hw => ⟨w, _, _, _, _, _, rfl, by omega⟩⟩
      · exact ⟨_, rfl, _, rfl, o, _, rfl, o9, by rw [gl]; decide, by rw [gl]; decide, fun H' w k hw => ⟨w, _, _, _, _, _, rfl, by omega⟩⟩
      · exact ⟨_, rfl, rfl, o, _, rfl, o9, by rw [sgns_len]; decide, by rw [sgns_len]; decide, fun H' w k hw => ⟨w, _, _, _, _, _, rfl, by omega⟩⟩
      · refine ⟨(by show 10 ≤ sizeLine; decide), fun l hl => ?_⟩
        have sl := same_upd (o := .lst (textsL.map V.str)) hl
        have n1 := pool_ne o9 hl
        refine ⟨_, rfl, _, rfl, o, 10, rfl, o9.same sl, by decide, by decide, fun HA r kA oA r0 r1 => ?_⟩
        obtain ⟨k, hk, hat⟩ := str_at (ks := textsL) r0 r1
        have := texts_len k hk
        exact ⟨l, _, _, _, rfl, rfl, SqL.of (kA _ _ n1 upd_same), hat, k, _, _, _, _, _, rfl, by omega⟩
      · exact ⟨_, _, _, _, _, _, rfl, by omega⟩
    rintro σ' HX ⟨w, v7, v8, v9, v10, v11, rfl, hw⟩
    exact ⟨_, rfl, w, rfl, hw, fun HY _ => q _⟩
end
theorem all_mk {l : PySem.W.OpenLaw} {w : World} {K : PySem.W.Frag} {h : Heap} {mg : Str → Option Value} {fa C_BadRow C_CableError C_Row A_LETTERS : Addr} {nmBadRow qqBadRow msBadRow flBadRow : Str} {NBadRow fIBadRow caBadRow ccBadRow : Addr} {bsBadRow bmBadRow sbBadRow : List Value} {snBadRow : List Str} {abBadRow : Bool} {coBadRow : Option Bool} {daBadRow odBadRow anBadRow cdBadRow clBadRow : Option Addr} {k0BadRow k1BadRow k2BadRow k3BadRow k5BadRow : Option Value} {ocBadRow doBadRow pmBadRow ctBadRow cvBadRow ceBadRow : Value} {osBadRow csBadRow cxBadRow : Array (Option Value)} {vsBadRow : Array Value} {tfBadRow : Tok} {p1BadRow p2BadRow a1BadRow a2BadRow a3BadRow a4BadRow a5BadRow a6BadRow a7BadRow a8BadRow a9BadRow b1BadRow b2BadRow b3BadRow b4BadRow : Pos} {tk_Row_MOST : Tok} {uLETTERS0 uLETTERS1 uLETTERS2 uLETTERS3 uLETTERS4 : Tok} {nLETTERS : Nat} {ddLETTERS : Option Addr} {slLETTERS : Array (Option Value)} {ti__NO_LETTER : Tok} {f_uletter_of : Addr} {od_uletter_of an_uletter_of : Option Addr} {sl_uletter_of : Array (Option Value)} {oc_uletter_of kV_uletter_of dc_uletter_of pm_uletter_of cd_uletter_of ct_uletter_of : Value} {f_Row_init : Addr} {od_Row_init an_Row_init : Option Addr} {sl_Row_init : Array (Option Value)} {oc_Row_init kV_Row_init dc_Row_init pm_Row_init cd_Row_init ct_Row_init : Value} {f_Row_parse : Addr} {od_Row_parse an_Row_parse : Option Addr} {sl_Row_parse : Array (Option Value)} {oc_Row_parse kV_Row_parse dc_Row_parse pm_Row_parse cd_Row_parse ct_Row_parse : Value} {p_Row_parse : Addr} {rp_Row_parse : List Value} {f_Row_str : Addr} {od_Row_str an_Row_str : Option Addr} {sl_Row_str : Array (Option Value)} {oc_Row_str kV_Row_str dc_Row_str pm_Row_str cd_Row_str ct_Row_str : Value} {f_Row_len : Addr} {od_Row_len an_Row_len : Option Addr} {sl_Row_len : Array (Option Value)} {oc_Row_len kV_Row_len dc_Row_len pm_Row_len cd_Row_len ct_Row_len : Value} {f_Row_iter : Addr} {od_Row_iter an_Row_iter : Option Addr} {sl_Row_iter : Array (Option Value)} {oc_Row_iter kV_Row_iter dc_Row_iter pm_Row_iter cd_Row_iter ct_Row_iter : Value} {f_Lcell : Addr} {od_Lcell an_Lcell : Option Addr} {sl_Lcell : Array (Option Value)} {oc_Lcell kV_Lcell dc_Lcell pm_Lcell cd_Lcell ct_Lcell : Value} {f_Lpool : Addr} {od_Lpool an_Lpool : Option Addr} {sl_Lpool : Array (Option Value)} {oc_Lpool kV_Lpool dc_Lpool pm_Lpool cd_Lpool ct_Lpool : Value} {f_Ltake : Addr} {od_Ltake an_Ltake : Option Addr} {sl_Ltake : Array (Option Value)} {oc_Ltake kV_Ltake dc_Ltake pm_Ltake cd_Ltake ct_Ltake : Value} {f_Lsame : Addr} {od_Lsame an_Lsame : Option Addr} {sl_Lsame : Array (Option Value)} {oc_Lsame kV_Lsame dc_Lsame pm_Lsame cd_Lsame ct_Lsame : Value} {f_Lletters : Addr} {od_Lletters an_Lletters : Option Addr} {sl_Lletters : Array (Option Value)} {oc_Lletters kV_Lletters dc_Lletters pm_Lletters cd_Lletters ct_Lletters : Value} {f_Lsigns : Addr} {od_Lsigns an_Lsigns : Option Addr} {sl_Lsigns : Array (Option Value)} {oc_Lsigns kV_Lsigns dc_Lsigns pm_Lsigns cd_Lsigns ct_Lsigns : Value} {f_Lbent : Addr} {od_Lbent an_Lbent : Option Addr} {sl_Lbent : Array (Option Value)} {oc_Lbent kV_Lbent dc_Lbent pm_Lbent cd_Lbent ct_Lbent : Value} {f_Lany : Addr} {od_Lany an_Lany : Option Addr} {sl_Lany : Array (Option Value)} {oc_Lany kV_Lany dc_Lany pm_Lany cd_Lany ct_Lany : Value} {f_Lodd : Addr} {od_Lodd an_Lodd : Option Addr} {sl_Lodd : Array (Option Value)} {oc_Lodd kV_Lodd dc_Lodd pm_Lodd cd_Lodd ct_Lodd : Value} {f_Lwritten : Addr} {od_Lwritten an_Lwritten : Option Addr} {sl_Lwritten : Array (Option Value)} {oc_Lwritten kV_Lwritten dc_Lwritten pm_Lwritten cd_Lwritten ct_Lwritten : Value} {f_Lreading : Addr} {od_Lreading an_Lreading : Option Addr} {sl_Lreading : Array (Option Value)} {oc_Lreading kV_Lreading dc_Lreading pm_Lreading cd_Lreading ct_Lreading : Value} {f_Lletters_are : Addr} {od_Lletters_are an_Lletters_are : Option Addr} {sl_Lletters_are : Array (Option Value)} {oc_Lletters_are kV_Lletters_are dc_Lletters_are pm_Lletters_are cd_Lletters_are ct_Lletters_are : Value} {f_Lreads : Addr} {od_Lreads an_Lreads : Option Addr} {sl_Lreads : Array (Option Value)} {oc_Lreads kV_Lreads dc_Lreads pm_Lreads cd_Lreads ct_Lreads : Value} {f_law : Addr} {od_law an_law : Option Addr} {sl_law : Array (Option Value)} {oc_law kV_law dc_law pm_law cd_law ct_law : Value}
    (X : K.In h) (G : h.Ns mainGlobals mg) (hfa : mg "law" = some (.ref fa))
    (g_BadRow : PySem.W.nsIn K mainGlobals "BadRow" = some (some (.ref C_BadRow)))
    (xl_BadRow : K.lookup C_BadRow = some (excClassObj nmBadRow qqBadRow C_BadRow NBadRow bsBadRow bmBadRow true snBadRow sbBadRow abBadRow coBadRow daBadRow k0BadRow k1BadRow k2BadRow k3BadRow k5BadRow "ValueError.__new__"))
    (rf_BadRow : PySem.HandSPX.refsVE bmBadRow = true)
    (su_BadRow : PySem.W.ks_superIn K C_BadRow C_BadRow "__init__" = some (some (.builtin "ValueError.__init__")))
    (xa_BadRow : PySem.W.findIn K (.ref C_BadRow) "__setattr__" = some (some (.builtin "object.__setattr__")))
    (xg_BadRow : PySem.W.findIn K (.ref C_BadRow) "__getattribute__" = some (some (.builtin "BaseException.__getattribute__")))
    (xh_BadRow : PySem.W.findIn K (.ref C_BadRow) "__getattr__" = some none)
    (xp_BadRow : PySem.W.findIn K (.ref C_BadRow) "place" = some none)
    (xi_BadRow : PySem.W.findIn K (.ref C_BadRow) "__init__" = some (some (.ref fIBadRow)))
    (xf_BadRow : PySem.W.typeIn K (.ref fIBadRow) = some (.type "function"))
    (xk_BadRow : PySem.W.keepIn K (.ref C_BadRow) = true)
    (xb_BadRow : PySem.W.subIn K (.ref C_BadRow) (.type "BaseException") = some true)
    (xv_BadRow : PySem.W.subIn K (.ref C_BadRow) (.type "ValueError") = some true)
    (xm_BadRow : PySem.W.mroIn K C_BadRow (.ref C_BadRow) = some true)
    (xt_BadRow : PySem.W.typeIn K (.ref C_BadRow) = some (.type "type"))
    (xd_BadRow : PySem.W.hasDictIn K C_BadRow = true)
    (xo_BadRow : PySem.W.nsIn K PySem.cStatics "thirdparty.any" = some none)
    (xs_BadRow : PySem.W.nsIn K mainGlobals "super" = some none)
    (hx_BadRow : (l.prog.main.scope.names.lookup ("super" : Str)).isSome = false)
    (lf_BadRow : K.lookup fIBadRow = some ⟨ocBadRow, odBadRow, .func (PySem.W.ksFn "__init__" "BadRow.__init__" (PySem.ErrX.eA p1BadRow p2BadRow) (PySem.ErrX.eB msBadRow a1BadRow a2BadRow a3BadRow a4BadRow a5BadRow a6BadRow a7BadRow a8BadRow a9BadRow b1BadRow b2BadRow b3BadRow b4BadRow) PySem.ErrX.eS .none .none doBadRow pmBadRow anBadRow (.ref caBadRow) ctBadRow ccBadRow), osBadRow⟩)
    (lc_BadRow : PySem.W.codeIn K (.ref caBadRow) "BadRow.__init__" = true)
    (hl_BadRow : msBadRow.length ≤ 1000)
    (lo_BadRow : K.lookup caBadRow = some ⟨cvBadRow, cdBadRow, .fields vsBadRow, csBadRow⟩)
    (hv_BadRow : vsBadRow[2]? = some (.str flBadRow tfBadRow))
    (hf_BadRow : ((l.prog.main.file : Str) == flBadRow) = true)
    (le_BadRow : K.lookup ccBadRow = some ⟨ceBadRow, clBadRow, .cell (some (.ref C_BadRow)), cxBadRow⟩)
    (he_BadRow : ∃ pl : Env → Sem Bool, ∀ env : Env, eval (PySem.ErrX.eC msBadRow a1BadRow a2BadRow a3BadRow a4BadRow a5BadRow a6BadRow a7BadRow a8BadRow) env = (do let ov ← attributeBase (.Call (.Name "super" a1BadRow) [] [] a2BadRow) "__init__" env (eval (.Call (.Name "super" a1BadRow) [] [] a2BadRow) env); standAt a3BadRow.atName; let (f, first) ← holding [ov] (getMethod ov "__init__" (pl env)); callWith a8BadRow f first (backTo a8BadRow (starEach [.JoinedStr [.Constant (.str msBadRow) 0 a4BadRow, .FormattedValue (.Name "place" a5BadRow) (-1) none a6BadRow] a7BadRow] env)) []))
    (k_BadRow : PySem.W.keepIn K (.ref C_BadRow) = true)
    (b_BadRow : PySem.W.subIn K (.ref C_BadRow) (.type "BaseException") = some true)
    (t_BadRow : PySem.W.typeIn K (.ref C_BadRow) = some (.type "type"))
    (ic_BadRow : PySem.W.isClsIn K C_BadRow = true)
    (s_BadRow : PySem.W.subIn K (.ref C_BadRow) (.ref C_BadRow) = some true)
    (eg_BadRow : PySem.W.findIn K (.ref C_BadRow) "__getattribute__" = some (some (.builtin "BaseException.__getattribute__")))
    (ek_BadRow : PySem.W.findIn K (.ref C_BadRow) "__getattr__" = some none)
    (ed_BadRow : PySem.W.hasDictIn K C_BadRow = true)
    (ea_BadRow : PySem.W.findIn K (.ref C_BadRow) "__class__" = some (some (.builtin "object.__class__")))
    (en_BadRow : PySem.W.specialIn K (.builtin "object.__class__") "__get__" = some (some (.builtin "getset_descriptor.__get__")))
    (et_BadRow : PySem.W.takesIn K (.builtin "object.__class__") = some true)
    (em_BadRow : PySem.W.mroIn K C_BadRow (.type "object") = some true)
    (g_CableError : PySem.W.nsIn K mainGlobals "CableError" = some (some (.ref C_CableError)))
    (g_Row : PySem.W.nsIn K mainGlobals "Row" = some (some (.ref C_Row)))
    (pg_Row : PySem.W.plainGet K C_Row Str.empty = true)
    (hd_Row : PySem.W.hasDictIn K C_Row = true)
    (po_Row : PySem.W.plainOver K C_Row = true)
    (sa_Row : PySem.W.findIn K (.ref C_Row) "__setattr__" = some (some (.builtin "object.__setattr__")))
    (cna_Row_MOST : PySem.W.findIn K (.ref C_Row) "MOST" = some (some (.int 2000 tk_Row_MOST)))
    (cnb_Row_MOST : PySem.W.specialIn K (.int 2000 tk_Row_MOST) "__get__" = some none)
    (nf_Row_letters : PySem.W.findIn K (.ref C_Row) "letters" = some none)
    (racr_Row : PySem.W.nsIn K PySem.cStatics "thirdparty.any" = some none)
    (rbcr_Row : PySem.W.typeIn K (.ref C_Row) = some (.type "type"))
    (rccr_Row : PySem.W.findIn K (.type "type") "__getattribute__" = some (some (.builtin "type.__getattribute__")))
    (rdcr_Row : PySem.W.subIn K (.type "type") (.type "type") = some true)
    (recr_Row : PySem.W.specialIn K (.ref C_Row) "__getattribute__" = some (some (.builtin "type.__getattribute__")))
    (ha_Row : PySem.W.findIn K (.ref C_Row) "__class__" = some (some (.builtin "object.__class__")))
    (hn_Row : PySem.W.specialIn K (.builtin "object.__class__") "__get__" = some (some (.builtin "getset_descriptor.__get__")))
    (ht_Row : PySem.W.takesIn K (.builtin "object.__class__") = some true)
    (hm_Row : PySem.W.mroIn K C_Row (.type "object") = some true)
    (me_Row : PySem.W.kitOne K (.ref C_Row) (.ref C_Row) = some true)
    (c_LETTERS : PySem.W.nsIn K mainGlobals "LETTERS" = some (some (.ref A_LETTERS)))
    (l_LETTERS : K.lookup A_LETTERS = some ⟨.type "tuple", ddLETTERS, .seq #[.int 0 uLETTERS0, .int 1 uLETTERS1, .int 2 uLETTERS2, .int 3 uLETTERS3, .int 4 uLETTERS4] nLETTERS, slLETTERS⟩)
    (ci__NO_LETTER : PySem.W.nsIn K mainGlobals "_NO_LETTER" = some (some (.int (-1) ti__NO_LETTER)))
    (n_str : PySem.W.nsIn K mainGlobals "str" = some none)
    (n_enumerate : PySem.W.nsIn K mainGlobals "enumerate" = some none)
    (n_tuple : PySem.W.nsIn K mainGlobals "tuple" = some none)
    (n_len : PySem.W.nsIn K mainGlobals "len" = some none)
    (n_iter : PySem.W.nsIn K mainGlobals "iter" = some none)
    (n_int : PySem.W.nsIn K mainGlobals "int" = some none)
    (n_abs : PySem.W.nsIn K mainGlobals "abs" = some none)
    (n_isinstance : PySem.W.nsIn K mainGlobals "isinstance" = some none)
    (n_bool : PySem.W.nsIn K mainGlobals "bool" = some none)
    (n_list : PySem.W.nsIn K mainGlobals "list" = some none)
    (n_range : PySem.W.nsIn K mainGlobals "range" = some none)
    (n_ValueError : PySem.W.nsIn K mainGlobals "ValueError" = some none)
    (kt_cable : PySem.W.kitOne K (.ref C_BadRow) (.ref C_CableError) = some true)
    (kt_value : PySem.W.kitOne K (.ref C_BadRow) (.type "ValueError") = some true)
    (mk_Row : PySem.W.makesIn K C_Row = true)
    (mkk_Row : PySem.W.keepIn K (.ref C_Row) = true)
    (a_uletter_of : PySem.W.nsIn K mainGlobals "_letter_of" = some (some (.ref f_uletter_of)))
    (l_uletter_of : K.lookup f_uletter_of = some ⟨oc_uletter_of, od_uletter_of, .func (PySem.W.fnOf "_letter_of" "_letter_of" (defArgs s_uletter_of) (defBody s_uletter_of) (defScope s_uletter_of) .none kV_uletter_of dc_uletter_of pm_uletter_of an_uletter_of cd_uletter_of ct_uletter_of), sl_uletter_of⟩)
    (q_uletter_of : PySem.W.codeIn K cd_uletter_of "_letter_of" = true)
    (k_uletter_of : PySem.W.keepIn K (.ref f_uletter_of) = true)
    (a_Row_init : PySem.W.findIn K (.ref C_Row) "__init__" = some (some (.ref f_Row_init)))
    (j_Row_init : PySem.W.isFn K (.ref f_Row_init) = true)
    (l_Row_init : K.lookup f_Row_init = some ⟨oc_Row_init, od_Row_init, .func (PySem.W.fnOf "__init__" "Row.__init__" (defArgs s_Row_init) (defBody s_Row_init) (defScope s_Row_init) .none kV_Row_init dc_Row_init pm_Row_init an_Row_init cd_Row_init ct_Row_init), sl_Row_init⟩)
    (q_Row_init : PySem.W.codeIn K cd_Row_init "Row.__init__" = true)
    (k_Row_init : PySem.W.keepIn K (.ref f_Row_init) = true)
    (pt_Row_parse : PySem.W.findIn K (.type "type") "parse" = some none)
    (pa_Row_parse : PySem.W.findIn K (.ref C_Row) "parse" = some (some (.ref p_Row_parse)))
    (pty_Row_parse : PySem.W.typeIn K (.ref p_Row_parse) = some (.type "classmethod"))
    (pgt_Row_parse : PySem.W.specialIn K (.ref p_Row_parse) "__get__" = some (some (.builtin "classmethod.__get__")))
    (prc_Row_parse : PySem.W.recIn K p_Row_parse "classmethod" = some (.ref f_Row_parse :: rp_Row_parse))
    (l_Row_parse : K.lookup f_Row_parse = some ⟨oc_Row_parse, od_Row_parse, .func (PySem.W.fnOf "parse" "Row.parse" (defArgs s_Row_parse) (defBody s_Row_parse) (defScope s_Row_parse) .none kV_Row_parse dc_Row_parse pm_Row_parse an_Row_parse cd_Row_parse ct_Row_parse), sl_Row_parse⟩)
    (q_Row_parse : PySem.W.codeIn K cd_Row_parse "Row.parse" = true)
    (k_Row_parse : PySem.W.keepIn K (.ref f_Row_parse) = true)
    (a_Row_str : PySem.W.findIn K (.ref C_Row) "__str__" = some (some (.ref f_Row_str)))
    (j_Row_str : PySem.W.isFn K (.ref f_Row_str) = true)
    (l_Row_str : K.lookup f_Row_str = some ⟨oc_Row_str, od_Row_str, .func (PySem.W.fnOf "__str__" "Row.__str__" (defArgs s_Row_str) (defBody s_Row_str) (defScope s_Row_str) .none kV_Row_str dc_Row_str pm_Row_str an_Row_str cd_Row_str ct_Row_str), sl_Row_str⟩)
    (q_Row_str : PySem.W.codeIn K cd_Row_str "Row.__str__" = true)
    (k_Row_str : PySem.W.keepIn K (.ref f_Row_str) = true)
    (a_Row_len : PySem.W.findIn K (.ref C_Row) "__len__" = some (some (.ref f_Row_len)))
    (j_Row_len : PySem.W.isFn K (.ref f_Row_len) = true)
    (l_Row_len : K.lookup f_Row_len = some ⟨oc_Row_len, od_Row_len, .func (PySem.W.fnOf "__len__" "Row.__len__" (defArgs s_Row_len) (defBody s_Row_len) (defScope s_Row_len) .none kV_Row_len dc_Row_len pm_Row_len an_Row_len cd_Row_len ct_Row_len), sl_Row_len⟩)
    (q_Row_len : PySem.W.codeIn K cd_Row_len "Row.__len__" = true)
    (k_Row_len : PySem.W.keepIn K (.ref f_Row_len) = true)
    (a_Row_iter : PySem.W.findIn K (.ref C_Row) "__iter__" = some (some (.ref f_Row_iter)))
    (j_Row_iter : PySem.W.isFn K (.ref f_Row_iter) = true)
    (l_Row_iter : K.lookup f_Row_iter = some ⟨oc_Row_iter, od_Row_iter, .func (PySem.W.fnOf "__iter__" "Row.__iter__" (defArgs s_Row_iter) (defBody s_Row_iter) (defScope s_Row_iter) .none kV_Row_iter dc_Row_iter pm_Row_iter an_Row_iter cd_Row_iter ct_Row_iter), sl_Row_iter⟩)
    (q_Row_iter : PySem.W.codeIn K cd_Row_iter "Row.__iter__" = true)
    (k_Row_iter : PySem.W.keepIn K (.ref f_Row_iter) = true)
    (a_Lcell : PySem.W.nsIn K mainGlobals "_law_cell" = some (some (.ref f_Lcell)))
    (l_Lcell : K.lookup f_Lcell = some ⟨oc_Lcell, od_Lcell, .func (PySem.W.fnOf "_law_cell" "_law_cell" (defArgs s_Lcell) (defBody s_Lcell) (defScope s_Lcell) .none kV_Lcell dc_Lcell pm_Lcell an_Lcell cd_Lcell ct_Lcell), sl_Lcell⟩)
    (q_Lcell : PySem.W.codeIn K cd_Lcell "_law_cell" = true)
    (k_Lcell : PySem.W.keepIn K (.ref f_Lcell) = true)
    (a_Lpool : PySem.W.nsIn K mainGlobals "_law_pool" = some (some (.ref f_Lpool)))
    (l_Lpool : K.lookup f_Lpool = some ⟨oc_Lpool, od_Lpool, .func (PySem.W.fnOf "_law_pool" "_law_pool" (defArgs s_Lpool) (defBody s_Lpool) (defScope s_Lpool) .none kV_Lpool dc_Lpool pm_Lpool an_Lpool cd_Lpool ct_Lpool), sl_Lpool⟩)
    (q_Lpool : PySem.W.codeIn K cd_Lpool "_law_pool" = true)
    (k_Lpool : PySem.W.keepIn K (.ref f_Lpool) = true)
    (a_Ltake : PySem.W.nsIn K mainGlobals "_law_take" = some (some (.ref f_Ltake)))
    (l_Ltake : K.lookup f_Ltake = some ⟨oc_Ltake, od_Ltake, .func (PySem.W.fnOf "_law_take" "_law_take" (defArgs s_Ltake) (defBody s_Ltake) (defScope s_Ltake) .none kV_Ltake dc_Ltake pm_Ltake an_Ltake cd_Ltake ct_Ltake), sl_Ltake⟩)
    (q_Ltake : PySem.W.codeIn K cd_Ltake "_law_take" = true)
    (k_Ltake : PySem.W.keepIn K (.ref f_Ltake) = true)
    (a_Lsame : PySem.W.nsIn K mainGlobals "_law_same" = some (some (.ref f_Lsame)))
    (l_Lsame : K.lookup f_Lsame = some ⟨oc_Lsame, od_Lsame, .func (PySem.W.fnOf "_law_same" "_law_same" (defArgs s_Lsame) (defBody s_Lsame) (defScope s_Lsame) .none kV_Lsame dc_Lsame pm_Lsame an_Lsame cd_Lsame ct_Lsame), sl_Lsame⟩)
    (q_Lsame : PySem.W.codeIn K cd_Lsame "_law_same" = true)
    (k_Lsame : PySem.W.keepIn K (.ref f_Lsame) = true)
    (a_Lletters : PySem.W.nsIn K mainGlobals "_law_letters" = some (some (.ref f_Lletters)))
    (l_Lletters : K.lookup f_Lletters = some ⟨oc_Lletters, od_Lletters, .func (PySem.W.fnOf "_law_letters" "_law_letters" (defArgs s_Lletters) (defBody s_Lletters) (defScope s_Lletters) .none kV_Lletters dc_Lletters pm_Lletters an_Lletters cd_Lletters ct_Lletters), sl_Lletters⟩)
    (q_Lletters : PySem.W.codeIn K cd_Lletters "_law_letters" = true)
    (k_Lletters : PySem.W.keepIn K (.ref f_Lletters) = true)
    (a_Lsigns : PySem.W.nsIn K mainGlobals "_law_signs" = some (some (.ref f_Lsigns)))
    (l_Lsigns : K.lookup f_Lsigns = some ⟨oc_Lsigns, od_Lsigns, .func (PySem.W.fnOf "_law_signs" "_law_signs" (defArgs s_Lsigns) (defBody s_Lsigns) (defScope s_Lsigns) .none kV_Lsigns dc_Lsigns pm_Lsigns an_Lsigns cd_Lsigns ct_Lsigns), sl_Lsigns⟩)
    (q_Lsigns : PySem.W.codeIn K cd_Lsigns "_law_signs" = true)
    (k_Lsigns : PySem.W.keepIn K (.ref f_Lsigns) = true)
    (a_Lbent : PySem.W.nsIn K mainGlobals "_law_bent" = some (some (.ref f_Lbent)))
    (l_Lbent : K.lookup f_Lbent = some ⟨oc_Lbent, od_Lbent, .func (PySem.W.fnOf "_law_bent" "_law_bent" (defArgs s_Lbent) (defBody s_Lbent) (defScope s_Lbent) .none kV_Lbent dc_Lbent pm_Lbent an_Lbent cd_Lbent ct_Lbent), sl_Lbent⟩)
    (q_Lbent : PySem.W.codeIn K cd_Lbent "_law_bent" = true)
    (k_Lbent : PySem.W.keepIn K (.ref f_Lbent) = true)
    (a_Lany : PySem.W.nsIn K mainGlobals "_law_any" = some (some (.ref f_Lany)))
    (l_Lany : K.lookup f_Lany = some ⟨oc_Lany, od_Lany, .func (PySem.W.fnOf "_law_any" "_law_any" (defArgs s_Lany) (defBody s_Lany) (defScope s_Lany) .none kV_Lany dc_Lany pm_Lany an_Lany cd_Lany ct_Lany), sl_Lany⟩)
    (q_Lany : PySem.W.codeIn K cd_Lany "_law_any" = true)
    (k_Lany : PySem.W.keepIn K (.ref f_Lany) = true)
    (a_Lodd : PySem.W.nsIn K mainGlobals "_law_odd" = some (some (.ref f_Lodd)))
    (l_Lodd : K.lookup f_Lodd = some ⟨oc_Lodd, od_Lodd, .func (PySem.W.fnOf "_law_odd" "_law_odd" (defArgs s_Lodd) (defBody s_Lodd) (defScope s_Lodd) .none kV_Lodd dc_Lodd pm_Lodd an_Lodd cd_Lodd ct_Lodd), sl_Lodd⟩)
    (q_Lodd : PySem.W.codeIn K cd_Lodd "_law_odd" = true)
    (k_Lodd : PySem.W.keepIn K (.ref f_Lodd) = true)
    (a_Lwritten : PySem.W.nsIn K mainGlobals "_law_written" = some (some (.ref f_Lwritten)))
    (l_Lwritten : K.lookup f_Lwritten = some ⟨oc_Lwritten, od_Lwritten, .func (PySem.W.fnOf "_law_written" "_law_written" (defArgs s_Lwritten) (defBody s_Lwritten) (defScope s_Lwritten) .none kV_Lwritten dc_Lwritten pm_Lwritten an_Lwritten cd_Lwritten ct_Lwritten), sl_Lwritten⟩)
    (q_Lwritten : PySem.W.codeIn K cd_Lwritten "_law_written" = true)
    (k_Lwritten : PySem.W.keepIn K (.ref f_Lwritten) = true)
    (a_Lreading : PySem.W.nsIn K mainGlobals "_law_reading" = some (some (.ref f_Lreading)))
    (l_Lreading : K.lookup f_Lreading = some ⟨oc_Lreading, od_Lreading, .func (PySem.W.fnOf "_law_reading" "_law_reading" (defArgs s_Lreading) (defBody s_Lreading) (defScope s_Lreading) .none kV_Lreading dc_Lreading pm_Lreading an_Lreading cd_Lreading ct_Lreading), sl_Lreading⟩)
    (q_Lreading : PySem.W.codeIn K cd_Lreading "_law_reading" = true)
    (k_Lreading : PySem.W.keepIn K (.ref f_Lreading) = true)
    (a_Lletters_are : PySem.W.nsIn K mainGlobals "_law_letters_are" = some (some (.ref f_Lletters_are)))
    (l_Lletters_are : K.lookup f_Lletters_are = some ⟨oc_Lletters_are, od_Lletters_are, .func (PySem.W.fnOf "_law_letters_are" "_law_letters_are" (defArgs s_Lletters_are) (defBody s_Lletters_are) (defScope s_Lletters_are) .none kV_Lletters_are dc_Lletters_are pm_Lletters_are an_Lletters_are cd_Lletters_are ct_Lletters_are), sl_Lletters_are⟩)
    (q_Lletters_are : PySem.W.codeIn K cd_Lletters_are "_law_letters_are" = true)
    (k_Lletters_are : PySem.W.keepIn K (.ref f_Lletters_are) = true)
    (a_Lreads : PySem.W.nsIn K mainGlobals "_law_reads" = some (some (.ref f_Lreads)))
    (l_Lreads : K.lookup f_Lreads = some ⟨oc_Lreads, od_Lreads, .func (PySem.W.fnOf "_law_reads" "_law_reads" (defArgs s_Lreads) (defBody s_Lreads) (defScope s_Lreads) .none kV_Lreads dc_Lreads pm_Lreads an_Lreads cd_Lreads ct_Lreads), sl_Lreads⟩)
    (q_Lreads : PySem.W.codeIn K cd_Lreads "_law_reads" = true)
    (k_Lreads : PySem.W.keepIn K (.ref f_Lreads) = true)
    (a_law : PySem.W.nsIn K mainGlobals "law" = some (some (.ref f_law)))
    (l_law : K.lookup f_law = some ⟨oc_law, od_law, .func (PySem.W.fnOf "law" "law" (defArgs s_law) (defBody s_law) (defScope s_law) .none kV_law dc_law pm_law an_law cd_law ct_law), sl_law⟩)
    (q_law : PySem.W.codeIn K cd_law "law" = true)
    (k_law : PySem.W.keepIn K (.ref f_law) = true) :
    ∃ fd : FuncData, (∀ (s : Shared) (v : Value), BindsTo s fd ⟨[v], []⟩ [("_law_script", v)]) ∧ ∀ base : Heap, K.In base → base.Ns mainGlobals mg → FnOk l.prog w K mg base CX0 10 fa fd ["_law_script"] (sp_law K) := by
  have e := hfa.symm.trans (PySem.W.mg_of X G a_law)
  cases e
  have T : Txt l.prog w K mg C_BadRow C_CableError C_Row A_LETTERS := ⟨PySem.W.mg_of X G g_BadRow, ⟨_, ⟨_, _, _, _, _, _, _, _, _, _, _, _, _, _, _, xl_BadRow, rf_BadRow⟩, su_BadRow, xa_BadRow, xg_BadRow, xh_BadRow, xp_BadRow, xi_BadRow, xf_BadRow, xk_BadRow, xb_BadRow, xv_BadRow, xm_BadRow, xt_BadRow, xd_BadRow, xo_BadRow, PySem.W.mg_none_of X G xs_BadRow, hx_BadRow, ⟨_, _, _, _, _, _, _, _, _, _, _, _, _, _, _, _, _, _, _, _, _, _, _, _, _, _, lf_BadRow, lc_BadRow, hl_BadRow, ⟨_, _, _, _, _, _, lo_BadRow, hv_BadRow, hf_BadRow⟩, ⟨_, _, _, le_BadRow⟩, he_BadRow⟩⟩, k_BadRow, b_BadRow, t_BadRow, ic_BadRow, s_BadRow, ⟨eg_BadRow, ek_BadRow, b_BadRow, ed_BadRow, ea_BadRow, en_BadRow, et_BadRow, em_BadRow⟩, PySem.W.mg_of X G g_CableError, PySem.W.mg_of X G g_Row, ⟨pg_Row, hd_Row, po_Row, sa_Row⟩, ⟨_, cna_Row_MOST, ⟨_, rfl⟩, cnb_Row_MOST, by decide +kernel⟩, nf_Row_letters, clm_rd racr_Row rbcr_Row rccr_Row rdcr_Row recr_Row, ⟨⟨pg_Row, hd_Row, po_Row, sa_Row⟩, ha_Row, hn_Row, ht_Row, hm_Row, me_Row⟩, PySem.W.mg_of X G c_LETTERS, fun H => .inr ⟨_, _, _, l_LETTERS, rfl, rfl, by rw [sizeLine_eq]; show 5 ≤ 16777216; decide, (.cons ⟨_, rfl⟩ (.cons ⟨_, rfl⟩ (.cons ⟨_, rfl⟩ (.cons ⟨_, rfl⟩ (.cons ⟨_, rfl⟩ .nil)))))⟩, ⟨_, PySem.W.mg_of X G ci__NO_LETTER⟩, PySem.W.mg_none_of X G n_str, PySem.W.mg_none_of X G n_enumerate, PySem.W.mg_none_of X G n_tuple, PySem.W.mg_none_of X G n_len, PySem.W.mg_none_of X G n_iter, PySem.W.mg_none_of X G n_int, PySem.W.mg_none_of X G n_abs, PySem.W.mg_none_of X G n_isinstance, PySem.W.mg_none_of X G n_bool, PySem.W.mg_none_of X G n_list, PySem.W.mg_none_of X G n_range, PySem.W.mg_none_of X G n_ValueError, kt_cable, kt_value⟩
  have F_uletter_of := fun_mk (st := s_uletter_of) l_uletter_of q_uletter_of k_uletter_of
  have b_uletter_of := F_uletter_of.binds (ps := ["part"]) fun _ _ _ _ _ _ us hl => match us, hl with | [_], _ => rfl
  have F_Row_init := fun_mk (st := s_Row_init) l_Row_init q_Row_init k_Row_init
  have b_Row_init := F_Row_init.binds (ps := ["self", "letters"]) fun _ _ _ _ _ _ us hl => match us, hl with | [_, _], _ => rfl
  have F_Row_parse := fun_mk (st := s_Row_parse) l_Row_parse q_Row_parse k_Row_parse
  have b_Row_parse := F_Row_parse.binds (ps := ["cls", "text"]) fun _ _ _ _ _ _ us hl => match us, hl with | [_, _], _ => rfl
  have F_Row_str := fun_mk (st := s_Row_str) l_Row_str q_Row_str k_Row_str
  have b_Row_str := F_Row_str.binds (ps := ["self"]) fun _ _ _ _ _ _ us hl => match us, hl with | [_], _ => rfl
  have F_Row_len := fun_mk (st := s_Row_len) l_Row_len q_Row_len k_Row_len
  have b_Row_len := F_Row_len.binds (ps := ["self"]) fun _ _ _ _ _ _ us hl => match us, hl with | [_], _ => rfl
  have F_Row_iter := fun_mk (st := s_Row_iter) l_Row_iter q_Row_iter k_Row_iter
  have b_Row_iter := F_Row_iter.binds (ps := ["self"]) fun _ _ _ _ _ _ us hl => match us, hl with | [_], _ => rfl
  have F_Lcell := fun_mk (st := s_Lcell) l_Lcell q_Lcell k_Lcell
  have b_Lcell := F_Lcell.binds (ps := ["_law_script", "_law_at"]) fun _ _ _ _ _ _ us hl => match us, hl with | [_, _], _ => rfl
  have F_Lpool := fun_mk (st := s_Lpool) l_Lpool q_Lpool k_Lpool
  have b_Lpool := F_Lpool.binds (ps := ["_law_cell_here"]) fun _ _ _ _ _ _ us hl => match us, hl with | [_], _ => rfl
  have F_Ltake := fun_mk (st := s_Ltake) l_Ltake q_Ltake k_Ltake
  have b_Ltake := F_Ltake.binds (ps := ["_law_pool_here", "_law_many"]) fun _ _ _ _ _ _ us hl => match us, hl with | [_, _], _ => rfl
  have F_Lsame := fun_mk (st := s_Lsame) l_Lsame q_Lsame k_Lsame
  have b_Lsame := F_Lsame.binds (ps := ["_law_told", "_law_due"]) fun _ _ _ _ _ _ us hl => match us, hl with | [_, _], _ => rfl
  have F_Lletters := fun_mk (st := s_Lletters) l_Lletters q_Lletters k_Lletters
  have b_Lletters := F_Lletters.binds (ps := ["_law_pool_here", "_law_size"]) fun _ _ _ _ _ _ us hl => match us, hl with | [_, _], _ => rfl
  have F_Lsigns := fun_mk (st := s_Lsigns) l_Lsigns q_Lsigns k_Lsigns
  have b_Lsigns := F_Lsigns.binds (ps := []) fun _ _ _ _ _ _ us hl => match us, hl with | [], _ => rfl
  have F_Lbent := fun_mk (st := s_Lbent) l_Lbent q_Lbent k_Lbent
  have b_Lbent := F_Lbent.binds (ps := ["_law_pool_here", "_law_text", "_law_signs_here"]) fun _ _ _ _ _ _ us hl => match us, hl with | [_, _, _], _ => rfl
  have F_Lany := fun_mk (st := s_Lany) l_Lany q_Lany k_Lany
  have b_Lany := F_Lany.binds (ps := ["_law_pool_here", "_law_signs_here"]) fun _ _ _ _ _ _ us hl => match us, hl with | [_, _], _ => rfl
  have F_Lodd := fun_mk (st := s_Lodd) l_Lodd q_Lodd k_Lodd
  have b_Lodd := F_Lodd.binds (ps := ["_law_pool_here"]) fun _ _ _ _ _ _ us hl => match us, hl with | [_], _ => rfl
  have F_Lwritten := fun_mk (st := s_Lwritten) l_Lwritten q_Lwritten k_Lwritten
  have b_Lwritten := F_Lwritten.binds (ps := ["_law_letters_here"]) fun _ _ _ _ _ _ us hl => match us, hl with | [_], _ => rfl
  have F_Lreading := fun_mk (st := s_Lreading) l_Lreading q_Lreading k_Lreading
  have b_Lreading := F_Lreading.binds (ps := ["_law_text"]) fun _ _ _ _ _ _ us hl => match us, hl with | [_], _ => rfl
  have F_Lletters_are := fun_mk (st := s_Lletters_are) l_Lletters_are q_Lletters_are k_Lletters_are
  have b_Lletters_are := F_Lletters_are.binds (ps := ["_law_told", "_law_letters_here"]) fun _ _ _ _ _ _ us hl => match us, hl with | [_, _], _ => rfl
  have F_Lreads := fun_mk (st := s_Lreads) l_Lreads q_Lreads k_Lreads
  have b_Lreads := F_Lreads.binds (ps := ["_law_text"]) fun _ _ _ _ _ _ us hl => match us, hl with | [_], _ => rfl
  refine ⟨PySem.W.fnOf "law" "law" (defArgs s_law) (defBody s_law) (defScope s_law) .none kV_law dc_law pm_law an_law cd_law ct_law, fun s v => .of_eq rfl, fun base _ _ => ?_⟩
  have c_uletter_of := cal_mk (ok_uletter_of (P := l.prog) (w := w) (base := base) F_uletter_of T ) (PySem.W.mg_of X G a_uletter_of) k_uletter_of b_uletter_of
  have c_Row := mak_mk (ok_Row_init (P := l.prog) (w := w) (base := base) F_Row_init T ) (T.g_Row) ⟨mk_Row, a_Row_init, j_Row_init, mkk_Row⟩ b_Row_init
  have c_Row_parse := clm_mk (ok_Row_parse (P := l.prog) (w := w) (base := base) F_Row_parse T c_Row c_uletter_of) T.cr_Row (clm_at pt_Row_parse pa_Row_parse pty_Row_parse pgt_Row_parse prc_Row_parse (fn_in l_Row_parse)) b_Row_parse
  have c_Row_str := met_mk (ok_Row_str (P := l.prog) (w := w) (base := base) F_Row_str T ) T.cl_Row ⟨a_Row_str, j_Row_str, k_Row_str⟩ b_Row_str (fn_in l_Row_str)
  have c_Row_len := met_mk (ok_Row_len (P := l.prog) (w := w) (base := base) F_Row_len T ) T.cl_Row ⟨a_Row_len, j_Row_len, k_Row_len⟩ b_Row_len (fn_in l_Row_len)
  have c_Row_iter := met_mk (ok_Row_iter (P := l.prog) (w := w) (base := base) F_Row_iter T ) T.cl_Row ⟨a_Row_iter, j_Row_iter, k_Row_iter⟩ b_Row_iter (fn_in l_Row_iter)
  have c_Lcell := cal_mk (ok_Lcell (P := l.prog) (w := w) (base := base) F_Lcell T ) (PySem.W.mg_of X G a_Lcell) k_Lcell b_Lcell
  have c_Lpool := cal_mk (ok_Lpool (P := l.prog) (w := w) (base := base) F_Lpool T ) (PySem.W.mg_of X G a_Lpool) k_Lpool b_Lpool
  have c_Ltake := cal_mk (ok_Ltake (P := l.prog) (w := w) (base := base) F_Ltake T ) (PySem.W.mg_of X G a_Ltake) k_Ltake b_Ltake
  have c_Lsame := cal_mk (ok_Lsame (P := l.prog) (w := w) (base := base) F_Lsame T (PySem.W.mg_of X G a_Lsame) k_Lsame b_Lsame 2) (PySem.W.mg_of X G a_Lsame) k_Lsame b_Lsame
  have c_Lletters := cal_mk (ok_Lletters (P := l.prog) (w := w) (base := base) F_Lletters T c_Ltake) (PySem.W.mg_of X G a_Lletters) k_Lletters b_Lletters
  have c_Lsigns := cal_mk (ok_Lsigns (P := l.prog) (w := w) (base := base) F_Lsigns T ) (PySem.W.mg_of X G a_Lsigns) k_Lsigns b_Lsigns
  have c_Lbent := cal_mk (ok_Lbent (P := l.prog) (w := w) (base := base) F_Lbent T c_Ltake) (PySem.W.mg_of X G a_Lbent) k_Lbent b_Lbent
  have c_Lany := cal_mk (ok_Lany (P := l.prog) (w := w) (base := base) F_Lany T c_Ltake) (PySem.W.mg_of X G a_Lany) k_Lany b_Lany
  have c_Lodd := cal_mk (ok_Lodd (P := l.prog) (w := w) (base := base) F_Lodd T c_Ltake) (PySem.W.mg_of X G a_Lodd) k_Lodd b_Lodd
  have c_Lwritten := cal_mk (ok_Lwritten (P := l.prog) (w := w) (base := base) F_Lwritten T ) (PySem.W.mg_of X G a_Lwritten) k_Lwritten b_Lwritten
  have c_Lreading := cal_mk (ok_Lreading (P := l.prog) (w := w) (base := base) F_Lreading T ) (PySem.W.mg_of X G a_Lreading) k_Lreading b_Lreading
  have c_Lletters_are := cal_mk (ok_Lletters_are (P := l.prog) (w := w) (base := base) F_Lletters_are T ) (PySem.W.mg_of X G a_Lletters_are) k_Lletters_are b_Lletters_are
  have c_Lreads := cal_mk (ok_Lreads (P := l.prog) (w := w) (base := base) F_Lreads T c_Lreading c_Row_parse c_Lsame c_Row_len c_Lletters_are c_Row_iter c_Row_str) (PySem.W.mg_of X G a_Lreads) k_Lreads b_Lreads
  exact ok_law (fun_mk (st := s_law) l_law q_law k_law) T c_Lpool c_Lcell c_Ltake c_Lletters c_Lwritten c_Lsame c_Row_str c_Row c_Lreads c_Lodd c_Lbent c_Lsigns c_Lany

theorem walk {l : PySem.W.OpenLaw} {q : Program} {loose : List Str} {XP : (Str → Option Value) → Heap → Prop} {YP : World → Heap → Prop} {d : DefRec} {K : Params → PySem.W.Frag} (hn : l.most = some 63) (hdf : d.params.defaults = [])
    (hY : ∀ (w : World) (h : Heap), YP w h → (K w.params).In h)
    (F : ∀ (w : World) (mg : Str → Option Value) (fa : Addr) (h : Heap), (K w.params).In h → h.Ns mainGlobals mg → mg d.name = some (.ref fa) →
      ∃ fd : FuncData, (∀ (s : Shared) (u : Value), BindsTo s fd ⟨[u], []⟩ [("_law_script", u)]) ∧ ∀ base : Heap, (K w.params).In base → base.Ns mainGlobals mg → FnOk l.prog w (K w.params) mg base CX0 10 fa fd ["_law_script"] (sp_law (K w.params))) :
    PySem.W.WalkO q loose XP YP l.row.toRowW d [] (fun f vs => PySem.call f vs) :=
  L2.walk_of (n := 63) (k := 10) (x := "_law_script") (CX := fun _ => CX0) (sp := fun w => sp_law (K w.params)) hn (by decide) hdf ⟨rfl, by decide, by decide⟩ hY F (fun _ _ a ns hl _ hS => ⟨a, ns, rfl, hS, hl, fun _ => rfl⟩) fun _ _ _ _ _ z => z
end My

open PySem PySem.W PyProof.Rows in
set_option maxRecDepth 100000 in
set_option maxHeartbeats 0 in
theorem PySem.Challenge.cw_onecable_k08_row_text_there_and_back_holds : PySem.Challenge.rw_onecable_k08_row_text_there_and_back.Holds := by
  w_on; o_law; k_head; (case hw => w_witness2)
  k_fill
  refine My.walk (l := PySem.Challenge.rw_onecable_k08_row_text_there_and_back) rfl rfl (fun w h Y => PySem.W.kIn_of Y) ?F
  case F =>
    intro w mg fa h KX G hmg
    refine' My.all_mk KX G hmg ?g_BadRow ?xl_BadRow ?rf_BadRow ?su_BadRow ?xa_BadRow ?xg_BadRow ?xh_BadRow ?xp_BadRow ?xi_BadRow ?xf_BadRow ?xk_BadRow ?xb_BadRow ?xv_BadRow ?xm_BadRow ?xt_BadRow ?xd_BadRow ?xo_BadRow ?xs_BadRow ?hx_BadRow ?lf_BadRow ?lc_BadRow ?hl_BadRow ?lo_BadRow ?hv_BadRow ?hf_BadRow ?le_BadRow ?he_BadRow ?k_BadRow ?b_BadRow ?t_BadRow ?ic_BadRow ?s_BadRow ?eg_BadRow ?ek_BadRow ?ed_BadRow ?ea_BadRow ?en_BadRow ?et_BadRow ?em_BadRow ?g_CableError ?g_Row ?pg_Row ?hd_Row ?po_Row ?sa_Row ?cna_Row_MOST ?cnb_Row_MOST ?nf_Row_letters ?racr_Row ?rbcr_Row ?rccr_Row ?rdcr_Row ?recr_Row ?ha_Row ?hn_Row ?ht_Row ?hm_Row ?me_Row ?c_LETTERS ?l_LETTERS ?ci__NO_LETTER ?n_str ?n_enumerate ?n_tuple ?n_len ?n_iter ?n_int ?n_abs ?n_isinstance ?n_bool ?n_list ?n_range ?n_ValueError ?kt_cable ?kt_value ?mk_Row ?mkk_Row ?a_uletter_of ?l_uletter_of ?q_uletter_of ?k_uletter_of ?a_Row_init ?j_Row_init ?l_Row_init ?q_Row_init ?k_Row_init ?pt_Row_parse ?pa_Row_parse ?pty_Row_parse ?pgt_Row_parse ?prc_Row_parse ?l_Row_parse ?q_Row_parse ?k_Row_parse ?a_Row_str ?j_Row_str ?l_Row_str ?q_Row_str ?k_Row_str ?a_Row_len ?j_Row_len ?l_Row_len ?q_Row_len ?k_Row_len ?a_Row_iter ?j_Row_iter ?l_Row_iter ?q_Row_iter ?k_Row_iter ?a_Lcell ?l_Lcell ?q_Lcell ?k_Lcell ?a_Lpool ?l_Lpool ?q_Lpool ?k_Lpool ?a_Ltake ?l_Ltake ?q_Ltake ?k_Ltake ?a_Lsame ?l_Lsame ?q_Lsame ?k_Lsame ?a_Lletters ?l_Lletters ?q_Lletters ?k_Lletters ?a_Lsigns ?l_Lsigns ?q_Lsigns ?k_Lsigns ?a_Lbent ?l_Lbent ?q_Lbent ?k_Lbent ?a_Lany ?l_Lany ?q_Lany ?k_Lany ?a_Lodd ?l_Lodd ?q_Lodd ?k_Lodd ?a_Lwritten ?l_Lwritten ?q_Lwritten ?k_Lwritten ?a_Lreading ?l_Lreading ?q_Lreading ?k_Lreading ?a_Lletters_are ?l_Lletters_are ?q_Lletters_are ?k_Lletters_are ?a_Lreads ?l_Lreads ?q_Lreads ?k_Lreads ?a_law ?l_law ?q_law ?k_law
    (case g_BadRow => k_is)
    (case xl_BadRow => k_is)
    (case rf_BadRow => first | rfl | decide | kernel_rfl | decide +kernel)
    (case su_BadRow => ks_is)
    (case xa_BadRow => k_is)
    (case xg_BadRow => k_is)
    (case xh_BadRow => k_is)
    (case xp_BadRow => k_is)
    (case xi_BadRow => k_is)
    (case xf_BadRow => k_is)
    (case xk_BadRow => k_is)
    (case xb_BadRow => k_is)
    (case xv_BadRow => k_is)
    (case xm_BadRow => k_is)
    (case xt_BadRow => k_is)
    (case xd_BadRow => k_is)
    (case xo_BadRow => k_is)
    (case xs_BadRow => k_is)
    (case hx_BadRow => first | rfl | decide | kernel_rfl | decide +kernel)
    (case lf_BadRow => k_is)
    (case lc_BadRow => k_is)
    (case hl_BadRow => first | rfl | decide | kernel_rfl | decide +kernel)
    (case lo_BadRow => k_is)
    (case hv_BadRow => first | rfl | decide | kernel_rfl | decide +kernel)
    (case hf_BadRow => first | rfl | decide | kernel_rfl | decide +kernel)
    (case le_BadRow => k_is)
    (case he_BadRow => exact ⟨_, fun env => rfl⟩)
    (case k_BadRow => k_is)
    (case b_BadRow => k_is)
    (case t_BadRow => k_is)
    (case ic_BadRow => k_is)
    (case s_BadRow => first | rfl | decide | k_is)
    (case eg_BadRow => k_is)
    (case ek_BadRow => k_is)
    (case ed_BadRow => k_is)
    (case ea_BadRow => k_is)
    (case en_BadRow => k_is)
    (case et_BadRow => k_is)
    (case em_BadRow => k_is)
    (case g_CableError => k_is)
    (case g_Row => k_is)
    (case pg_Row => k_is)
    (case hd_Row => k_is)
    (case po_Row => k_is)
    (case sa_Row => k_is)
    (case cna_Row_MOST => k_is)
    (case cnb_Row_MOST => k_is)
    (case nf_Row_letters => k_is)
    (case racr_Row => k_is)
    (case rbcr_Row => k_is)
    (case rccr_Row => k_is)
    (case rdcr_Row => k_is)
    (case recr_Row => k_is)
    (case ha_Row => k_is)
    (case hn_Row => k_is)
    (case ht_Row => k_is)
    (case hm_Row => k_is)
    (case me_Row => kit_is)
    (case c_LETTERS => k_is)
    (case l_LETTERS => k_is)
    (case ci__NO_LETTER => k_is)
    (case n_str => k_is)
    (case n_enumerate => k_is)
    (case n_tuple => k_is)
    (case n_len => k_is)
    (case n_iter => k_is)
    (case n_int => k_is)
    (case n_abs => k_is)
    (case n_isinstance => k_is)
    (case n_bool => k_is)
    (case n_list => k_is)
    (case n_range => k_is)
    (case n_ValueError => k_is)
    (case kt_cable => kit_is)
    (case kt_value => kit_is)
    (case mk_Row => k_is)
    (case mkk_Row => k_is)
    (case a_uletter_of => k_is)
    (case l_uletter_of => k_is)
    (case q_uletter_of => k_is)
    (case k_uletter_of => k_is)
    (case a_Row_init => k_is)
    (case j_Row_init => k_is)
    (case l_Row_init => k_is)
    (case q_Row_init => k_is)
    (case k_Row_init => k_is)
    (case pt_Row_parse => k_is)
    (case pa_Row_parse => k_is)
    (case pty_Row_parse => k_is)
    (case pgt_Row_parse => k_is)
    (case prc_Row_parse => k_is)
    (case l_Row_parse => k_is)
    (case q_Row_parse => k_is)
    (case k_Row_parse => k_is)
    (case a_Row_str => k_is)
    (case j_Row_str => k_is)
    (case l_Row_str => k_is)
    (case q_Row_str => k_is)
    (case k_Row_str => k_is)
    (case a_Row_len => k_is)
    (case j_Row_len => k_is)
    (case l_Row_len => k_is)
    (case q_Row_len => k_is)
    (case k_Row_len => k_is)
    (case a_Row_iter => k_is)
    (case j_Row_iter => k_is)
    (case l_Row_iter => k_is)
    (case q_Row_iter => k_is)
    (case k_Row_iter => k_is)
    (case a_Lcell => k_is)
    (case l_Lcell => k_is)
    (case q_Lcell => k_is)
    (case k_Lcell => k_is)
    (case a_Lpool => k_is)
    (case l_Lpool => k_is)
    (case q_Lpool => k_is)
    (case k_Lpool => k_is)
    (case a_Ltake => k_is)
    (case l_Ltake => k_is)
    (case q_Ltake => k_is)
    (case k_Ltake => k_is)
    (case a_Lsame => k_is)
    (case l_Lsame => k_is)
    (case q_Lsame => k_is)
    (case k_Lsame => k_is)
    (case a_Lletters => k_is)
    (case l_Lletters => k_is)
    (case q_Lletters => k_is)
    (case k_Lletters => k_is)
    (case a_Lsigns => k_is)
    (case l_Lsigns => k_is)
    (case q_Lsigns => k_is)
    (case k_Lsigns => k_is)
    (case a_Lbent => k_is)
    (case l_Lbent => k_is)
    (case q_Lbent => k_is)
    (case k_Lbent => k_is)
    (case a_Lany => k_is)
    (case l_Lany => k_is)
    (case q_Lany => k_is)
    (case k_Lany => k_is)
    (case a_Lodd => k_is)
    (case l_Lodd => k_is)
    (case q_Lodd => k_is)
    (case k_Lodd => k_is)
    (case a_Lwritten => k_is)
    (case l_Lwritten => k_is)
    (case q_Lwritten => k_is)
    (case k_Lwritten => k_is)
    (case a_Lreading => k_is)
    (case l_Lreading => k_is)
    (case q_Lreading => k_is)
    (case k_Lreading => k_is)
    (case a_Lletters_are => k_is)
    (case l_Lletters_are => k_is)
    (case q_Lletters_are => k_is)
    (case k_Lletters_are => k_is)
    (case a_Lreads => k_is)
    (case l_Lreads => k_is)
    (case q_Lreads => k_is)
    (case k_Lreads => k_is)
    (case a_law => k_is)
    (case l_law => k_is)
    (case q_law => k_is)
    (case k_law => k_is)

