import PyProof.Rows.All
import Wide.All
import OpenK.AllK
import Wide.FinOn
import HandS.ForExc
import HandS.ForMost
import HandS.Exc
import HandS.TryOnly
import HandS.ExcOwn
import HandS.WordsExc
import HandS.Wide
import HandS.Codes
import HandS.IsInst
import HandS.ExcIs
import HandS.More
import HandS.Star
import KE.RegKIsAll
import HandS.OwnEq
import KE.GoesEnum
import HandS.ExcSuper
import KE.KExcSuper
import HandS.FStr
import HandS.ExcField
import KE.RegKSuper
import HandS.Style
import KE.KCallOwn
import HandS.Text
import HandS.StrMore
import HandS.OwnIter
import HandS.ClsMeth
import HandS.Property
import PySem.Challenge.RW_onecable_k15_kinds
set_option Elab.async false
set_option maxRecDepth 100000
set_option maxHeartbeats 4000000
set_option linter.all false
/-! ### an own error over others over ValueError whose __init__ says super().__init__(f"..{place}") and self.place = place -/
namespace PySem
namespace ErrX_part_CFC_str
open PySem.W PySem.Calls PyProof.Rows PySem.HandSPX
def eA (p1 p2 : Pos) : Arguments := { posonlyargs := [], args := [{ arg := "self", annotation := none, pos := p1 }, { arg := "part", annotation := none, pos := p2 }], vararg := none, kwonlyargs := [], kw_defaults := [], kwarg := none, defaults := [] }
def eC (msg msg2 : Str) (c1 a1 a2 a3 a4 a5 a6 a7 a8 : Pos) : Expr := .Call (.Attribute (.Call (.Name "super" a1) [] [] a2) "__init__" a3) [.JoinedStr [.Constant (.str msg) 0 a4, .FormattedValue (.Name "part" a5) (-1) none a6, .Constant (.str msg2) 0 c1] a7] [] a8
def eB (msg msg2 : Str) (c1 a1 a2 a3 a4 a5 a6 a7 a8 a9 b1 b2 b3 b4 : Pos) : List Stmt := [.Expr (eC msg msg2 c1 a1 a2 a3 a4 a5 a6 a7 a8) a9,
  .Assign [.Attribute (.Name "self" b1) "part" b2] (.Name "part" b3) b4]
def eS : Scope := { kind := .function, names := [(PySem.Str.ofString "self", .local), (PySem.Str.ofString "part", .local), (PySem.Str.ofString "__class__", .free), (PySem.Str.ofString "super", .globalImplicit)], isGenerator := false, isCoroutine := false, more := [] }
/-- what the written part says of the class at C and of its __init__ at fI -/
structure ErrTxt (P : Program) (K : Frag) (mg : Str → Option Value) (C fI : Addr) : Prop where
  cls : ∃ nm q N bs bm sn sub ab col dd k0 k1 k2 k3 k5, K.lookup C = some (excClassObj nm q C N bs bm true sn sub ab col dd k0 k1 k2 k3 k5 "ValueError.__new__") ∧ refsVE bm = true
  su : ks_superIn K C C "__init__" = some (some (.builtin "ValueError.__init__"))
  sa : findIn K (.ref C) "__setattr__" = some (some (.builtin "object.__setattr__"))
  ga : findIn K (.ref C) "__getattribute__" = some (some (.builtin "BaseException.__getattribute__"))
  gg : findIn K (.ref C) "__getattr__" = some none
  noN : findIn K (.ref C) "part" = some none
  iC : findIn K (.ref C) "__init__" = some (some (.ref fI))
  tC : typeIn K (.ref fI) = some (.type "function")
  kC : keepIn K (.ref C) = true
  exC : subIn K (.ref C) (.type "BaseException") = some true
  veC : subIn K (.ref C) (.type "ValueError") = some true
  slC : mroIn K C (.ref C) = some true
  tyC : typeIn K (.ref C) = some (.type "type")
  hdC : hasDictIn K C = true
  opq : nsIn K cStatics "thirdparty.any" = some none
  sup : mg "super" = none
  top : (P.main.scope.names.lookup ("super" : Str)).isSome = false
  fn : ∃ (qn msg msg2 : Str) (oc : Value) (od : Option Addr) (doc pm : Value) (an : Option Addr) (cda : Addr) (ct : Value) (osl : Array (Option Value)) (cc : Addr) (c1 p1 p2 a1 a2 a3 a4 a5 a6 a7 a8 a9 b1 b2 b3 b4 : Pos),
    K.lookup fI = some ⟨oc, od, .func (ksFn "__init__" qn (eA p1 p2) (eB msg msg2 c1 a1 a2 a3 a4 a5 a6 a7 a8 a9 b1 b2 b3 b4) eS .none .none doc pm an (.ref cda) ct cc), osl⟩ ∧ codeIn K (.ref cda) qn = true ∧ msg.length ≤ 1000 ∧ msg2.length ≤ 1000 ∧
    (∃ ccl cdd vs ccs file tf, K.lookup cda = some ⟨ccl, cdd, .fields vs, ccs⟩ ∧ vs[2]? = some (.str file tf) ∧ ((P.main.file : Str) == file) = true) ∧ (∃ cl cld csl, K.lookup cc = some ⟨cl, cld, .cell (some (.ref C)), csl⟩) ∧
    ∃ pl : Env → Sem Bool, ∀ env : Env, eval (eC msg msg2 c1 a1 a2 a3 a4 a5 a6 a7 a8) env = (do
      let ov ← attributeBase (.Call (.Name "super" a1) [] [] a2) "__init__" env (eval (.Call (.Name "super" a1) [] [] a2) env)
      standAt a3.atName
      let (f, first) ← holding [ov] (getMethod ov "__init__" (pl env))
      callWith a8 f first (backTo a8 (starEach [.JoinedStr [.Constant (.str msg) 0 a4, .FormattedValue (.Name "part" a5) (-1) none a6, .Constant (.str msg2) 0 c1] a7] env)) [])
section
variable {prog : Program} {w : World} {M : Model} {A : Around} {E : Value → Shared → Prop} {h : Heap} {g : Array GenState} {d : Drawn} {t : Nat} {os : OsState} {K : Frag} {mg : Str → Option Value}
theorem call_mw {nm q : Str} {C N : Addr} {bs bm : List Value} {hdct : Bool} {sn : List Str} {sub : List Value} {ab : Bool} {col : Option Bool} {dd : Option Addr} {k0 k1 k2 k3 k5 : Option Value} {u e t0 : Addr} {rest : List Value} {Q : Value → Shared → Prop}
    (hC : h.get? C = some (excClassObj nm q C N bs bm hdct sn sub ab col dd k0 k1 k2 k3 k5 "ValueError.__new__")) (he : h.get? e = some (excO C t0)) (hu : h.get? u = some (kxs_mw "ValueError.__init__" e)) (hrest : rest.length ≤ sizeLine)
    (hq : ∀ h' t1, (∀ b o, b ≠ e → h.get? b = some o → h'.get? b = some o) → h'.get? e = some (excO C t1) → Q .none ⟨h', g, d, t, os⟩) :
    wpAny (model prog w) A (call (.ref u) rest) Q E ⟨h, g, d, t, os⟩ := by
  refine wpAny_call (codeAny_of_tree ?_)
  show wpAny _ A.in1 (callAny (.ref u) ⟨rest, []⟩) _ _ _
  simp only [callAny]
  refine wpAny_bind (wpAny_load hu ?_)
  simp only [kxs_mw, show (Value.type "method-wrapper" == Value.type "method" || Value.type "method-wrapper" == Value.type "builtin_function_or_method" || Value.type "method-wrapper" == Value.type "method-wrapper") = true by decide, if_true]
  refine KFB.if_so (by decide) ?_
  refine wpAny_bind (check_bound_init F.excBase_ValueError.toExcCallFacts hC he rfl ?_)
  refine wpAny_bind (wpAny_pure (wpAny_pure ?_))
  refine ⟨plainId_quiet F.excBase_ValueError.init.plain _, codeAny_builtin F.excBase_ValueError.initEntry ?_⟩
  exact exc_init_tree (cls := .ref C) (t0 := t0) (dv := none) (c2 := .none) (c3 := .none) (b4 := .bool false) he hrest fun h' k e' _ => hq h' _ k e'
theorem ldX {env : Env} {s : Shared} {m : Str → Option Value} {x : Str} {pos : Pos} {v : Value} {Q : Value → Shared → Prop} (hn : s.heap.Ns env.locals m) (hv : m x = some v) (h : Q v s)
    (hk : env.scope.kind = .function := by rfl) (hl : env.kindOf x = some .local := by rfl) (hd : (x == ("__debug__" : Str)) = false := by decide) :
    wpAny M A (eval (.Name x pos) env) Q E s := wpAny_Name (wpAny_loadName_local hk hl hn hv h) hd
/-- super() in a method of the class at D, its first parameter x of the class at C -/
theorem sup_node {body : List Stmt} {q : Str} {scope : Scope} {p0 p1 : Pos} {attr : Str} {whole : Sem Value} {fd : FuncData} {ar : Arg} {vs : Array Value} {file : Str} {tf : Tok} {oc ccl cl : Value} {od cdd cld : Option Addr} {osl ccs csl : Array (Option Value)} {cdD : ClassData} {Q : Value → Shared → Prop}
    {s : Shared} {L f cda cc x C D : Addr} {ox : Obj} {odx : Option Obj} {m mb : Str → Option Value}
    (X : K.In s.heap) (hns : s.heap.Ns L m) (hg : s.heap.Ns mainGlobals mg) (hb : s.heap.Ns builtinsNs mb) (hmb : mb "super" = some (.type "super"))
    (hf : K.lookup f = some ⟨oc, od, .func fd, osl⟩) (hp : (fd.params.posonlyargs ++ fd.params.args).head? = some ar) (hv : m ar.arg = some (.ref x)) (I : InstAt s.heap x ox C odx)
    (hcode : K.lookup cda = some ⟨ccl, cdd, .fields vs, ccs⟩) (hvs : vs[2]? = some (.str file tf)) (hfile : ((prog.main.file : Str) == file) = true)
    (hcell : K.lookup cc = some ⟨cl, cld, .cell (some (.ref D)), csl⟩) (hD : clsIn K D = some cdD) (hsub : mroIn K C (.ref D) = some true) (hsuper : mg "super" = none)
    (hat : (attr == ("__class__" : Str)) = false) (hks : scope.names.lookup ("super" : Str) = some .globalImplicit) (hkc : scope.names.lookup ("__class__" : Str) = some .free) (hka : scope.names.lookup ar.arg = some .local) (hk : scope.kind = .function)
    (htop : (prog.main.scope.names.lookup ("super" : Str)).isSome = false)
    (hq : ∀ so h', h'.get? so = some (ks_superObj D x C) → s.heap.objs.size ≤ so → (∀ b o, s.heap.get? b = some o → h'.get? b = some o) → Q (.ref so) { s with heap := h' }) :
    _root_.PySem.wpAt (model prog w) A (.func body (ksEnv q scope L f (.ref cda) cc)) (attributeBase (.Call (.Name "super" p0) [] [] p1) attr (ksEnv q scope L f (.ref cda) cc) whole) Q E s := by
  obtain ⟨hh, g, d, t, os⟩ := s
  obtain ⟨oD, hD1, hD2⟩ : ∃ oD, hh.get? D = some oD ∧ oD.data = .cls cdD := by
    unfold clsIn at hD
    split at hD
    · rename_i c d cd' sl ho
      cases hD
      exact ⟨_, X _ _ ho, rfl⟩
    · cases hD
  refine ks_wpAt_super_base (env := ksEnv q scope L f (.ref cda) cc) hks hkc hat rfl (X _ _ hf) rfl hp rfl (X _ _ hcode) rfl hvs hfile htop ?_
  refine ks_loadName_global hk hks (loadGlobal_builtin (env := ksEnv q scope L f (.ref cda) cc) hg hsuper hb hmb ⟨rfl, ?_⟩)
  refine wpAny_loadName_free hk hkc rfl ⟨_, X _ _ hcell, rfl⟩ ?_
  refine wpAny_loadName_local hk hka hns hv ?_
  refine ks_wpAny_isType_cls hD1 hD2 ⟨rfl, ?_⟩
  refine ks_wpAny_call_super hD1 hD2 I.at_ I.cls (fun c e => ?_) (looks_mroIn X hsub) (fun h' e k => ?_)
  · have := I.no
    unfold notCls at this
    rw [e] at this
    exact Bool.noConfusion this
  · exact hq _ _ e (Nat.le_refl _) k
end
end ErrX_part_CFC_str
end PySem
namespace PySem
namespace ErrX_part_CFC_str
open PySem.W PySem.Calls PyProof.Rows PySem.HandSPX
theorem text_len {msg : Str} {i : Str} (hm : msg.length ≤ 1000) (hi : i.length ≤ 1000) : (Str.empty ++ msg ++ i).length ≤ sizeLine := by
  rw [strLen_append, strLen_append, sizeLine_eq]
  have : Str.empty.length = 0 := rfl
  omega
theorem text_len2 {msg msg2 : Str} {i : Str} (hm : msg.length ≤ 1000) (hm2 : msg2.length ≤ 1000) (hi : i.length ≤ 1000) : (Str.empty ++ msg ++ i ++ msg2).length ≤ sizeLine := by
  rw [strLen_append, strLen_append, strLen_append, sizeLine_eq]
  have : Str.empty.length = 0 := rfl
  omega
/-- what __init__ leaves of a fresh exception at x -/
structure InitEnd (h h' : Heap) (x C dx t1 : Addr) (v : Value) : Prop where
  keep : ∀ b o, b ≠ x → h.get? b = some o → h'.get? b = some o
  obj : h'.get? x = some { cls := .ref C, dict := some dx, data := .fields #[.ref t1, .none, .none, .none, .bool false, .none] }
  dbig : h.objs.size ≤ dx
  dne : dx ≠ x
  ns : h'.Ns1 dx (fun y => if y = "part" then some v else none)
/-- a made error -/
structure OwnMade (h h' : Heap) (e C d : Addr) (v : Value) : Prop where
  keep : ∀ b o, h.get? b = some o → h'.get? b = some o
  new : h.objs.size ≤ e
  obj : ∃ oe vs, h'.get? e = some oe ∧ oe.cls = .ref C ∧ oe.dict = some d ∧ oe.data = .fields vs ∧ vs[1]? = some .none
  dbig : h.objs.size ≤ d
  dne : d ≠ e
  ns : h'.Ns1 d (fun y => if y = "part" then some v else none)
section
variable {prog : Program} {w : World} {A : Around} {E : Value → Shared → Prop} {R : Result → Shared → Prop} {s : Shared} {K : Frag} {mg mb : Str → Option Value} {C fI : Addr}
theorem cw1 {M : Model} {pos : Pos} {env : Env} {e : Expr} {rest : List Expr} {Q : Value → Shared → Prop} {u x : Addr} {i : String}
    (h : wpAny M A (spliced (backTo pos (starEach (e :: rest) env))) (fun vs s₁ => KxsAt i u x s₁.heap ∧ wpAny M A (call (.ref u) vs) Q E s₁) E s)
    (he : starEach (e :: rest) env = (false, eval e env) :: starEach rest env := by rfl) (hplain : (backTo pos (starEach rest env)).any (·.1) = false := by rfl) :
    wpAny M A (callWith pos (.ref u) [] (backTo pos (starEach (e :: rest) env)) []) Q E s := by
  rw [he] at h ⊢
  refine kxs_callWith (i := i) (x := x) (by show (false || (backTo pos (starEach rest env)).any (·.1)) = false; rw [hplain]; rfl) ?_
  exact evalArgs_plain h
theorem err_init (T : ErrTxt prog K mg C fI) {x t0 : Addr} {i : Str} {tv : Tok} (hi : i.length ≤ 1000) (X : K.In s.heap) (hlim : s.heap.NoLimit) (hg : s.heap.Ns mainGlobals mg) (hb : s.heap.Ns builtinsNs mb) (hmb : mb "super" = some (.type "super")) (hx : s.heap.get? x = some (excO C t0)) (kx : K.lookup x = none) (hroom : A.depth < recursionLimit)
    (hq : ∀ h' tk dx t1, InitEnd s.heap h' x C dx t1 (.str i tv) → R (.ok (.ret .none)) { s with heap := h', toks := tk }) :
    codeAny (model prog w) A (.call (.ref fI) ⟨[.ref x, .str i tv], []⟩) R s := by
  obtain ⟨qn, msg, msg2, oc, od, doc, pm, an, cda, ct, osl, cc, c1, p1, p2, a1, a2, a3, a4, a5, a6, a7, a8, a9, b1, b2, b3, b4, ho, hcd, hml, hml2, ⟨ccl, cdd, vs, ccs, file, tf, hcode, hvs, hfile⟩, ⟨cl, cld, csl, hcell⟩, pl, hev⟩ := T.fn
  obtain ⟨nm, q, N, bs, bm, sn, sub, ab, col, dd, k0, k1, k2, k3, k5, hC, hbm⟩ := T.cls
  obtain ⟨hp, g, dr, tk, os⟩ := s
  have hcl : clsIn K C = some { name := nm, bases := bs, mro := .ref C :: bm, ns := N, qualname := q, hasDict := true, slotNames := sn, subclasses := sub, abstract := ab, collection := col, hasDel := false } := by unfold clsIn; rw [hC] <;> rfl
  have hal : alongIn K "__init__" bm = some (some (.builtin "ValueError.__init__")) := by
    have z := T.su
    unfold ks_superIn at z
    rw [hcl] at z
    have z' : alongIn K "__init__" (((Value.ref C :: bm).dropWhile (· != .ref C)).drop 1) = some (some (.builtin "ValueError.__init__")) := z
    rw [ESX.drop_own] at z'
    exact z'
  refine ks_codeAny_call_defAt (fd := ksFn "__init__" qn (eA p1 p2) (eB msg msg2 c1 a1 a2 a3 a4 a5 a6 a7 a8 a9 b1 b2 b3 b4) eS .none .none doc pm an (.ref cda) ct cc) (binds := [("self", .ref x), ("part", .str i tv)]) hroom (X _ _ ho) rfl hlim (codeRec_of X hcd) rfl
    (BindsTo.of_eq (by first | rfl | with_unfolding_all rfl)) (show ∀ x ∈ eS.names, x.2 ≠ .cell by decide) (locs rfl) (fun h₁ hns hk₁ => ?_)
  have hxL : hp.objs.size ≠ x := Nat.ne_of_gt (Heap.lt_size hx)
  have X₁ : K.In h₁ := X.keeps hk₁
  have hx₁ := hk₁ _ _ hx
  have hg₁ := hg.keeps hk₁
  have hb₁ := hb.keeps hk₁
  have hlk : K.lookup C = _ := hC
  refine ks_wpAt_execs_cons (ks_wpAt_Expr_any (ks_wpAt_MethodCall (pl := pl _) ?_ (hev _)))
  refine sup_node (D := C) (s := ⟨h₁, g, dr, tk + 2, os⟩) (m := fun x_1 => ([("self", .ref x), ("part", .str i tv)] : List (Str × Value)).reverse.lookup x_1) X₁ hns hg₁ hb₁ hmb ho rfl (by first | rfl | with_unfolding_all rfl | kernel_rfl) (⟨hx₁, rfl, rfl, trivial⟩ : InstAt h₁ x (excO C t0) C none) hcode hvs hfile hcell hcl T.slC T.sup (by decide) rfl rfl rfl rfl T.top fun so h₂ hso hsz hk₂ => ?_
  have X₂ : K.In h₂ := X₁.keeps hk₂
  have hx₂ := hk₂ _ _ hx₁
  have hxC : x ≠ C := ks_ne X₂ (⟨hx₂, rfl, rfl, trivial⟩ : InstAt h₂ x (excO C t0) C none) hcl
  have I₂ : InstAt h₂ x (excO C t0) C none := ⟨hx₂, rfl, rfl, trivial⟩
  refine kxs_getMethod kxs_ValueError hso (looks_opaque X₂ T.opq) (l₀ := .ref C :: bm) (fun A Q E s k q => wpAny_bind ((looks_clsIn X₂ hcl) A _ E s k (wpAny_pure q))) (ESX.drop_own C bm) X₂ hal (I₂.type.andThen (looks_subIn X₂ T.veC)) hxC (by decide) ?_
  have hC₂ : ∀ hh : Heap, (∀ b o, hp.get? b = some o → hh.get? b = some o) → hh.get? C = _ := fun hh k => k _ _ (X _ _ hC)
  have k02 : ∀ b o, hp.get? b = some o → h₂.get? b = some o := fun b o e => hk₂ b o (hk₁ b o e)
  have kp : ∀ b o, h₂.get? b = some o → (h₂.push (kxs_mw "ValueError.__init__" x)).get? b = some o := fun b o e => Heap.get?_push_of_some _ e
  have hu : (h₂.push (kxs_mw "ValueError.__init__" x)).get? h₂.objs.size = some (kxs_mw "ValueError.__init__" x) := Heap.get?_push_size _ rfl
  have hns₂ := (hns.keeps hk₂).keeps kp
  refine cw1 (i := "ValueError.__init__") (x := x) (args_cons (wpAny_JoinedStr ?_))
  show Joins _ _ _ [eval (.Constant (.str msg) 0 a4) _, eval (.FormattedValue (.Name "part" a5) (-1) none a6) _, eval (.Constant (.str msg2) 0 c1) _] _ _ _
  have hz1 : (Str.empty ++ msg).length ≤ sizeLine := by
    rw [strLen_append, sizeLine_eq]
    have : Str.empty.length = 0 := rfl
    omega
  have hz2 := text_len (i := i) hml hi
  refine Calls.Constant_str ⟨msg, _, rfl, hz1, ?_⟩
  refine wpAny_FormattedValue_plain (ldX (v := .str i tv) (m := fun x_1 => ([("self", .ref x), ("part", .str i tv)] : List (Str × Value)).reverse.lookup x_1) hns₂ (by first | rfl | with_unfolding_all rfl | kernel_rfl) (SB.field_str (fun tq kq => ⟨i, tq, rfl, hz2, ?_⟩) (by rw [sizeLine_eq]; omega)))
  have hz3 : (Str.empty ++ msg ++ i ++ msg2).length ≤ sizeLine := text_len2 hml hml2 hi
  refine Calls.Constant_str ⟨msg2, _, rfl, hz3, ?_⟩
  refine ⟨hz3, args_nil ⟨hu, ?_⟩⟩
  refine call_mw (C := C) (hC₂ _ fun b o e => kp b o (k02 b o e)) (kp _ _ hx₂) hu (show (1 : Nat) ≤ sizeLine by rw [sizeLine_eq]; decide) fun h₄ t1 k₄ hx₄ => ?_
  have hxs : x < hp.objs.size := Heap.lt_size hx
  have k04 : ∀ b o, b ≠ x → hp.get? b = some o → h₄.get? b = some o := fun b o hb e => k₄ b o hb (kp b o (k02 b o e))
  have X₄ : K.In h₄ := fun a o e => k04 a o (fun z => by rw [z, kx] at e; cases e) (X a o e)
  have hns₄ : h₄.Ns hp.objs.size (fun x_1 => ([("self", .ref x), ("part", .str i tv)] : List (Str × Value)).reverse.lookup x_1) := by
    obtain ⟨oL, es, ep, e1, r⟩ := hns₂
    exact ⟨oL, es, ep, k₄ _ _ hxL e1, r⟩
  refine ks_wpAt_execs_cons (wpAt_of_wpAny (plainObj_wpAny_Assign_Attribute ?_))
  refine ldX (v := .str i tv) hns₄ (by first | rfl | with_unfolding_all rfl | kernel_rfl) (ldX (v := .ref x) hns₄ (by first | rfl | with_unfolding_all rfl | kernel_rfl) ?_)
  refine set_plain X₄ (ox := excO C t1) (od := none) ⟨hx₄, rfl, rfl, trivial⟩ T.sa ?_
  refine exc_osa X₄ hx₄ hcl (show refsVE (.ref C :: bm) = true from hbm) rfl T.noN (fun h₅ tk₅ dx k₅ dn dne hx₅ hn₅ => ?_)
  refine wpAt_of_wpAny (wpAny_execs_nil (hq h₅ tk₅ dx t1 ⟨fun b o hb e => k₅ b o hb (k04 b o hb e), hx₅, ?_, dne, hn₅⟩))
  have z : hp.objs.size < h₄.objs.size := hns₄.lt
  exact Nat.le_of_lt (Nat.lt_of_lt_of_le z dn)
theorem err_made (T : ErrTxt prog K mg C fI) {i : Str} {tv : Tok} (hi : i.length ≤ 1000) (X : K.In s.heap) (hlim : s.heap.NoLimit) (hg : s.heap.Ns mainGlobals mg) (hb : s.heap.Ns builtinsNs mb) (hmb : mb "super" = some (.type "super")) (hroom : A.depth + 1 < recursionLimit)
    (hq : ∀ h' tk e d, OwnMade s.heap h' e C d (.str i tv) → R (.ok (.ret (.ref e))) { s with heap := h', toks := tk }) :
    codeAny (model prog w) A (.call (.ref C) ⟨[.str i tv], []⟩) R s := by
  obtain ⟨nm, q, N, bs, bm, sn, sub, ab, col, dd, k0, k1, k2, k3, k5, hC, hbm⟩ := T.cls
  obtain ⟨hp, g, dr, tk, os⟩ := s
  have k : ∀ b o, hp.get? b = some o → ((hp.push (kdv_tup [.str i tv])).push (excO C hp.objs.size)).get? b = some o := fun b o e => Heap.get?_push_of_some _ (Heap.get?_push_of_some _ e)
  have hget : ((hp.push (kdv_tup [.str i tv])).push (excO C hp.objs.size)).get? (hp.objs.size + 1) = some (excO C hp.objs.size) := by heap_get
  have hnx : K.lookup (hp.objs.size + 1) = none := by
    cases e : K.lookup (hp.objs.size + 1) with
    | none => rfl
    | some o =>
      have z : hp.get? (hp.objs.size + 1) = some o := X _ _ e
      exact absurd (Nat.lt_of_succ_lt (Heap.lt_size z)) (Nat.lt_irrefl _)
  refine call_own F.excBase_ValueError (fun X => refsVE_contains X bm hbm) (X _ _ hC) (looks_findIn X T.iC) (fun self => bind_fn X self T.tC) (show (1 : Nat) ≤ sizeLine by rw [sizeLine_eq]; decide) ?_
  refine err_init (s := ⟨(hp.push (kdv_tup [.str i tv])).push (excO C hp.objs.size), g, dr, tk, os⟩) T hi (X.keeps k) (hlim.keeps k) (hg.keeps k) (hb.keeps k) hmb hget hnx ?_ fun h' tk' dx t1 ⟨k', hx, dn, dne, hns⟩ => ?_
  · show A.depth + 1 < recursionLimit
    exact hroom
  · have old : ∀ b o, hp.get? b = some o → h'.get? b = some o := fun b o e => k' b o (Nat.ne_of_lt (Nat.lt_succ_of_lt (Heap.lt_size e))) (k b o e)
    have z : hp.objs.size + 1 + 1 ≤ dx := by
      first
        | (simpa only [Heap.size_push] using dn)
        | exact dn
        | (have q := dn; rw [Heap.size_push, Heap.size_push] at q; exact q)
    exact ⟨rfl, hq h' tk' (hp.objs.size + 1) dx ⟨old, Nat.le_succ _, ⟨_, _, hx, rfl, rfl, rfl, rfl⟩, Nat.le_trans (Nat.le_trans (Nat.le_succ _) (Nat.le_succ _)) z, dne, hns⟩⟩
end
end ErrX_part_CFC_str
end PySem
namespace L2
open PySem PySem.Spec PyProof.Rows
theorem relO_place_part_CFC_str {v : V} {v' : Value} (r : RelV v v') (f : Str) : RelO (List.lookup f [(("part" : Str), v)]) (if f = "part" then some v' else none) := by
  by_cases hw : f = "part"
  · subst hw
    rw [if_pos rfl]
    have q : List.lookup ("part" : Str) [(("part" : Str), v)] = some v := by simp [List.lookup]
    rw [q]
    exact r
  · rw [if_neg hw]
    have qw : (f == ("part" : Str)) = false := by simpa using hw
    have q2 : List.lookup f [(("part" : Str), v)] = none := by simp [List.lookup, qw]
    rw [q2]
    trivial
section
variable {X : Cx} {C fI : Addr}
/-- Err(e) -/
def tMkErr_part_CFC_str (C : Addr) (ta : TA) : L2.St → Hp → XK → Prop := fun σ H Q => ta σ H fun vs H1 => ∃ i : Str, vs = [.str i] ∧ i.length ≤ 1000 ∧ ∀ d, H1 d = none → Q (.ref C) (some d) (upd H1 d (.xd [(("part" : Str), .str i)]))
theorem pmk_err_part_CFC_str {a : Expr} {ta : TA} {x : Str} {p pos : Pos} {k : Nat} (T : PySem.ErrX_part_CFC_str.ErrTxt X.prog X.K X.mg C fI) (gC : X.mg x = some (.ref C)) (hr : Room k X.A) (ha : PA X [a] ta) (hg : Gl X x := by rfl) (hdb : (x == ("__debug__" : Str)) = false := by decide)
    (he : starEach (a :: []) X.env = (false, eval a X.env) :: starEach [] X.env := by rfl) (hpl : (backTo pos (starEach [] X.env)).any (·.1) = false := by rfl) :
    PMk X (.Call (.Name x p) [a] [] pos) (tMkErr_part_CFC_str C ta) := by
  intro pins s σ H Q I h
  refine wpAny_Call_Name_kw (ld_glob I hg gC ?_ hdb)
  refine PySem.W.callWith_K (h₀ := X.base) I.ok.mod.kin T.kC (thn (ha.run pos pins s σ H _ I h) fun us s1 hh => ?_) he hpl
  obtain ⟨vs, H1, I1, r1, i, ev, hi, q1⟩ := hh
  subst ev
  refine ⟨I1.kIn, ?_⟩
  cases r1 with
  | cons rv rn =>
    rename_i v' us'
    cases rn
    obtain ⟨tv, rfl⟩ := rv
    show wpAny _ _ (call (.ref C) [.str i tv]) _ _ _
    have hlim := I1.nolimit
    obtain ⟨mb, hb, hmb⟩ := I1.mod.blt
    have hg1 := I1.mod.glob.keeps I1.bk
    have hb1 := hb.keeps I1.bk
    have hsup : mb "super" = some (.type "super") := (hmb "super" (by decide)).trans (by first | rfl | kernel_rfl | decide +kernel)
    have hkIn := I1.kIn
    obtain ⟨hp, g, dr, tk, os⟩ := s1
    refine wpAny_call (PySem.ErrX_part_CFC_str.err_made T hi hkIn hlim hg1 hb1 hsup (by have := hr.dp; omega) fun h' tk' e d M => ?_)
    show MkP X pins σ Q (.ref e) ⟨h', g, dr, tk', os⟩
    obtain ⟨oe, fv, hoe, hc, hd, hdat, h1⟩ := M.obj
    have hns := M.ns
    obtain ⟨G', g1, g2⟩ := restrict h' fun b => decide (b ≠ e)
    have gk : ∀ b, b ≠ e → G'.get? b = h'.get? b := fun b hb => g1 b (decide_eq_true hb)
    have ge : G'.get? e = none := g2 e (by simp)
    have old : ∀ b o, hp.get? b = some o → G'.get? b = some o := fun b o q => (gk b (Nat.ne_of_lt (Nat.lt_of_lt_of_le (Heap.lt_size q) M.new))).trans (M.keep b o q)
    have ob : ObjOk X.prog X.w (upd H1 d (.xd [(("part" : Str), .str i)])) G' d (.xd [(("part" : Str), .str i)]) :=
      ⟨_, hns.at (fun o q => (gk d M.dne).trans q), fun f => relO_place_part_CFC_str (v := .str i) (v' := .str i tv) ⟨_, rfl⟩ f⟩
    have J : Inv X pins σ (upd H1 d (.xd [(("part" : Str), .str i)])) ⟨G', g, dr, tk', os⟩ := I1.laid (t' := tk') old M.dbig ob
    refine ⟨e, oe, fv, ⟨G', g, dr, tk', os⟩, _, .ref C, some d, rfl, J, fun b o q => ?_, ge, hoe, ⟨hc, hd⟩, hdat, h1, ?_, rfl, I1.bare, raises_own T.exC T.tyC, q1 d (I1.hok.fresh M.dbig)⟩
    · by_cases hb : b = e
      · have q' : G'.get? b = some o := q
        rw [hb, ge] at q'; cases q'
      · exact (gk b hb).symm.trans q
    · rw [upd_ne (Ne.symm M.dne)]
      exact I1.hok.fresh M.new
/-- err.place, err the exception that the suite holds (at a; its class cls, its dict d) -/
def tPlace_part_CFC_str (C : Addr) (a : Addr) (cls : Value) (d : Option Addr) (te : TE) : TE := fun σ H Q => te σ H fun x H1 => x = .ref a ∧ cls = .ref C ∧ ∃ (dd : Addr) (v : V), d = some dd ∧ H1 dd = some (.xd [(("part" : Str), v)]) ∧ Q v H1
theorem pe_place_part_CFC_str {P : Program} {a : Addr} {oe : Obj} {cls : Value} {d : Option Addr} {pn : List (Addr × Obj)} {e : Expr} {te : TE} {pos : Pos} (T : PySem.ErrX_part_CFC_str.ErrTxt P X.K X.mg C fI) (hz : Zc cls d oe) (hf : ∃ vs, oe.data = .fields vs) (he : PE (X.suite a ((a, oe) :: pn)) e te)
    (hb : attributeBase e "part" X.env (eval e X.env) = eval e X.env := by rfl) :
    PE (X.suite a ((a, oe) :: pn)) (.Attribute e "part" pos) (tPlace_part_CFC_str C a cls d te) := by
  refine ⟨fun pins s σ H Q I h => ?_⟩
  refine attr_of hb (thn (he.run pins s σ H _ I h) fun u s1 hh => ?_)
  obtain ⟨x, H1, I1, rx, ex, ec, dd, v, ed, ea, q⟩ := hh
  subst ex
  obtain rfl : u = Value.ref a := rx
  subst ec
  subst ed
  obtain ⟨ha, _⟩ := I1.pin (a, oe) (List.mem_append_left _ List.mem_cons_self)
  obtain ⟨vs, hd⟩ := hf
  have hx : ObjOk X.prog X.w H1 s1.heap dd (.xd [(("part" : Str), v)]) := I1.hok dd _ ea
  obtain ⟨mA, hns, hr⟩ := hx
  obtain ⟨od, ho, hl⟩ := lookIn_ns hns
  have l : List.lookup ("part" : Str) [(("part" : Str), v)] = some v := by simp [List.lookup]
  obtain ⟨u, hu, ru⟩ := RelO.some_of (v := v) (o := mA "part") (by rw [← l]; exact hr "part")
  have J : PySem.W.InstAt s1.heap a oe C (some od) := ⟨ha, hz.1, by unfold PySem.W.notCls; rw [hd] <;> rfl, by rw [hz.2]; exact ho⟩
  exact HandSPX.exc_get I1.kIn J T.ga T.gg T.exC (PySem.W.findObj_own T.hdC T.noN rfl (by rw [hl, hu])) (handed_of ru) ⟨v, H1, I1.tok _, ru, q⟩
theorem pmk_errE_part_CFC_str {a : Expr} {ta : TA} {x : Str} {p pos : Pos} {k : Nat} (T : ∃ fI, PySem.ErrX_part_CFC_str.ErrTxt X.prog X.K X.mg C fI) (gC : X.mg x = some (.ref C)) (hr : Room k X.A) (ha : PA X [a] ta) (hg : Gl X x := by rfl) (hdb : (x == ("__debug__" : Str)) = false := by decide)
    (he : starEach (a :: []) X.env = (false, eval a X.env) :: starEach [] X.env := by rfl) (hpl : (backTo pos (starEach [] X.env)).any (·.1) = false := by rfl) :
    PMk X (.Call (.Name x p) [a] [] pos) (tMkErr_part_CFC_str C ta) := by
  obtain ⟨fI, T⟩ := T
  exact pmk_err_part_CFC_str T gC hr ha hg hdb he hpl
theorem pe_placeE_part_CFC_str {P : Program} {a : Addr} {oe : Obj} {cls : Value} {d : Option Addr} {pn : List (Addr × Obj)} {e : Expr} {te : TE} {pos : Pos} (T : ∃ fI, PySem.ErrX_part_CFC_str.ErrTxt P X.K X.mg C fI) (hz : Zc cls d oe) (hf : ∃ vs, oe.data = .fields vs) (he : PE (X.suite a ((a, oe) :: pn)) e te)
    (hb : attributeBase e "part" X.env (eval e X.env) = eval e X.env := by rfl) :
    PE (X.suite a ((a, oe) :: pn)) (.Attribute e "part" pos) (tPlace_part_CFC_str C a cls d te) := by
  obtain ⟨fI, T⟩ := T
  exact pe_place_part_CFC_str T hz hf he hb
end
end L2
/-! ### isinstance(e, c) of a caught error that has fields -/
namespace PySem.W
open PySem PySem.Spec PySem.Calls PyProof.Rows
section
variable {prog : Program} {w : World} {A : Around} {E : Value → Shared → Prop} {s : Shared} {K : Frag} {x D : Addr} {ox : Obj} {od : Option Obj}
theorem findObj_dataO {C : Addr} {name : Str} {a g : Value} (hc : (clsIn K C).isSome = true) (ha : findIn K (.ref C) name = some (some a)) (hg : specialIn K a "__get__" = some (some g)) (ht : takesIn K a = some true) : findObj K C od name = some (.bind g a) := by
  obtain ⟨cd, hc⟩ := Option.isSome_iff_exists.mp hc
  unfold findObj
  rw [hc, Option.bind_some, ha, Option.bind_some]
  simp [hg, ht]
theorem errx_class {Q : Option Value → Shared → Prop} (hga : findIn K (.ref D) "__getattribute__" = some (some (.builtin "BaseException.__getattribute__"))) (hgt : findIn K (.ref D) "__getattr__" = some none) (hsub : subIn K (.ref D) (.type "BaseException") = some true)
    (hdct : hasDictIn K D = true) (ha : findIn K (.ref D) "__class__" = some (some (.builtin "object.__class__")))
    (hn : specialIn K (.builtin "object.__class__") "__get__" = some (some (.builtin "getset_descriptor.__get__"))) (htk : takesIn K (.builtin "object.__class__") = some true) (hm : mroIn K D (.type "object") = some true)
    (X : K.In s.heap) (I : InstAt s.heap x ox D od) (h : Q (some (.ref D)) { s with toks := s.toks + 1 }) : wpAny (model prog w) A (getAttr? (.ref x) "__class__") Q E s := by
  have hf : findObj K D od "__class__" = some (.bind (.builtin "getset_descriptor.__get__") (.builtin "object.__class__")) := findObj_dataO (by obtain ⟨cd, hc, _⟩ := any_some hdct; rw [hc]; rfl) ha hn htk
  obtain ⟨hp, g, d, t, os⟩ := s
  have L0 := I.type (M := model prog w)
  have L1 := looks_findIn (M := model prog w) X hga
  have L2 := looks_findIn (M := model prog w) X hgt
  have L3 := looks_find (M := model prog w) X I hf
  have sub : Looks (model prog w) hp (isInstance (.ref x) (.type "BaseException")) true := L0.andThen (looks_subIn X hsub)
  have hx0 : (false && onTheHeap (Value.builtin "BaseException.__getattribute__")) = false := rfl
  have hx2 : (Value.builtin "BaseException.__getattribute__" == Value.builtin "object.__getattribute__") = false := by decide +kernel
  have hx1 : (onTheHeap (Value.ref D) && Value.builtin "BaseException.__getattribute__" == Value.builtin "object.__getattribute__") = false := by rw [hx2]; rfl
  unfold getAttr? getAttrBy? getAttrBy
  refine wpAny_bind (wpAny_mkText (wpAny_bind (wpAny_attempt (wpAny_holding (wpAny_bind (L0.at (wpAny_bind (L1.at ?_))))))))
  show wpAny _ _ (if (onTheHeap (Value.ref D) && Value.builtin "BaseException.__getattribute__" == Value.builtin "object.__getattribute__") = true then _ else _) _ _ _
  rw [hx1, if_neg Bool.false_ne_true]
  unfold getAttrByItsOwn hookBefore
  refine wpAny_bind ?_
  rw [if_pos (show onTheHeap (Value.ref D) = true from rfl)]
  refine L2.at ?_
  refine wpAny_bind (wpAny_attempt (wpAny_holding ?_))
  unfold callGetattribute
  rw [hx0, if_neg Bool.false_ne_true]
  unfold boundAndCalled
  rw [PySem.F.excAttr_ValueError.ga.bind (.ref x)]
  refine wpAny_bind (wpAny_pure ?_)
  show wpAny _ _ (call (.builtin "BaseException.__getattribute__") [.ref x, .str "__class__" t]) _ _ _
  refine wpAny_call (codeAny_call_builtin PySem.F.excAttr_ValueError.ga.plain PySem.F.entry_bexc_ga ?_)
  refine @check_slot (model prog w) _ _ ⟨hp, g, d, t + 1, os⟩ "BaseException.__getattribute__" "BaseException" "__getattribute__" (.ref x) [.str "__class__" t] [] _ (by decide +kernel) (by decide +kernel) sub (PySem.F.args_bexc_ga (.ref x) (.str "__class__" t)) ?_
  unfold Builtin.«object.__getattribute__»
  refine wpAny_bind (wpAny_of_eq (a := ((Value.ref x : Value), [Value.str "__class__" t])) (by first | rfl | (simp only [slotArgs]; rfl)) ?_)
  refine wpAny_bind (wpAny_pure (wpAny_bind (L0.at (wpAny_bind (L3.at ?_)))))
  show wpAny _ _ (holding [Value.builtin "object.__class__"] (call (.builtin "getset_descriptor.__get__") [.builtin "object.__class__", .ref x, .ref D]) >>= ret) _ _ _
  refine wpAny_bind (wpAny_holding (wpAny_call (class_get (s := ⟨hp, g, d, t + 1, os⟩) (ox := ox) (od := od) X I hm ?_)))
  refine wpAny_pure ?_
  show wpAny _ _ (handedOut (.ref D)) _ _ _
  rw [handedOut_of (v := .ref D) rfl]
  first
    | exact wpAny_pure (wpAny_pure h)
    | exact wpAny_pure h
    | exact wpAny_pure (wpAny_bind (wpAny_pure (wpAny_pure h)))
theorem errx_kit (hga : findIn K (.ref D) "__getattribute__" = some (some (.builtin "BaseException.__getattribute__"))) (hgt : findIn K (.ref D) "__getattr__" = some none) (hsub : subIn K (.ref D) (.type "BaseException") = some true) (hdct : hasDictIn K D = true) (ha : findIn K (.ref D) "__class__" = some (some (.builtin "object.__class__")))
    (hn : specialIn K (.builtin "object.__class__") "__get__" = some (some (.builtin "getset_descriptor.__get__"))) (htk : takesIn K (.builtin "object.__class__") = some true) (hm : mroIn K D (.type "object") = some true) :
    KitX K (.ref x) (.ref D) (fun h => InstAt h x ox D od) where
  ty := fun _ _ _ I => I.type
  it := fun _ _ X _ => by
    obtain ⟨cdD, hcD, _⟩ := any_some hdct
    unfold clsIn at hcD
    split at hcD
    · rename_i c' d' cd' sl' ho
      intro A' Q' E' s' k q
      unfold isType loadHead
      exact wpAny_bind (wpAny_loadPart (k _ _ (X _ _ ho)) (wpAny_pure q))
    · cases hcD
  ne := fun h tp dd its n sl X htp => by
    obtain ⟨cdD, hcD, _⟩ := any_some hdct
    refine Bool.eq_false_iff.mpr fun q => ?_
    have e : D = tp := Value.ref.inj (beq_iff_eq.mp q)
    subst e
    unfold clsIn at hcD
    split at hcD
    · rename_i c' d' cd' sl' ho
      have z := (X _ _ ho).symm.trans htp
      cases z
    · cases hcD
  ca := fun X I k => errx_class hga hgt hsub hdct ha hn htk hm X I k
end
end PySem.W
namespace L2
open PySem PySem.Spec PyProof.Rows
/-- isinstance(e, c): e's own dict is tracked -/
theorem call_isErr {X : Cx} {a D : Addr} {oe : Obj} {cls : Value} {d : Option Addr} {pn : List (Addr × Obj)} (C : ExcC X.K D) (hz : Zc cls d oe) (hf : ∃ vs, oe.data = .fields vs) :
    CallR (X.suite a ((a, oe) :: pn)) (.builtin "isinstance") (fun xs H Q => cls = .ref D ∧ (∃ (dd : Addr) (fs : List (Str × V)), d = some dd ∧ H dd = some (.xd fs)) ∧ rIsE X.K D a xs H Q) := by
  intro pins s σ H xs us Q I r h
  obtain ⟨rfl, ⟨dd, fs, rfl, hdd⟩, c, cv, b, rfl, hcv, e, q⟩ := h
  cases r with
  | cons rx rr =>
    cases rr with
    | cons rt rr =>
      cases rr
      cases rx
      have ec := hcv _ rt
      subst ec
      obtain ⟨hget, _⟩ := I.pin (a, oe) (List.mem_append.mpr (.inl List.mem_cons_self))
      obtain ⟨vs, hv⟩ := hf
      obtain ⟨mA, hns, hr⟩ := I.hok dd _ hdd
      obtain ⟨od, ho, hl⟩ := lookIn_ns hns
      have J : PySem.W.InstAt s.heap a oe D (some od) := ⟨hget, hz.1, by unfold PySem.W.notCls; rw [hv] <;> rfl, by rw [hz.2]; exact ho⟩
      exact PySem.W.kia_one (PySem.W.errx_kit C.hg C.hk C.hs C.hd C.ha C.hn C.ht C.hm) I.kIn J e (fun z => nomatch z) fun tk => ⟨.bl b, H, I.kept (t' := tk) fun _ _ z => z, rfl, q⟩
end L2
namespace My
open PySem PySem.Spec PyProof.Rows L2
/-! ### callables of the text: a def by its name, a method, a class -/
structure Cal (CX : CXT) (P : Program) (w : World) (K : PySem.W.Frag) (mg : Str → Option Value) (base : Heap) (k : Nat) (x : Str) (sp : Sp) : Prop where
  ex : ∃ (f : Addr) (fd : FuncData) (ps : List Str), FnOk P w K mg base CX k f fd ps sp ∧ mg x = some (.ref f) ∧ PySem.W.keepIn K (.ref f) = true ∧ Binds K fd ps []
structure Met (CX : CXT) (P : Program) (w : World) (K : PySem.W.Frag) (mg : Str → Option Value) (base : Heap) (k : Nat) (C : Addr) (m : Str) (sp : Sp) : Prop where
  ex : ∃ (f : Addr) (fd : FuncData) (ps : List Str), Cls K C ∧ Meth K C m f ∧ FnOk P w K mg base CX k f fd ps sp ∧ Binds K fd ps []
  fi : ∀ f, PySem.W.findIn K (.ref C) m = some (some (.ref f)) → PySem.W.fnIn K f = true
structure Mak (CX : CXT) (P : Program) (w : World) (K : PySem.W.Frag) (mg : Str → Option Value) (base : Heap) (k : Nat) (x : Str) (C : Addr) (sp : Sp) : Prop where
  ex : ∃ (f : Addr) (fd : FuncData) (ps : List Str), Mk K C f ∧ FnOk P w K mg base CX k f fd ps sp ∧ mg x = some (.ref C) ∧ Binds K fd ps []
section
variable {CX : CXT} {P : Program} {w : World} {K : PySem.W.Frag} {mg : Str → Option Value} {base : Heap} {k : Nat} {x m : Str} {f C : Addr} {fd : FuncData} {ps : List Str} {sp : Sp}
theorem cal_mk (F : FnOk P w K mg base CX k f fd ps sp) (m : mg x = some (.ref f)) (kp : PySem.W.keepIn K (.ref f) = true) (b : Binds K fd ps []) : Cal CX P w K mg base k x sp := ⟨f, fd, ps, F, m, kp, b⟩
theorem met_mk (F : FnOk P w K mg base CX k f fd ps sp) (c : Cls K C) (me : Meth K C m f) (b : Binds K fd ps []) (fi : PySem.W.fnIn K f = true) : Met CX P w K mg base k C m sp := ⟨⟨f, fd, ps, c, me, F, b⟩, fun g h => by
  have z := me.at_.symm.trans h
  cases z
  exact fi⟩
theorem fn_in {oc : Value} {od : Option Addr} {fdx : FuncData} {sl : Array (Option Value)} (l : K.lookup f = some ⟨oc, od, .func fdx, sl⟩) : PySem.W.fnIn K f = true := by
  unfold PySem.W.fnIn
  rw [l]
theorem mak_mk (F : FnOk P w K mg base CX k f fd ps sp) (m : mg x = some (.ref C)) (M : Mk K C f) (b : Binds K fd ps []) : Mak CX P w K mg base k x C sp := ⟨f, fd, ps, M, F, m, b⟩
end
section
variable {X : Cx} {CX : CXT} {k j : Nat} {C : Addr} {x m : Str} {sp : Sp} {E : XK} {p pos apos : Pos} {e o : Expr} {es : List Expr} {ta : TE} {t : TA}
theorem pc_c (c : Cal CX X.prog X.w X.K X.mg X.base k x sp) (hr : Room j X.A) (hk : k ≤ j) (hg : Gl X x) (hx : Passes CX X E) (ha : PA X (e :: es) t)
    (hdb : (x == ("__debug__" : Str)) = false := by decide) (he : starEach (e :: es) X.env = (false, eval e X.env) :: starEach es X.env := by rfl) (hpl : (backTo pos (starEach es X.env)).any (·.1) = false := by rfl) :
    PE X (.Call (.Name x p) (e :: es) [] pos) (tCall sp [] E t) := by
  obtain ⟨f, fd, ps, F, hm, kp, b⟩ := c.ex
  exact pe_call F (hr.mono hk) hg hm kp b .nil hx ha hdb he hpl
theorem pc_cS {E : L2.St → XK} (c : Cal CX X.prog X.w X.K X.mg X.base k x sp) (hr : Room j X.A) (hk : k ≤ j) (hg : Gl X x) (hx : ∀ σ, PassesAt CX X σ (E σ)) (ha : PA X (e :: es) t)
    (hdb : (x == ("__debug__" : Str)) = false := by decide) (he : starEach (e :: es) X.env = (false, eval e X.env) :: starEach es X.env := by rfl) (hpl : (backTo pos (starEach es X.env)).any (·.1) = false := by rfl) :
    PE X (.Call (.Name x p) (e :: es) [] pos) (tCallS sp E t) := by
  obtain ⟨f, fd, ps, F, hm, kp, b⟩ := c.ex
  exact pe_callS F (hr.mono hk) hg hm kp b hx ha hdb he hpl
theorem pc_mk (c : Mak CX X.prog X.w X.K X.mg X.base k x C sp) (hr : Room j X.A) (hk : k + 1 ≤ j) (hg : Gl X x) (hx : Passes CX X E) (ha : PA X (e :: es) t)
    (hdb : (x == ("__debug__" : Str)) = false := by decide) (he : starEach (e :: es) X.env = (false, eval e X.env) :: starEach es X.env := by rfl) (hpl : (backTo pos (starEach es X.env)).any (·.1) = false := by rfl) :
    PE X (.Call (.Name x p) (e :: es) [] pos) (tMake C sp [] E t) := by
  obtain ⟨f, fd, ps, M, F, hm, b⟩ := c.ex
  exact pe_make M F (hr.mono hk) hg hm b .nil hx ha hdb he hpl
/-- a class made where a try stands around: what is raised is wished for at the slots -/
def tMakeS (C : Addr) (sp : Sp) (E : L2.St → XK) (t : TA) : TE := fun σ H Q => t σ H fun vs H1 => ∀ x dx, H1 x = none → H1 dx = none → dx ≠ x →
  sp (.ref x :: (vs ++ [])) (upd (upd H1 dx (.own x)) x (.ins C dx [])) (fun v H2 => v = .non ∧ Q (.ref x) H2) (E σ)
theorem run_mkS {f : Addr} {fd : FuncData} {ps : List Str} {ds : List Value} {dvs : List V} {pins : List (Addr × Obj)} {σ : L2.St} {H : Hp} {s : Shared} {Q : VK} {us : List Value} {vs : List V} (M : Mk X.K C f) (F : FnOk X.prog X.w X.K X.mg X.base CX k f fd ps sp) (hr : Room (k + 1) X.A) (hb : Binds X.K fd ps ds) (hd : Vals dvs ds)
    (hx : PassesAt CX X σ E) (I : Inv X pins σ H s) (r : Vals vs us)
    (h : ∀ x dx, H x = none → H dx = none → dx ≠ x → sp (.ref x :: (vs ++ dvs)) (upd (upd H dx (.own x)) x (.ins C dx [])) (fun v H2 => v = .non ∧ Q (.ref x) H2) E) :
    wpAny (model X.prog X.w) X.A (call (.ref C) us) (EP X pins σ Q) X.xe s := by
  have hq := h (s.heap.objs.size + 1) s.heap.objs.size (I.hok.fresh (Nat.le_succ _)) (I.hok.fresh (Nat.le_refl _)) (Nat.ne_of_lt (Nat.lt_succ_self _))
  have I2 := Inv.made (C := C) I
  have r2 : Vals (V.ref (s.heap.objs.size + 1) :: (vs ++ dvs)) (Value.ref (s.heap.objs.size + 1) :: (us ++ ds)) := .cons rfl (r.append hd)
  have hl : (Value.ref (s.heap.objs.size + 1) :: us ++ ds).length = ps.length := by
    have e := r2.length
    rw [F.len _ _ _ _ hq] at e
    exact e.symm
  refine wpAny_call (make_map (f := f) I.kIn M.makes M.init (beq_iff_eq.mp M.fn) (codeAny_mono (F.run _ X.stack _ _ ⟨Value.ref (s.heap.objs.size + 1) :: us, []⟩ (Value.ref (s.heap.objs.size + 1) :: (us ++ ds)) _ _ E (hr.make C us [])
    (I2.env0.make C us []) (hb _ (Value.ref (s.heap.objs.size + 1) :: us) I2.kIn hl) r2 hq) fun r s' hq' => ?_))
  cases r with
  | error e => exact hx pins _ _ e s' I2 hq'
  | ok fl =>
    cases fl with
    | ret u =>
      obtain ⟨v, H', I3, rv, ev, q3⟩ := I2.after hq'
      subst ev
      exact ⟨rv, ⟨V.ref (s.heap.objs.size + 1), H', I3, rfl, q3⟩⟩
    | next => exact False.elim hq'
    | brk => exact False.elim hq'
    | cont => exact False.elim hq'
theorem pc_mkS {E : L2.St → XK} (c : Mak CX X.prog X.w X.K X.mg X.base k x C sp) (hr : Room j X.A) (hk : k + 1 ≤ j) (hg : Gl X x) (hx : ∀ σ, PassesAt CX X σ (E σ)) (ha : PA X (e :: es) t)
    (hdb : (x == ("__debug__" : Str)) = false := by decide) (he : starEach (e :: es) X.env = (false, eval e X.env) :: starEach es X.env := by rfl) (hpl : (backTo pos (starEach es X.env)).any (·.1) = false := by rfl) :
    PE X (.Call (.Name x p) (e :: es) [] pos) (tMakeS C sp E t) := by
  obtain ⟨f, fd, ps, M, F, hm, b⟩ := c.ex
  refine ⟨fun pins s σ H Q I h => ?_⟩
  refine wpAny_Call_Name_kw (ld_glob I hg hm ?_ hdb)
  refine PySem.W.callWith_K (h₀ := X.base) I.ok.mod.kin M.kp (thn (ha.run pos pins s σ H _ I h) fun us s1 ⟨vs, H1, I1, r, q⟩ => ⟨I1.kIn, ?_⟩) he hpl
  exact run_mkS M F (hr.mono hk) b .nil (hx σ) I1 r q
theorem pc_mt {pl : Sem Bool} (c : Met CX X.prog X.w X.K X.mg X.base k C m sp) (hr : Room j X.A) (hk : k ≤ j) (hx : Passes CX X E) (he : PE X o ta) (ha : PA X (e :: es) t)
    (hst : starEach (e :: es) X.env = (false, eval e X.env) :: starEach es X.env := by rfl) (hpl : (backTo pos (starEach es X.env)).any (·.1) = false := by rfl)
    (ht : eval (.Call (.Attribute o m apos) (e :: es) [] pos) X.env = (do
      let ov ← eval o X.env
      standAt apos.atName
      let (f, first) ← holding [ov] (getMethod ov m pl)
      callWith pos f first (backTo pos (starEach (e :: es) X.env)) (backToKw pos (keywordEach [] X.env))) := by rfl) :
    PE X (.Call (.Attribute o m apos) (e :: es) [] pos) (tMeth C m sp [] E ta t) := by
  obtain ⟨f, fd, ps, hc, hm, F, b⟩ := c.ex
  exact pe_meth (pl := pl) he hc hm F (hr.mono hk) b .nil hx ha hst hpl ht
theorem pc_mt0 {pl : Sem Bool} (c : Met CX X.prog X.w X.K X.mg X.base k C m sp) (hr : Room j X.A) (hk : k ≤ j) (hx : Passes CX X E) (he : PE X o ta)
    (ht : eval (.Call (.Attribute o m apos) [] [] pos) X.env = (do
      let ov ← eval o X.env
      standAt apos.atName
      let (f, first) ← holding [ov] (getMethod ov m pl)
      callWith pos f first (backTo pos (starEach [] X.env)) (backToKw pos (keywordEach [] X.env))) := by rfl) :
    PE X (.Call (.Attribute o m apos) [] [] pos) (tMeth C m sp [] E ta tNil) := by
  obtain ⟨f, fd, ps, hc, hm, F, b⟩ := c.ex
  exact pe_meth0 (pl := pl) he hc hm F (hr.mono hk) b .nil hx ht
/-! ### further operators -/
/-- * : one factor small, or both below a million bits together -/
def CMulA (i j : Int) : Prop := CMul i j ∨ CMulW i j
theorem op_mulA : OpR X (binaryOp .Mult) (rI CMulA fun i j => .int (i * j)) := opI fun _ _ _ _ _ _ _ hc q => mul_int q (hc.elim CMul.ok CMulW.ok)
/-- // by any divisor but 0 that is no giant -/
def CDivA (_ j : Int) : Prop := j ≠ 0 ∧ j.natAbs.log2 < 9000
theorem op_fdivA : OpR X (binaryOp .FloorDiv) (rI CDivA fun i j => .int (i.fdiv j)) := opI fun _ _ _ _ _ _ _ hc q => floordiv_int hc.1 q (.inl (PyProof.noPylong_of_log2 hc.2))
theorem divA {i j : Int} {b : Nat} (h : j ≠ 0) (hb : j.natAbs < 2 ^ b) (h0 : 0 < b) (h9 : b ≤ 9000) : CDivA i j := ⟨h, Nat.lt_of_lt_of_le (PySem.Flt.log2_lt_of h0 hb) h9⟩
end
/-! ### heaps: all but what stands at p is kept -/
def Kp (p : Addr) (H H' : Hp) : Prop := ∀ b o, b ≠ p → H b = some o → H' b = some o
theorem Kp.refl {p : Addr} {H : Hp} : Kp p H H := fun _ _ _ h => h
theorem Kp.trans {p : Addr} {H H1 H2 : Hp} (a : Kp p H H1) (b : Kp p H1 H2) : Kp p H H2 := fun c o n h => b c o n (a c o n h)
theorem Kp.upd {p : Addr} {H : Hp} {o : HO} : Kp p H (upd H p o) := fun _ _ n h => by rw [upd_ne n]; exact h
theorem Kp.same {p : Addr} {H0 H H' : Hp} (s : Same H0 H) (k : Kp p H H') (n : H0 p = none) : Same H0 H' := fun b o h => k b o (fun e => by rw [e, n] at h; cases h) (s b o h)
theorem same_upd {H : Hp} {p : Addr} {o : HO} (n : H p = none) : Same H (upd H p o) := fun b u h => by rw [upd_ne (ne_of_none h n)]; exact h
theorem Same.of (H : Hp) : Same H H := fun _ _ h => h
/-- isinstance(e, c), e the exception that the suite holds; its class and its dict are told in the reading -/
theorem call_isE2 {X : Cx} {a D : Addr} {oe : Obj} {cls : Value} {d : Option Addr} {pn : List (Addr × Obj)} (C : ExcC X.K D) (hz : Zc cls d oe) (hf : ∃ vs, oe.data = .fields vs) :
    CallR (X.suite a ((a, oe) :: pn)) (.builtin "isinstance") (fun xs H Q => cls = .ref D ∧ d = none ∧ rIsE X.K D a xs H Q) := by
  intro pins s σ H xs us Q I r h
  obtain ⟨rfl, rfl, h⟩ := h
  exact call_isE C hz hf pins s σ H xs us Q I r h
/-- an error of the class at S is what «except S» names -/
theorem exm_self {K : PySem.W.Frag} {S : Addr} (h1 : PySem.W.subIn K (.ref S) (.type "BaseException") = some true) (h2 : PySem.W.isClsIn K S = true) (h3 : PySem.W.typeIn K (.ref S) = some (.type "type")) (h4 : PySem.W.subIn K (.ref S) (.ref S) = some true) :
    PySem.W.exmOne K (.ref S) (.ref S) = some true := by
  have e1 : (PySem.W.subIn K (.ref S) (.type "BaseException") == some true) = true := by rw [h1] <;> rfl
  have e2 : ((PySem.W.clsIn K S).isSome && PySem.W.typeIn K (.ref S) == some (.type "type")) = true := by
    have h2' : (PySem.W.clsIn K S).isSome = true := h2
    rw [h2', h3] <;> rfl
  show (if (PySem.W.subIn K (.ref S) (.type "BaseException") == some true) = true then (if ((PySem.W.clsIn K S).isSome && PySem.W.typeIn K (.ref S) == some (.type "type")) = true then PySem.W.subIn K (.ref S) (.ref S) else none) else none) = some true
  rw [if_pos e1, if_pos e2]
  exact h4
/-- x is True, x is False: whatever x is -/
theorem op_isB {X : Cx} : OpR X (compareOp .Is) (fun x y H Q => ∃ b, y = .bl b ∧ Q (.bl (decide (x = .bl b))) H) := by
  intro pins s σ H x y v u Q I rx ry h
  obtain ⟨b, rfl, q⟩ := h
  cases (show u = Value.bool b from ry)
  have fin : ∀ k : Bool, decide (x = .bl b) = k → EP X pins σ Q (.bool k) s := fun k e => ⟨.bl k, H, I, rfl, by rw [← e]; exact q⟩
  cases x with
  | non => cases (show v = Value.none from rx); exact wpAny_pure (fin _ (by simp))
  | bl c =>
    cases (show v = Value.bool c from rx)
    refine wpAny_pure (fin _ ?_)
    by_cases e : c = b
    · subst e; simp
    · simp [e]
  | int i => obtain ⟨t, e⟩ := (show ∃ t, v = Value.int i t from rx); subst e; exact wpAny_pure (fin _ (by simp))
  | str i => obtain ⟨t, e⟩ := (show ∃ t, v = Value.str i t from rx); subst e; exact wpAny_pure (fin _ (by simp))
  | byt i => obtain ⟨t, e⟩ := (show ∃ t, v = Value.bytes i t from rx); subst e; exact wpAny_pure (fin _ (by simp))
  | flt i => obtain ⟨t, e⟩ := (show ∃ t, v = Value.float i t from rx); subst e; exact wpAny_pure (fin _ (by simp))
  | ref a => cases (show v = Value.ref a from rx); exact wpAny_pure (fin _ (by simp))
  | ty n => cases (show v = Value.type n from rx); exact wpAny_pure (fin _ (by simp))
theorem iteDT {p A B : Prop} [Decidable p] (hp : p) (h : A) : if decide p = true then A else B := by
  rw [decide_eq_true hp]
  exact iteT h
theorem iteDF {p A B : Prop} [Decidable p] (hp : ¬ p) (h : B) : if decide p = true then A else B := by
  rw [decide_eq_false hp]
  exact iteF h
/-- a module's whole number -/
theorem pe_globI {X : Cx} {x : Str} {n : Int} {pos : Pos} (hg : Gl X x) (hm : ∃ t : Tok, X.mg x = some (.int n t)) (hd : (x == ("__debug__" : Str)) = false := by decide) : PE X (.Name x pos) (tC (.int n)) := by
  obtain ⟨t, h⟩ := hm
  exact pe_glob hg h ⟨t, rfl⟩ hd
/-- for c in text -/
theorem for_str {x : Str} {g : TG} {tb : TS} {D : Ends} {σ : L2.St} {H : Hp} (Pv : Nat → L2.St → Hp → Prop) (h0 : Pv 0 σ H)
    (hs : ∀ i c σ H, x.cps.toList[i]? = some c → Pv i σ H → g (.str ⟨#[c]⟩) σ H fun σ2 H2 => tb { D with nx := Pv (i + 1), ct := Pv (i + 1), bk := D.nx } σ2 H2) (hd : ∀ σ H, Pv x.length σ H → D.nx σ H) :
    ∃ W : Nat → Nat → L2.St → Hp → Prop, (∃ m, W 0 m σ H) ∧ ∀ i m σ H, W i m σ H →
      ((Its x).stop i H ∧ D.nx σ H) ∨ ((Its x).go i H ∧ ∃ N : L2.St → Hp → Prop, (∀ σ' H', N σ' H' → ∃ m', m' < m ∧ W (i + 1) m' σ' H') ∧ ∀ v H', (Its x).yld i H v H' → g v σ H' fun σ2 H2 => tb { D with nx := N, ct := N, bk := D.nx } σ2 H2) := by
  have hx : x.length = x.cps.size := rfl
  refine ⟨fun i m σ H => m = x.length - i ∧ i ≤ x.length ∧ Pv i σ H, ⟨x.length, by simp, Nat.zero_le _, h0⟩, ?_⟩
  rintro i m σ H ⟨rfl, hi, p⟩
  by_cases hlt : i < x.length
  · refine .inr ⟨hlt, Pv (i + 1), fun σ' H' p' => ⟨x.length - (i + 1), by omega, rfl, hlt, p'⟩, fun v H' y => ?_⟩
    obtain ⟨e, c, hc, ev⟩ := y
    subst e ev
    exact hs i c σ _ (by rw [Array.getElem?_toList]; exact hc) p
  · have e : i = x.length := by omega
    subst e
    exact .inl ⟨Nat.le_refl _, hd σ H p⟩
/-! ### rules for a comprehension's block: the written part by its own name -/
section
variable {X : Cx} {K : PySem.W.Frag}
theorem pe_fldK {e : Expr} {f : Str} {pos : Pos} {ta : TE} (hK : X.K = K) (he : PE X e ta) (hb : attributeBase e f X.env (eval e X.env) = eval e X.env) : PE X (.Attribute e f pos) (tFld K ta f) := by
  subst hK
  exact pe_fld he hb
theorem pe_conK {e : Expr} {f : Str} {pos : Pos} {ta : TE} (hK : X.K = K) (he : PE X e ta) (hb : attributeBase e f X.env (eval e X.env) = eval e X.env) : PE X (.Attribute e f pos) (tCon K ta f) := by
  subst hK
  exact pe_con he hb
theorem call_len_seqK (hK : X.K = K) : CallR X (.builtin "len") (fun xs H Q => ∃ p ys, xs = [.ref p] ∧ (SqL K H p ys ∨ SqT K H p ys) ∧ Q (.int ys.length) H) := by
  subst hK
  exact call_len_seq
theorem call_list_ofK (hK : X.K = K) : CallR X (.type "list") (fun xs H Q => ∃ p ys, xs = [.ref p] ∧ (SqL K H p ys ∨ SqT K H p ys) ∧ ∀ l, H l = none → Q (.ref l) (upd H l (.lst ys))) := by
  subst hK
  exact call_list_of
theorem call_tuple_ofK (hK : X.K = K) : CallR X (.type "tuple") (fun xs H Q => ∃ p ys, xs = [.ref p] ∧ ((SqL K H p ys ∧ ∀ l, H l = none → Q (.ref l) (upd H l (.tup ys))) ∨ (SqT K H p ys ∧ Q (.ref p) H))) := by
  subst hK
  exact call_tuple_of
theorem call_isiK (hK : X.K = K) : CallR X (.builtin "isinstance") (rIsi K) := by
  subst hK
  exact call_isi
theorem cr_sumK (hK : X.K = K) (hc : X.calm = true) : CallR X (.builtin "sum") (rSum K) := by
  subst hK
  exact cr_sum hc
end
/-! ### operators of an own class, called by their signs -/
theorem inst_of {X : Cx} {pins : List (Addr × Obj)} {σ : L2.St} {H : Hp} {s : Shared} {a C dx : Addr} {fs : List (Str × V)} (I : Inv X pins σ H s) (h : H a = some (.ins C dx fs)) :
    ∃ (ox : Obj) (od : Option Obj), PySem.W.InstAt s.heap a ox C od ∧ ox.data = .plain := by
  obtain ⟨mA, O, _⟩ := ins_get I.hok h
  obtain ⟨od, J, _⟩ := O.look
  exact ⟨_, _, J, rfl⟩
theorem back_of {X : Cx} {pins : List (Addr × Obj)} {σ : L2.St} {Q : VK} {u : Value} {s : Shared} (h : EP X pins σ Q u s) : PySem.W.CmpBack (EP X pins σ Q) u s := by
  obtain ⟨v, H', I, r, q⟩ := id h
  cases u with
  | notImplemented =>
    cases v <;> first
      | exact (nomatch (show Value.notImplemented = _ from r))
      | (obtain ⟨t, e⟩ := (show ∃ t, Value.notImplemented = _ from r); cases e)
  | _ => exact h
/-- what the text has of an operator's method: run it on two values; A: where the call stands -/
theorem met_runA {X : Cx} {CX : CXT} {A : Around} {k j : Nat} {C : Addr} {m : Str} {sp : Sp} {E : XK} (c : Met CX X.prog X.w X.K X.mg X.base k C m sp) (hr : Room j A) (hk : k ≤ j) (hx : Passes CX X E)
    (hA : ∀ (s : Shared) (H : Hp), Env0 X.prog X.w X.K X.mg X.base X.A X.stack s H → Env0 X.prog X.w X.K X.mg X.base A X.stack s H) :
    ∃ f : Addr, PySem.W.findIn X.K (.ref C) m = some (some (.ref f)) ∧ PySem.W.isFn X.K (.ref f) = true ∧ PySem.W.keepIn X.K (.ref f) = true ∧
      ∀ (pins : List (Addr × Obj)) (s : Shared) (σ : L2.St) (H : Hp) (us : List Value) (vs : List V) (Q : VK), Inv X pins σ H s → Vals vs us → sp vs H Q E → wpAny (model X.prog X.w) A (call (.ref f) us) (EP X pins σ Q) X.xe s := by
  obtain ⟨f, fd, ps, hc, hm, F, b⟩ := c.ex
  refine ⟨f, hm.at_, hm.fn, hm.kp, fun pins s σ H us vs Q I r h => ?_⟩
  have hl : us.length = ps.length := by rw [← r.length]; exact F.len _ _ _ _ h
  have hb := b s us I.kIn (by rw [List.append_nil]; exact hl)
  rw [List.append_nil] at hb
  refine wpAny_call (codeAny_mono (F.run A X.stack s H ⟨us, []⟩ us vs Q E (hr.mono hk) (hA _ _ I.env0) hb r h) fun r s' hq => ?_)
  match r with
  | .error e => exact hx pins σ H s e s' I hq
  | .ok (.ret u) => exact I.after hq
  | .ok .next => exact False.elim hq
  | .ok .brk => exact False.elim hq
  | .ok .cont => exact False.elim hq
theorem met_run {X : Cx} {CX : CXT} {k j : Nat} {C : Addr} {m : Str} {sp : Sp} {E : XK} (c : Met CX X.prog X.w X.K X.mg X.base k C m sp) (hr : Room j X.A) (hk : k ≤ j) (hx : Passes CX X E) :
    ∃ f : Addr, PySem.W.findIn X.K (.ref C) m = some (some (.ref f)) ∧ PySem.W.isFn X.K (.ref f) = true ∧ PySem.W.keepIn X.K (.ref f) = true ∧
      ∀ (pins : List (Addr × Obj)) (s : Shared) (σ : L2.St) (H : Hp) (us : List Value) (vs : List V) (Q : VK), Inv X pins σ H s → Vals vs us → sp vs H Q E → wpAny (model X.prog X.w) X.A (call (.ref f) us) (EP X pins σ Q) X.xe s := met_runA c hr hk hx fun _ _ z => z
section
variable {X : Cx} {CX : CXT} {k j : Nat} {C : Addr} {m : Str} {sp : Sp} {E : XK}
def rOwn2 (C : Addr) (sp : Sp) (E : XK) : R2 := fun x y H Q => ∃ (a b dx dy : Addr) (fs gs : List (Str × V)), x = .ref a ∧ y = .ref b ∧ H a = some (.ins C dx fs) ∧ H b = some (.ins C dy gs) ∧ sp [x, y] H Q E
/-- x op y, both of one own class that has the method -/
theorem op_own {op : Operator} (c : Met CX X.prog X.w X.K X.mg X.base k C m sp) (hr : Room j X.A) (hk : k ≤ j) (hx : Passes CX X E) (sf : PySem.W.selfFirst X.K C = true) (hm : PySem.dunder op.info.2 = m := by decide +kernel) :
    OpR X (binaryOp op) (rOwn2 C sp E) := by
  intro pins s σ H x y v u Q I rx ry h
  obtain ⟨a, b, dx, dy, fs, gs, rfl, rfl, ha, hb, hs⟩ := h
  obtain ⟨f, hf, fn, kp, run⟩ := met_run c hr hk hx
  obtain ⟨mF, F⟩ := I.fr
  obtain ⟨ox, od, J, _⟩ := inst_of I ha
  obtain ⟨oy, oe, J2, _⟩ := inst_of I hb
  have r2 : Vals [V.ref a, V.ref b] [v, u] := .cons rx (.cons ry .nil)
  cases (show v = Value.ref a from rx)
  cases (show u = Value.ref b from ry)
  exact PySem.W.binop_K F I.ok.mod.kin J J2.type sf (by rw [hm]; exact hf) fn (wpAny_mono (run pins s σ H _ _ Q I r2 hs) (fun _ _ z => back_of z) fun _ _ z => z)
def rOwnI (C : Addr) (sp : Sp) (E : XK) : R2 := fun x y H Q => ∃ (a dx : Addr) (fs : List (Str × V)) (i : Int), x = .ref a ∧ y = .int i ∧ H a = some (.ins C dx fs) ∧ sp [x, y] H Q E
/-- x op i, i a whole number -/
theorem op_ownI {op : Operator} (c : Met CX X.prog X.w X.K X.mg X.base k C m sp) (hr : Room j X.A) (hk : k ≤ j) (hx : Passes CX X E) (sf : PySem.W.selfFirst X.K C = true)
    (hrc : ∃ rc, PySem.W.findIn X.K (.ref C) (dunderR op.info.2) = some rc ∧ (rc = none ∨ ∃ g : Addr, rc = some (.ref g)))
    (h1 : ∃ fo, PySem.W.findIn X.K (.type "int") (PySem.dunder op.info.2) = some fo) (h2 : ∃ ro, PySem.W.findIn X.K (.type "int") (dunderR op.info.2) = some ro) (hsub : PySem.W.subIn X.K (.type "int") (.ref C) = some false)
    (hm : PySem.dunder op.info.2 = m := by decide +kernel) : OpR X (binaryOp op) (rOwnI C sp E) := by
  intro pins s σ H x y v u Q I rx ry h
  obtain ⟨a, dx, fs, i, rfl, rfl, ha, hs⟩ := h
  obtain ⟨f, hf, fn, kp, run⟩ := met_run c hr hk hx
  obtain ⟨rc, hrc, hp⟩ := hrc
  obtain ⟨fo, h1⟩ := h1
  obtain ⟨ro, h2⟩ := h2
  obtain ⟨mF, F⟩ := I.fr
  obtain ⟨ox, od, J, _⟩ := inst_of I ha
  have r2 : Vals [V.ref a, V.int i] [v, u] := .cons rx (.cons ry .nil)
  cases (show v = Value.ref a from rx)
  obtain ⟨t, et⟩ := (show ∃ t, u = Value.int i t from ry)
  subst et
  exact PySem.W.ksp_binT (T := "int") F I.ok.mod.kin J rfl sf (by rw [hm]; exact hf) fn hrc hp h1 h2 hsub (wpAny_mono (run pins s σ H _ _ Q I r2 hs) (fun _ _ z => back_of z) fun _ _ z => z)
def rOwn1 (C : Addr) (sp : Sp) (E : XK) : V → Hp → VK → Prop := fun x H Q => ∃ (a dx : Addr) (fs : List (Str × V)), x = .ref a ∧ H a = some (.ins C dx fs) ∧ sp [x] H Q E
/-- -x -/
theorem un_own (c : Met CX X.prog X.w X.K X.mg X.base k C "__neg__" sp) (hr : Room j X.A) (hk : k ≤ j) (hx : Passes CX X E) : UnR X (unaryOp .USub) (rOwn1 C sp E) := by
  intro pins s σ H x v Q I rx h
  obtain ⟨a, dx, fs, rfl, ha, hs⟩ := h
  obtain ⟨f, hf, fn, kp, run⟩ := met_run c hr hk hx
  obtain ⟨mF, F⟩ := I.fr
  obtain ⟨ox, od, J, _⟩ := inst_of I ha
  have r1 : Vals [V.ref a] [v] := .cons rx .nil
  cases (show v = Value.ref a from rx)
  exact PySem.W.ksp_neg F I.ok.mod.kin J hf fn (run pins s σ H _ _ Q I r1 hs)
/-- int's method finds no int in an own instance -/
theorem int_declines {prog : Program} {w : World} {A : Around} {Er : Value → Shared → Prop} {s : Shared} {x D : Addr} {ox : Obj} {od : Option Obj} {i : Int} {t : Tok} {nm : String} {id : String} {nmB : String} {f : Int → Int → Sem Fin} {Q : Option Value → Shared → Prop}
    (J : PySem.W.InstAt s.heap x ox D od) (hd : ox.data = .plain) (slot : Slot "int" (PySem.dunder nm) id) (entry : entryFor table id = some (Builtin.Int.intBinary nmB f)) (args : argsOk id ⟨[.int i t, .ref x], []⟩) (h : Q none s) :
    wpAny (model prog w) A (tryMethod (.int i t) (PySem.dunder nm) (.ref x)) Q Er s := by
  refine wpAny_tryMethod_declines (typeIs_int s i t) slot ?_
  refine GQ.call_here slot (typeIs_int s i t) entry args ?_
  unfold Builtin.Int.intBinary
  obtain ⟨hp, g, d, tk, os⟩ := s
  obtain ⟨oc, odd, odt, osl⟩ := ox
  dsimp only at hd
  subst hd
  have hx : hp.get? x = some _ := J.1
  wp_walk using AutoSeq1.wpAny_loadPart' hx
  exact ⟨rfl, h⟩
end
def rIOwn (C : Addr) (sp : Sp) (E : XK) : R2 := fun x y H Q => ∃ (a dx : Addr) (fs : List (Str × V)) (i : Int), x = .int i ∧ y = .ref a ∧ H a = some (.ins C dx fs) ∧ sp [y, x] H Q E
/-- i op x, i a whole number: x's reflected method -/
theorem op_Iown {X : Cx} {CX : CXT} {k j : Nat} {C : Addr} {sp : Sp} {E : XK} {op : Operator} {nm id nmB : String} {f : Int → Int → Sem Fin} (hop : op.info.2 = nm)
    (slot : Slot "int" (PySem.dunder nm) id) (entry : entryFor table id = some (Builtin.Int.intBinary nmB f)) (args : ∀ (i : Int) (t : Tok) (x : Addr), argsOk id ⟨[.int i t, .ref x], []⟩) (fills : fillsNumberSlot (.type "int") nm = pure true)
    (c : Met CX X.prog X.w X.K X.mg X.base k C (dunderR nm) sp) (hr : Room j X.A) (hk : k ≤ j) (hx : Passes CX X E) (sf : PySem.W.selfFirst X.K C = true)
    (hs : ∃ g : Addr, PySem.W.findIn X.K (.ref C) (PySem.dunder nm) = some (some (.ref g))) (hsub : PySem.W.subIn X.K (.ref C) (.type "int") = some false) : OpR X (binaryOp op) (rIOwn C sp E) := by
  intro pins s σ H x y v u Q I rx ry h
  obtain ⟨a, dx, fs, i, rfl, rfl, ha, hsp⟩ := h
  obtain ⟨g, hs⟩ := hs
  obtain ⟨f, hf, fn, kp, run⟩ := met_run c hr hk hx
  obtain ⟨ox, od, J, hd⟩ := inst_of I ha
  have r2 : Vals [V.ref a, V.int i] [u, v] := .cons ry (.cons rx .nil)
  cases (show u = Value.ref a from ry)
  obtain ⟨t, et⟩ := (show ∃ t, v = Value.int i t from rx)
  subst et
  have one := PySem.W.ksp_try (M := model X.prog X.w) (A := X.A) (name := dunderR nm) (b := .int i t) I.kIn J hf fn (wpAny_mono (run pins s σ H _ _ Q I r2 hsp) (fun _ _ z => back_of z) fun _ _ z => z)
  obtain ⟨cd, rest, hcd, hmr⟩ := PySem.W.ksp_first sf
  have K1 : X.K.In s.heap := I.kIn
  rcases hi : op.info with ⟨sym, nm'⟩
  rw [hi] at hop
  dsimp only at hop
  subst hop
  have L2 : PySem.W.Looks (model X.prog X.w) s.heap (typeOf (.ref a)) (.ref C) := J.type
  have L4 : PySem.W.Looks (model X.prog X.w) s.heap (fillsNumberSlot (.ref C) nm') true := PySem.W.fills_K K1 hcd hmr hs
  have L5 : PySem.W.Looks (model X.prog X.w) s.heap (isSubtype (.ref C) (.type "int")) false := PySem.W.looks_subIn K1 hsub
  have hne : (Value.type "int" == Value.ref C) = false := Bool.eq_false_iff.mpr fun q => by cases beq_iff_eq.mp q
  have hpy : numberSlotInPython (.type "int") nm' = pure false := rfl
  simp only [binaryOp, hi]
  refine wpAny_holding (wpAny_bind ?_)
  unfold binaryOp1
  refine wpAny_bind (wpAny_typeOf (typeIs_int s i t) (wpAny_bind (L2.here (wpAny_bind (wpAny_of_eq fills ?_)))))
  simp only [hne, Bool.false_eq_true, if_false]
  refine wpAny_bind (L4.here ?_)
  simp only [Bool.and_self, if_true]
  refine wpAny_bind (L5.here ?_)
  simp only [Bool.false_eq_true, if_false, pure_bind, Bool.not_false, Bool.and_self, if_true, hpy]
  refine wpAny_bind (int_declines J hd slot entry (args i t a) ?_)
  dsimp only
  refine wpAny_bind (wpAny_mono one (fun r s' hr' => ?_) fun _ _ e => e)
  obtain ⟨v, rfl, hq⟩ := hr'
  exact wpAny_bind (wpAny_rule (wpAny_pure (wpAny_pure hq)))
/-- abs(x), x an own instance -/
theorem call_absO {X : Cx} {CX : CXT} {k j : Nat} {C : Addr} {sp : Sp} {E : XK} (c : Met CX X.prog X.w X.K X.mg X.base k C "__abs__" sp) (hr : Room j X.A) (hk : k + 1 ≤ j) (hx : Passes CX X E) :
    CallR X (.builtin "abs") (fun xs H Q => ∃ x, xs = [x] ∧ rOwn1 C sp E x H Q) := by
  intro pins s σ H xs us Q I r h
  obtain ⟨x, rfl, a, dx, fs, rfl, ha, hs⟩ := h
  obtain ⟨f, hf, fn, kp, run⟩ := met_runA c (hr.mono hk).in1 (Nat.le_refl _) hx (fun _ _ z => z.in1)
  obtain ⟨ox, od, J, _⟩ := inst_of I ha
  have r0 := r
  obtain ⟨u, rfl, ru⟩ := vals1 r
  cases (show u = Value.ref a from ru)
  have h1 := run pins s σ H _ _ Q I r0 hs
  refine PySem.Calls.call_function_entry PyProof.Rows.kind_abs PyProof.Rows.plain_abs PyProof.Rows.entry_abs (PyProof.Rows.args_abs _) ?_
  unfold Builtin.«abs»
  refine wpAny_bind (m := oneArg "abs" _) (wpAny_pure ?_)
  refine wpAny_bind (m := callSpecial? (.ref a) (Str.ofString "__abs__")) (PySem.W.special_fn I.kIn J hf (beq_iff_eq.mp fn) (wpAny_mono h1 (fun v s' hv => ?_) fun _ _ z => z))
  exact wpAny_pure ⟨_, rfl, hv⟩
theorem UnR.or {X : Cx} {f : Value → Sem Value} {r r' : V → Hp → VK → Prop} (h : UnR X f r) (h' : UnR X f r') : UnR X f (fun x H Q => r x H Q ∨ r' x H Q) := by
  intro pins s σ H x v Q I rx q
  rcases q with q | q
  · exact h pins s σ H x v Q I rx q
  · exact h' pins s σ H x v Q I rx q
theorem CallR.or {X : Cx} {f : Value} {r r' : List V → Hp → VK → Prop} (h : CallR X f r) (h' : CallR X f r') : CallR X f (fun x H Q => r x H Q ∨ r' x H Q) := by
  intro pins s σ H x v Q I rx q
  rcases q with q | q
  · exact h pins s σ H x v Q I rx q
  · exact h' pins s σ H x v Q I rx q
/-! ### the same operators where a try stands around: what is raised is wished for at the slots -/
theorem met_runS {X : Cx} {CX : CXT} {k j : Nat} {C : Addr} {m : Str} {sp : Sp} {E : L2.St → XK} (c : Met CX X.prog X.w X.K X.mg X.base k C m sp) (hr : Room j X.A) (hk : k ≤ j) (hx : ∀ σ, PassesAt CX X σ (E σ)) :
    ∃ f : Addr, PySem.W.findIn X.K (.ref C) m = some (some (.ref f)) ∧ PySem.W.isFn X.K (.ref f) = true ∧ PySem.W.keepIn X.K (.ref f) = true ∧
      ∀ (pins : List (Addr × Obj)) (s : Shared) (σ : L2.St) (H : Hp) (us : List Value) (vs : List V) (Q : VK), Inv X pins σ H s → Vals vs us → sp vs H Q (E σ) → wpAny (model X.prog X.w) X.A (call (.ref f) us) (EP X pins σ Q) X.xe s := by
  obtain ⟨f, fd, ps, hc, hm, F, b⟩ := c.ex
  refine ⟨f, hm.at_, hm.fn, hm.kp, fun pins s σ H us vs Q I r h => ?_⟩
  have hl : us.length = ps.length := by rw [← r.length]; exact F.len _ _ _ _ h
  have hb := b s us I.kIn (by rw [List.append_nil]; exact hl)
  rw [List.append_nil] at hb
  refine wpAny_call (codeAny_mono (F.run X.A X.stack s H ⟨us, []⟩ us vs Q (E σ) (hr.mono hk) I.env0 hb r h) fun r s' hq => ?_)
  match r with
  | .error e => exact hx σ pins H s e s' I hq
  | .ok (.ret u) => exact I.after hq
  | .ok .next => exact False.elim hq
  | .ok .brk => exact False.elim hq
  | .ok .cont => exact False.elim hq
def OpRS (X : Cx) (f : Value → Value → Sem Value) (r : L2.St → R2) : Prop :=
  ∀ (pins : List (Addr × Obj)) (s : Shared) (σ : L2.St) (H : Hp) (x y : V) (v u : Value) (Q : VK), Inv X pins σ H s → RelV x v → RelV y u → r σ x y H Q →
    wpAny (model X.prog X.w) X.A (f v u) (EP X pins σ Q) X.xe s
def tOpS (r : L2.St → R2) (ta tb : TE) : TE := fun σ H Q => ta σ H fun x H1 => tb σ H1 fun y H2 => r σ x y H2 Q
theorem pe_opS {X : Cx} {a b : Expr} {ta tb : TE} {pos : Pos} {op : Operator} {r : L2.St → R2} (ho : OpRS X (binaryOp op) r) (ha : PE X a ta) (hb : PE X b tb) : PE X (.BinOp a op b pos) (tOpS r ta tb) := by
  refine ⟨fun pins s σ H Q I h => ?_⟩
  exact wpAny_BinOp (binT (R := fun x y H2 => r σ x y H2 Q) ha hb I h fun v u s2 x y H2 I2 rx ry q => ho pins s2 σ H2 x y v u Q I2 rx ry q)
theorem OpRS.or {X : Cx} {f : Value → Value → Sem Value} {r r' : L2.St → R2} (h : OpRS X f r) (h' : OpRS X f r') : OpRS X f (fun σ x y H Q => r σ x y H Q ∨ r' σ x y H Q) := by
  intro pins s σ H x y v u Q I rx ry q
  rcases q with q | q
  · exact h pins s σ H x y v u Q I rx ry q
  · exact h' pins s σ H x y v u Q I rx ry q
section
variable {X : Cx} {CX : CXT} {k j : Nat} {C : Addr} {m : Str} {sp : Sp} {E : L2.St → XK}
theorem op_ownS {op : Operator} (c : Met CX X.prog X.w X.K X.mg X.base k C m sp) (hr : Room j X.A) (hk : k ≤ j) (hx : ∀ σ, PassesAt CX X σ (E σ)) (sf : PySem.W.selfFirst X.K C = true) (hm : PySem.dunder op.info.2 = m := by decide +kernel) :
    OpRS X (binaryOp op) (fun σ => rOwn2 C sp (E σ)) := by
  intro pins s σ H x y v u Q I rx ry h
  obtain ⟨a, b, dx, dy, fs, gs, rfl, rfl, ha, hb, hs⟩ := h
  obtain ⟨f, hf, fn, kp, run⟩ := met_runS c hr hk hx
  obtain ⟨mF, F⟩ := I.fr
  obtain ⟨ox, od, J, _⟩ := inst_of I ha
  obtain ⟨oy, oe, J2, _⟩ := inst_of I hb
  have r2 : Vals [V.ref a, V.ref b] [v, u] := .cons rx (.cons ry .nil)
  cases (show v = Value.ref a from rx)
  cases (show u = Value.ref b from ry)
  exact PySem.W.binop_K F I.ok.mod.kin J J2.type sf (by rw [hm]; exact hf) fn (wpAny_mono (run pins s σ H _ _ Q I r2 hs) (fun _ _ z => back_of z) fun _ _ z => z)
theorem op_ownIS {op : Operator} (c : Met CX X.prog X.w X.K X.mg X.base k C m sp) (hr : Room j X.A) (hk : k ≤ j) (hx : ∀ σ, PassesAt CX X σ (E σ)) (sf : PySem.W.selfFirst X.K C = true)
    (hrc : ∃ rc, PySem.W.findIn X.K (.ref C) (dunderR op.info.2) = some rc ∧ (rc = none ∨ ∃ g : Addr, rc = some (.ref g)))
    (h1 : ∃ fo, PySem.W.findIn X.K (.type "int") (PySem.dunder op.info.2) = some fo) (h2 : ∃ ro, PySem.W.findIn X.K (.type "int") (dunderR op.info.2) = some ro) (hsub : PySem.W.subIn X.K (.type "int") (.ref C) = some false)
    (hm : PySem.dunder op.info.2 = m := by decide +kernel) : OpRS X (binaryOp op) (fun σ => rOwnI C sp (E σ)) := by
  intro pins s σ H x y v u Q I rx ry h
  obtain ⟨a, dx, fs, i, rfl, rfl, ha, hs⟩ := h
  obtain ⟨f, hf, fn, kp, run⟩ := met_runS c hr hk hx
  obtain ⟨rc, hrc, hp⟩ := hrc
  obtain ⟨fo, h1⟩ := h1
  obtain ⟨ro, h2⟩ := h2
  obtain ⟨mF, F⟩ := I.fr
  obtain ⟨ox, od, J, _⟩ := inst_of I ha
  have r2 : Vals [V.ref a, V.int i] [v, u] := .cons rx (.cons ry .nil)
  cases (show v = Value.ref a from rx)
  obtain ⟨t, et⟩ := (show ∃ t, u = Value.int i t from ry)
  subst et
  exact PySem.W.ksp_binT (T := "int") F I.ok.mod.kin J rfl sf (by rw [hm]; exact hf) fn hrc hp h1 h2 hsub (wpAny_mono (run pins s σ H _ _ Q I r2 hs) (fun _ _ z => back_of z) fun _ _ z => z)
end
/-- x == y, x < y .., both of one own class that has the method -/
theorem op_cmpO {X : Cx} {CX : CXT} {k j : Nat} {C : Addr} {m : Str} {sp : Sp} {E : XK} {op : CmpOp} (c : Met CX X.prog X.w X.K X.mg X.base k C m sp) (hr : Room j X.A) (hk : k ≤ j) (hx : Passes CX X E)
    (hop : ∀ v u : Value, compareOp op v u = richCompare op v u := by intro _ _; rfl) (hm : (cmpInfo op).2.1 = m := by decide +kernel) : OpR X (compareOp op) (rOwn2 C sp E) := by
  intro pins s σ H x y v u Q I rx ry h
  obtain ⟨a, b, dx, dy, fs, gs, rfl, rfl, ha, hb, hs⟩ := h
  obtain ⟨f, hf, fn, kp, run⟩ := met_run c hr hk hx
  obtain ⟨mF, F⟩ := I.fr
  obtain ⟨ox, od, J, _⟩ := inst_of I ha
  obtain ⟨oy, oe, J2, _⟩ := inst_of I hb
  have r2 : Vals [V.ref a, V.ref b] [v, u] := .cons rx (.cons ry .nil)
  cases (show v = Value.ref a from rx)
  cases (show u = Value.ref b from ry)
  rw [hop]
  have hu : X.A.units < cLine := by have := hr.un; omega
  exact PySem.W.cmp_K hu F I.ok.mod.kin J J2.type (by unfold PySem.W.notFirst; simp) (by rw [hm]; exact hf) fn (wpAny_mono (run pins s σ H _ _ Q I r2 hs) (fun _ _ z => back_of z) fun _ _ z => z)
/-- f() -/
theorem pc_c0 {X : Cx} {CX : CXT} {k j : Nat} {x : Str} {sp : Sp} {E : XK} {p pos : Pos} (c : Cal CX X.prog X.w X.K X.mg X.base k x sp) (hr : Room j X.A) (hk : k ≤ j) (hg : Gl X x) (hx : Passes CX X E) (hdb : (x == ("__debug__" : Str)) = false := by decide) :
    PE X (.Call (.Name x p) [] [] pos) (tCall sp [] E tNil) := by
  obtain ⟨f, fd, ps, F, hm, kp, b⟩ := c.ex
  exact pe_call0 F (hr.mono hk) hg hm kp b .nil hx hdb
/-- f'..' of two parts or more, by a name -/
def tJoined (ts : List TE) : TE := fun σ H Q => tJs ts Str.empty σ H fun out H1 => Q (.str out) H1
theorem pe_joinedD {X : Cx} {v1 v2 : Expr} {rest : List Expr} {ts : List TE} {pos : Pos} (h : PJ X (v1 :: v2 :: rest) ts) : PE X (.JoinedStr (v1 :: v2 :: rest) pos) (tJoined ts) := pe_joined h
/-! ### v in o, v not in o by an own __contains__; str(o) by an own __str__ -/
def rInO (neg : Bool) (C : Addr) (sp : Sp) (E : XK) : R2 := fun x y H Q => ∃ (a dx : Addr) (fs : List (Str × V)), y = .ref a ∧ H a = some (.ins C dx fs) ∧ sp [.ref a, x] H (fun v H2 => ∃ b : Bool, v = .bl b ∧ Q (.bl (if neg then !b else b)) H2) E
def rStrO (C : Addr) (sp : Sp) (E : XK) : List V → Hp → VK → Prop := fun xs H Q => ∃ (a dx : Addr) (fs : List (Str × V)), xs = [.ref a] ∧ H a = some (.ins C dx fs) ∧ sp [.ref a] H (fun v H2 => ∃ y : Str, v = .str y ∧ Q (.str y) H2) E
section
variable {X : Cx} {CX : CXT} {k j : Nat} {C : Addr} {sp : Sp} {E : XK}
theorem op_inO (c : Met CX X.prog X.w X.K X.mg X.base k C "__contains__" sp) (hr : Room j X.A) (hk : k ≤ j) (hx : Passes CX X E) : OpR X (compareOp .In) (rInO false C sp E) := by
  intro pins s σ H x y v u Q I rx ry h
  obtain ⟨a, dx, fs, rfl, ha, hs⟩ := h
  obtain ⟨f, hf, fn, kp, run⟩ := met_run c hr hk hx
  obtain ⟨mF, F⟩ := I.fr
  obtain ⟨ox, od, J, _⟩ := inst_of I ha
  cases (show u = Value.ref a from ry)
  have r2 : Vals [V.ref a, x] [Value.ref a, v] := .cons rfl (.cons rx .nil)
  refine PySem.W.in_K F I.ok.mod.kin J hf fn (wpAny_mono (run pins s σ H _ _ _ I r2 hs) (fun r s' z => ?_) fun _ _ z => z)
  obtain ⟨w, H2, I2, rw', b, rfl, q⟩ := z
  cases (show r = Value.bool b from rw')
  exact wpAny_truthy_bool ⟨V.bl b, H2, I2, rfl, q⟩
theorem op_notInO (c : Met CX X.prog X.w X.K X.mg X.base k C "__contains__" sp) (hr : Room j X.A) (hk : k ≤ j) (hx : Passes CX X E) : OpR X (compareOp .NotIn) (rInO true C sp E) := by
  intro pins s σ H x y v u Q I rx ry h
  obtain ⟨a, dx, fs, rfl, ha, hs⟩ := h
  obtain ⟨f, hf, fn, kp, run⟩ := met_run c hr hk hx
  obtain ⟨mF, F⟩ := I.fr
  obtain ⟨ox, od, J, _⟩ := inst_of I ha
  cases (show u = Value.ref a from ry)
  have r2 : Vals [V.ref a, x] [Value.ref a, v] := .cons rfl (.cons rx .nil)
  refine PySem.W.notIn_K F I.ok.mod.kin J hf fn (wpAny_mono (run pins s σ H _ _ _ I r2 hs) (fun r s' z => ?_) fun _ _ z => z)
  obtain ⟨w, H2, I2, rw', b, rfl, q⟩ := z
  cases (show r = Value.bool b from rw')
  exact wpAny_truthy_bool ⟨V.bl (!b), H2, I2, rfl, q⟩
theorem call_strO (c : Met CX X.prog X.w X.K X.mg X.base k C "__str__" sp) (hr : Room j X.A) (hk : k + 2 ≤ j) (hx : Passes CX X E) : CallR X (.type "str") (rStrO C sp E) := by
  intro pins s σ H xs us Q I r h
  obtain ⟨a, dx, fs, rfl, ha, hs⟩ := h
  obtain ⟨u, rfl, ru⟩ := vals1 r
  cases (show u = Value.ref a from ru)
  have hr2 : Room k X.A.in1.in1 := ((hr.mono hk).in1).in1
  obtain ⟨f, hf, fn, kp, run⟩ := met_runA c hr2 (Nat.le_refl _) hx (fun _ _ z => z.in1.in1)
  obtain ⟨mF, F⟩ := I.fr
  obtain ⟨ox, od, J, _⟩ := inst_of I ha
  have hu : X.A.in1.in1.units < cLine := by have := hr2.un; omega
  refine PySem.W.kso_call hu (I.ok.mod.kin.keeps F.keep) J hf fn (wpAny_mono (run pins s σ H _ _ _ I r hs) (fun r s' z => ?_) fun _ _ z => z)
  obtain ⟨w, H2, I2, rw', y, rfl, q⟩ := z
  obtain ⟨t, rfl⟩ := (show ∃ t, r = Value.str y t from rw')
  exact ⟨V.str y, H2, I2, ⟨_, rfl⟩, q⟩
end
/-! ### properties -/
structure Prp (CX : CXT) (P : Program) (w : World) (K : PySem.W.Frag) (mg : Str → Option Value) (base : Heap) (k : Nat) (C : Addr) (m : Str) (sp : Sp) : Prop where
  ex : ∃ (p g : Addr) (fd : FuncData) (ps : List Str), Cls K C ∧ PropOf K C m p g ∧ FnOk P w K mg base CX k g fd ps sp ∧ Binds K fd ps []
theorem prp_mk {CX : CXT} {P : Program} {w : World} {K : PySem.W.Frag} {mg : Str → Option Value} {base : Heap} {k : Nat} {m : Str} {f p C : Addr} {fd : FuncData} {ps : List Str} {sp : Sp} (F : FnOk P w K mg base CX k f fd ps sp) (c : Cls K C) (h : PropOf K C m p f) (b : Binds K fd ps []) : Prp CX P w K mg base k C m sp := ⟨p, f, fd, ps, c, h, F, b⟩
theorem pc_prop {X : Cx} {CX : CXT} {k j : Nat} {C : Addr} {m : Str} {sp : Sp} {E : XK} {e : Expr} {pos : Pos} {ta : TE} (c : Prp CX X.prog X.w X.K X.mg X.base k C m sp) (hr : Room j X.A) (hk : k + 1 ≤ j) (hx : Passes CX X.nox E) (he : PE X e ta)
    (hab : attributeBase e m X.env (eval e X.env) = eval e X.env) : PE X (.Attribute e m pos) (tProp C sp [] E ta) := by
  obtain ⟨p, g, fd, ps, hc, hp, F, b⟩ := c.ex
  exact pe_prop he hc hp F (hr.mono hk) b .nil hx hab
/-! ### a law's cells and pools: what is promised of them -/
def PoolAt (H : Hp) (p : Addr) : Prop := ∃ x y z : Int, H p = some (.lst [.int x, .int y, .int z])
theorem PoolAt.kp {H H' : Hp} {p q : Addr} (h : PoolAt H p) (k : Kp q H H') (n : p ≠ q) : PoolAt H' p := by
  obtain ⟨x, y, z, e⟩ := h
  exact ⟨x, y, z, k _ _ n e⟩
theorem PoolAt.same {H H' : Hp} {p : Addr} (h : PoolAt H p) (k : Same H H') : PoolAt H' p := by
  obtain ⟨x, y, z, e⟩ := h
  exact ⟨x, y, z, k _ _ e⟩
theorem at0 {α : Type} {a b c : α} : atI [a, b, c] (0 : Int) = some a := rfl
theorem at1 {α : Type} {a b c : α} : atI [a, b, c] (1 : Int) = some b := rfl
theorem at2 {α : Type} {a b c : α} : atI [a, b, c] (2 : Int) = some c := rfl
def sp_Lcell (K : PySem.W.Frag) : Sp := fun vs H Q _ => ∃ (l : Addr) (ns : List Int) (j : Nat), vs = [.ref l, .int (j : Int)] ∧ SqL K H l (ns.map V.int) ∧ ∀ c : Int, 0 ≤ c → Q (.int c) H
def sp_Lpool : Sp := fun vs H Q _ => ∃ c : Int, vs = [.int c] ∧ ∀ (p : Addr) (H' : Hp), H p = none → Same H H' → PoolAt H' p → Q (.ref p) H'
def sp_Ltake : Sp := fun vs H Q _ => ∃ (p : Addr) (many : Int), vs = [.ref p, .int many] ∧ PoolAt H p ∧ 0 < many ∧ many.natAbs < 2 ^ 300 ∧
  ∀ (H' : Hp) (r : Int), Kp p H H' → PoolAt H' p → 0 ≤ r → r < many → Q (.int r) H'
/-! ### told and due are the same data -/
def Pairs (R : V → V → Prop) (xs ys : List V) : Prop := xs.length = ys.length ∧ ∀ (i : Nat) (x y : V), xs[i]? = some x → ys[i]? = some y → R x y
def flatD : V → Bool
  | .non => true
  | .bl _ => true
  | .int _ => true
  | .str _ => true
  | _ => false
def SameV (K : PySem.W.Frag) (H : Hp) : Nat → V → V → Prop
  | 0, x, y => flatD x = true ∧ x = y
  | n + 1, x, y => (flatD x = true ∧ x = y) ∨
      (∃ (a b : Addr) (xs ys : List V), x = .ref a ∧ y = .ref b ∧ SqL K H a xs ∧ SqL K H b ys ∧ xs.length ≤ sizeLine ∧ Pairs (SameV K H n) xs ys) ∨
      (∃ (a b : Addr) (xs ys : List V), x = .ref a ∧ y = .ref b ∧ SqT K H a xs ∧ SqT K H b ys ∧ xs.length ≤ sizeLine ∧ Pairs (SameV K H n) xs ys)
def sp_Lsame (K : PySem.W.Frag) : Nat → Sp
  | 0 => fun _ _ _ _ => False
  | n + 1 => fun vs H Q _ => ∃ x y : V, vs = [x, y] ∧ SameV K H n x y ∧ Q (.bl true) H
theorem SameV.flat {K : PySem.W.Frag} {H : Hp} {n : Nat} {x : V} (h : flatD x = true) : SameV K H n x x := by
  cases n with
  | zero => exact ⟨h, rfl⟩
  | succ n => exact .inl ⟨h, rfl⟩
theorem Pairs.refl {R : V → V → Prop} {xs : List V} (h : ∀ x ∈ xs, R x x) : Pairs R xs xs := ⟨rfl, fun i x y h1 h2 => by
  rw [h1] at h2
  cases h2
  exact h x (List.mem_of_getElem? h1)⟩
theorem tyx_list {K : PySem.W.Frag} {H : Hp} {a : Addr} {xs : List V} (h : SqL K H a xs) : TyX K H (.ref a) (.type "list") := by
  rcases h with (h | ⟨o, h⟩) | ⟨o, its, n, h, c, _⟩
  · exact .base (.lst h)
  · exact .base (.frz h)
  · exact .kList h c
theorem tyx_tup {K : PySem.W.Frag} {H : Hp} {a : Addr} {xs : List V} (h : SqT K H a xs) : TyX K H (.ref a) (.type "tuple") := by
  rcases h with (h | ⟨o, h⟩) | ⟨o, its, n, h, c, _⟩
  · exact .base (.tup h)
  · exact .fTuple h
  · exact .kTuple h c
theorem sqt_same {K : PySem.W.Frag} {H H' : Hp} {a : Addr} {xs : List V} (h : SqT K H a xs) (e : Same H H') : SqT K H' a xs := by
  rcases h with (h | ⟨o, h⟩) | h
  · exact .inl (.inl (e _ _ h))
  · exact .inl (.inr ⟨o, e _ _ h⟩)
  · exact .inr h
theorem tyes {σ : L2.St} {H : Hp} {A B : Hp → Prop} (h : A H) : tYes σ H (fun b H3 => if b = true then A H3 else B H3) := by
  show (if true = true then A H else B H)
  rw [if_pos rfl]
  exact h
theorem take_snoc {α : Type} {l : List α} {i : Nat} {x : α} (h : l[i]? = some x) : l.take i ++ [x] = l.take (i + 1) := by
  rw [List.take_add_one, h]
  rfl
theorem flat_ints (l : List Int) : (l.map V.int).all flatV = true := by
  rw [List.all_map, List.all_eq_true]
  intro j _
  rfl
/-- the same items, each flat -/
theorem pool_ne {H : Hp} {p q : Addr} (h : PoolAt H p) (n : H q = none) : q ≠ p := fun w => by
  obtain ⟨x, y, z, e⟩ := h
  rw [w, e] at n
  cases n
theorem none_kp {H H' : Hp} {p t : Addr} (s : Kp p H H') (n : t ≠ p) (e : H' t = none) : H t = none := by
  cases h : H t with
  | none => rfl
  | some o =>
    rw [s _ _ n h] at e
    cases e
theorem none_of {H H' : Hp} {t : Addr} (s : Same H H') (n : H' t = none) : H t = none := by
  cases e : H t with
  | none => rfl
  | some o =>
    rw [s _ _ e] at n
    cases n
theorem same_app {H2 H4 : Hp} {t : Addr} {o : HO} (s : Same H2 H4) (n : H2 t = none) : Same H2 (upd H4 t o) := fun b u e => by
  rw [upd_ne (ne_of_none e n)]
  exact s _ _ e
theorem Kp.of {p : Addr} {H H' : Hp} (s : Same H H') : Kp p H H' := fun b o _ e => s b o e
/-- a place that was free takes what it takes -/
theorem kp_app {p : Addr} {H H4 : Hp} {t : Addr} {o : HO} (s : Kp p H H4) (n : H t = none) : Kp p H (upd H4 t o) := fun b u nb e => by
  rw [upd_ne (ne_of_none e n)]
  exact s _ _ nb e
theorem sqt_pool {K : PySem.W.Frag} {H H' : Hp} {a b : Addr} {xs : List V} (h : SqT K H b xs) (k : Kp a H H') (p : PoolAt H a) : SqT K H' b xs := by
  obtain ⟨x, y, z, e⟩ := p
  rcases h with (h | ⟨o, h⟩) | h
  · exact .inl (.inl (k _ _ (fun w => by rw [w, e] at h; cases h) h))
  · exact .inl (.inr ⟨o, k _ _ (fun w => by rw [w, e] at h; cases h) h⟩)
  · exact .inr h
theorem sqt_lst {K : PySem.W.Frag} {H H' : Hp} {a b : Addr} {xs ys : List V} (h : SqT K H b xs) (k : Kp a H H') (hl : H a = some (.lst ys)) : SqT K H' b xs := by
  rcases h with (h | ⟨o, h⟩) | h
  · exact .inl (.inl (k _ _ (fun w => by rw [w, hl] at h; cases h) h))
  · exact .inl (.inr ⟨o, k _ _ (fun w => by rw [w, hl] at h; cases h) h⟩)
  · exact .inr h
theorem iteB {b : Bool} {A B : Prop} (hA : b = true → A) (hB : b = false → B) : if b = true then A else B := by
  cases b
  · exact iteF (hB rfl)
  · exact iteT (hA rfl)
theorem iteNe {x y : V} {A B : Prop} (e : x = y) (h : B) : if (!decide (x = y)) = true then A else B := by
  rw [decide_eq_true e]
  exact iteF h
theorem pick4 {a b c d r : Int} (h0 : 0 ≤ r) (h1 : r < 4) : ∃ v : Int, atI [V.int a, V.int b, V.int c, V.int d] r = some (V.int v) ∧ (v = a ∨ v = b ∨ v = c ∨ v = d) := by
  have : r = 0 ∨ r = 1 ∨ r = 2 ∨ r = 3 := by omega
  rcases this with e | e | e | e
  · subst e; exact ⟨a, rfl, .inl rfl⟩
  · subst e; exact ⟨b, rfl, .inr (.inl rfl)⟩
  · subst e; exact ⟨c, rfl, .inr (.inr (.inl rfl))⟩
  · subst e; exact ⟨d, rfl, .inr (.inr (.inr rfl))⟩
theorem getD_at {α : Type} {l : List α} {i : Nat} {c d : α} (h : l[i]? = some c) : l.getD i d = c := by
  rw [List.getD_eq_getElem?_getD, h]
  rfl
theorem seq_ix {i : Int} {n : Nat} (h0 : 0 ≤ i) (h1 : i < (n : Int)) : seqIndex? i n = some i.toNat := by
  unfold seqIndex?
  first
    | (simp only; split <;> first | (split <;> first | rfl | omega) | omega)
    | (have e : ¬ i < 0 := by omega
       simp [e, h1, h0])
theorem cut_drop (xs : List V) (w : Nat) : cutV xs (some (w : Int)) none = xs.drop w := by
  have e0 : HT.sIx xs.length xs.length none = xs.length := rfl
  have e1 : HT.sIx xs.length 0 (some (w : Int)) = min w xs.length := by
    simp only [HT.sIx]
    split <;> omega
  unfold cutV
  rw [e0, e1]
  by_cases h : w ≤ xs.length
  · rw [Nat.min_eq_left h, List.take_of_length_le (by rw [List.length_drop]; omega)]
  · rw [Nat.min_eq_right (by omega), List.drop_length, List.drop_of_length_le (by omega), List.take_nil]
theorem cut_pre (ns : List Int) (w : Nat) : cutV (ns.map V.int) none (some (w : Int)) = (ns.take w).map V.int := by
  have e0 : HT.sIx (ns.map V.int).length 0 none = 0 := rfl
  have e1 : HT.sIx (ns.map V.int).length (ns.map V.int).length (some (w : Int)) = min w (ns.map V.int).length := by
    simp only [HT.sIx]
    split <;> omega
  unfold cutV
  rw [e0, e1, List.drop_zero, Nat.sub_zero, List.map_take]
  by_cases h : w ≤ (ns.map V.int).length
  · rw [Nat.min_eq_left h]
  · rw [Nat.min_eq_right (by omega), List.take_length, List.take_of_length_le (by omega)]
theorem iteNT {x y : V} {A B : Prop} (e : ¬ x = y) (h : A) : if (!decide (x = y)) = true then A else B := by
  rw [decide_eq_false e]
  exact h
theorem mk_same {H J : Hp} {x dx C : Addr} (hx : H x = none) (hdx : H dx = none) (k : Kp x (upd (upd H dx (.own x)) x (.ins C dx [])) J) : Same H J := fun b o e => k b o (ne_of_none e hx) (by
  rw [upd_ne (ne_of_none e hx), upd_ne (ne_of_none e hdx)]
  exact e)
/-! ### texts of drawn signs -/
/-- all signs from the blank to ~ -/
def Asc (y : Str) : Prop := ∀ c ∈ y.cps.toList, 32 ≤ c ∧ c ≤ 126
theorem asc_app {a b : Str} (h : Asc a) (g : Asc b) : Asc (a ++ b) := fun c hc => by
  rw [show (a ++ b).cps = a.cps ++ b.cps from Str.cps_append a b, Array.toList_append, List.mem_append] at hc
  rcases hc with hc | hc
  · exact h c hc
  · exact g c hc
theorem asc_cut {a : Str} (lo hi : Option Int) (h : Asc a) : Asc (cutS a lo hi) := fun c hc => by
  unfold cutS at hc
  rw [List.toList_toArray] at hc
  exact h c (List.mem_of_mem_drop (List.mem_of_mem_take hc))
theorem cut_len (a : Str) (lo hi : Option Int) : (cutS a lo hi).length ≤ a.length := cutS_length a lo hi
def sgns : Str := " !\"#$&'()*+,-./0123456789:;<=>?@ABCDEFGHIJKLMNOPQRSTUVWXYZ[\\]^_`" ++ "abcdefghijklmnopqrstuvwxyz{|}~"
theorem sgns_len : sgns.length = 94 := by decide +kernel
theorem sgns_asc : Asc sgns := by
  unfold Asc
  decide +kernel
theorem asc_one {a : Str} {i : Int} {c : Nat} (h : Asc a) (e : atI a.cps.toList i = some c) : Asc ⟨#[c]⟩ := fun d hd => by
  have hd' : d = c := by simpa using hd
  subst hd'
  unfold atI at e
  cases hx : ixN a.cps.toList.length i with
  | none => rw [hx] at e; cases e
  | some j => rw [hx] at e; exact h d (List.mem_of_getElem? e)
theorem atI_in {α : Type} {xs : List α} {i : Int} (h0 : 0 ≤ i) (h1 : i < (xs.length : Int)) : ∃ c, atI xs i = some c := by
  have hj : i.toNat < xs.length := by omega
  refine ⟨xs[i.toNat], ?_⟩
  have e := atI_nat (List.getElem?_eq_getElem hj)
  rw [Int.toNat_of_nonneg h0] at e
  exact e
theorem app_len (a b : Str) : (a ++ b).length = a.length + b.length := Str.length_append a b
theorem small_line {n : Nat} (h : n ≤ 100000) : n ≤ sizeLine := by rw [sizeLine_eq]; omega
def sp_Lsigns : Sp := fun vs H Q _ => vs = [] ∧ Q (.str sgns) H
def sp_Lbent : Sp := fun vs H Q _ => ∃ (p : Addr) (y g : Str), vs = [.ref p, .str y, .str g] ∧ PoolAt H p ∧ Asc y ∧ Asc g ∧ 0 < g.length ∧ g.length ≤ 1000 ∧ y.length ≤ 1000 ∧
  ∀ (H' : Hp) (z : Str), Kp p H H' → PoolAt H' p → Asc z → z.length ≤ 2 * y.length + 1 → Q (.str z) H'
def sp_LbentN : Sp := fun vs H Q _ => ∃ (p : Addr) (y g : Str), vs = [.ref p, .str y, .str g] ∧ PoolAt H p ∧ 0 < g.length ∧ g.length ≤ 1000 ∧ y.length ≤ 10000 ∧
  ∀ (H' : Hp) (z : Str), Kp p H H' → PoolAt H' p → z.length ≤ 2 * y.length + 1 → Q (.str z) H'
/-- a sign of a text at a drawn place -/
theorem sign_at {g : Str} {r : Int} (h0 : 0 ≤ r) (h1 : r < (g.length : Int)) : ∃ c, atI g.cps.toList r = some c := atI_in h0 (by rw [Array.length_toList]; exact h1)
theorem sum1 : ∀ {ys : List Str}, (∀ y ∈ ys, y.length = 1) → (ys.map (·.length)).sum = ys.length
  | [], _ => rfl
  | y :: ys, h => by
    rw [List.map_cons, List.sum_cons, sum1 (fun z hz => h z (List.mem_cons_of_mem _ hz)), h y (List.mem_cons_self ..), List.length_cons]
    omega
theorem pool_at {H : Hp} {p t : Addr} {o : HO} (h : PoolAt H p) (n : t ≠ p) : PoolAt (upd H t o) p := by
  obtain ⟨x, y, z, e⟩ := h
  exact ⟨x, y, z, by rw [upd_ne n.symm]; exact e⟩
theorem join_le (y : Str) (l : List Str) : (Txt.join y l).length ≤ (l.map (·.length)).sum + l.length * y.length := by
  rw [TL.join_eq]
  cases l with
  | nil => exact Nat.zero_le _
  | cons a r =>
    rw [PyProof.Rows.len_join_cons, List.length_cons, Nat.add_mul]
    omega
theorem empty_len : ("" : Str).length = 0 := by decide +kernel
/-- signs joined by nothing -/
def sgs (cs : List Nat) : List Str := cs.map fun c => ⟨#[c]⟩
theorem tl_join_sgs (cs : List Nat) : TL.tl (Txt.join "" (sgs cs)) = cs := by
  rw [TL.join_eq]
  induction cs with
  | nil => rfl
  | cons c r ih =>
    cases r with
    | nil => rfl
    | cons d r =>
      show TL.tl ((⟨#[c]⟩ : Str) ++ "" ++ Str.join "" (sgs (d :: r))) = _
      rw [TL.tl_append, TL.tl_append, ih]
      rfl
theorem sgs_one (cs : List Nat) : ∀ y ∈ sgs cs, y.length = 1 := fun y hy => by
  obtain ⟨c, _, rfl⟩ := List.mem_map.mp hy
  rfl
/-! ### names and kinds -/
def ltr (c : Nat) : Bool := decide (97 ≤ c ∧ c ≤ 122)
def abc : Str := "abcdefghijklmnopqrstuvwxyz"
theorem abc_iff (c : Nat) : (c ∈ abc.cps.toList) ↔ ltr c = true := by
  have e : abc.cps.toList = (List.range 26).map (· + 97) := by decide +kernel
  rw [e, List.mem_map]
  unfold ltr
  rw [decide_eq_true_iff]
  constructor
  · rintro ⟨x, hx, rfl⟩
    have := List.mem_range.mp hx
    omega
  · rintro ⟨h1, h2⟩
    exact ⟨c - 97, List.mem_range.mpr (by omega), by omega⟩
def nameOk (y : Str) : Bool := decide (1 ≤ y.length ∧ y.length ≤ 8) && y.cps.toList.all ltr
theorem asc_tab : ∀ c < 128, (Unicode.isAlpha c = true ∧ Unicode.isUpper c = false ↔ ltr c = true) ∧ (ltr c = true → Unicode.isLower c = true ∧ Unicode.isTitle c = false) := by decide +kernel
theorem name_iff (y : Str) : (decide ((y.length : Int) ≤ 8) && (Txt.isascii y && (Txt.isalpha y && Txt.islower y))) = nameOk y := by
  unfold Txt.isascii Txt.isalpha Txt.islower nameOk
  have hl : y.length = y.cps.toList.length := by rw [Array.length_toList]; rfl
  rw [Bool.eq_iff_iff]
  simp only [Bool.and_eq_true, decide_eq_true_eq, ← Array.all_toList, ← Array.any_toList, Bool.not_eq_true', List.all_eq_true, List.any_eq_true, List.any_eq_false, Bool.or_eq_true, not_or, gt_iff_lt]
  constructor
  · rintro ⟨h8, ha, ⟨h0, hal⟩, _, hu⟩
    refine ⟨⟨by omega, by omega⟩, fun c hc => ?_⟩
    have h1 := ha c hc
    exact (asc_tab c h1).1.mp ⟨hal c hc, by simpa using (hu c hc).1⟩
  · rintro ⟨⟨h1, h8⟩, hall⟩
    have lt : ∀ c ∈ y.cps.toList, c < 128 := fun c hc => by
      have := hall c hc
      unfold ltr at this
      rw [decide_eq_true_iff] at this
      omega
    refine ⟨by omega, fun c hc => lt c hc, ⟨by omega, fun c hc => ((asc_tab c (lt c hc)).1.mpr (hall c hc)).1⟩, ?_, fun c hc => ⟨?_, ?_⟩⟩
    · cases e : y.cps.toList with
      | nil => rw [e] at hl; simp at hl; omega
      | cons c r =>
        have hc : c ∈ y.cps.toList := by rw [e]; exact List.mem_cons_self ..
        exact ⟨c, List.mem_cons_self .., ((asc_tab c (lt c hc)).2 (hall c hc)).1⟩
    · have := ((asc_tab c (lt c hc)).1.mpr (hall c hc)).2
      rw [this]
      exact Bool.false_ne_true
    · have := ((asc_tab c (lt c hc)).2 (hall c hc)).2
      rw [this]
      exact Bool.false_ne_true
theorem name_len {y : Str} (h : nameOk y = true) : 1 ≤ y.length ∧ y.length ≤ 8 := by
  unfold nameOk at h
  rw [Bool.and_eq_true, decide_eq_true_iff] at h
  exact h.1
theorem name_strOk {y : Str} (h : nameOk y = true) : PyData.strOk y = true := by
  unfold nameOk at h
  rw [Bool.and_eq_true, List.all_eq_true] at h
  unfold PyData.strOk
  rw [← Array.all_toList, List.all_eq_true]
  intro c hc
  have := h.2 c hc
  unfold ltr at this
  rw [decide_eq_true_iff] at this
  rw [decide_eq_true_iff]
  omega
def wrongK (y : Str) (s n : Int) : Option Str := if nameOk y = true then (if s < 1 ∨ s > 4 then some ("stay" : Str) else if n < 1 ∨ n > s then some ("need" : Str) else none) else some ("name" : Str)
theorem wrongK_none {y : Str} {s n : Int} (h : nameOk y = true) (s1 : 1 ≤ s) (s4 : s ≤ 4) (n1 : 1 ≤ n) (n2 : n ≤ s) : wrongK y s n = none := by
  unfold wrongK
  rw [if_pos h, if_neg (by omega), if_neg (by omega)]
theorem wrongK_ok {y : Str} {s n : Int} (h : wrongK y s n = none) : nameOk y = true ∧ 1 ≤ s ∧ s ≤ 4 ∧ 1 ≤ n ∧ n ≤ s := by
  unfold wrongK at h
  split at h
  · split at h
    · cases h
    · split at h
      · cases h
      · refine ⟨by assumption, ?_⟩
        omega
  · cases h
theorem wrongK_name {y : Str} {s n : Int} (h : nameOk y = false) : wrongK y s n = some ("name" : Str) := by
  unfold wrongK
  rw [if_neg (by rw [h]; exact Bool.false_ne_true)]
theorem wrongK_stay {y : Str} {s n : Int} (h : nameOk y = true) (g : s < 1 ∨ s > 4) : wrongK y s n = some ("stay" : Str) := by
  unfold wrongK
  rw [if_pos h, if_pos g]
theorem wrongK_need {y : Str} {s n : Int} (h : nameOk y = true) (g : ¬ (s < 1 ∨ s > 4)) (k : n < 1 ∨ n > s) : wrongK y s n = some ("need" : Str) := by
  unfold wrongK
  rw [if_pos h, if_neg g, if_pos k]
def wv : Option Str → V
  | some p => .str p
  | none => .non
theorem one_digit {s : Int} (h1 : 1 ≤ s) (h4 : s ≤ 4) : (Str.ofString (toString s)).length = 1 ∧ s.natAbs.log2 < 1920 := by
  have : s = 1 ∨ s = 2 ∨ s = 3 ∨ s = 4 := by omega
  rcases this with rfl | rfl | rfl | rfl <;> exact ⟨by decide +kernel, by decide⟩
theorem alen (a b : Str) : (a ++ b).length = a.length + b.length := Str.length_append a b
theorem kTxt_e (y a b : Str) : (((((Str.empty ++ "kind ") ++ y) ++ " stay ") ++ a) ++ " need ") ++ b = "kind " ++ y ++ " stay " ++ a ++ " need " ++ b := by
  have e : Str.empty ++ ("kind " : Str) = "kind " := by decide +kernel
  rw [e]
theorem litk : (Str.empty ++ ("kind " : Str)).length = 5 ∧ ("kind " : Str).length = 5 ∧ (" stay " : Str).length = 6 ∧ (" need " : Str).length = 6 := by decide +kernel
def kif (y : Str) (s n : Int) : List (Str × V) := putF "need" (.int n) (putF "stay" (.int s) (putF "name" (.str y) []))
theorem kif_name (y : Str) (s n : Int) : (kif y s n).lookup ("name" : Str) = some (.str y) := by
  unfold kif
  rw [lookup_putF, if_neg (by decide +kernel), lookup_putF, if_neg (by decide +kernel), lookup_putF, if_pos rfl]
theorem kif_stay (y : Str) (s n : Int) : (kif y s n).lookup ("stay" : Str) = some (.int s) := by
  unfold kif
  rw [lookup_putF, if_neg (by decide +kernel), lookup_putF, if_pos rfl]
theorem kif_need (y : Str) (s n : Int) : (kif y s n).lookup ("need" : Str) = some (.int n) := by
  unfold kif
  rw [lookup_putF, if_pos rfl]
theorem kif_no (y : Str) (s n : Int) {m : Str} (h1 : ¬ m = "name") (h2 : ¬ m = "stay") (h3 : ¬ m = "need") : (kif y s n).lookup m = none := by
  unfold kif
  rw [lookup_putF, if_neg h3, lookup_putF, if_neg h2, lookup_putF, if_neg h1]
  rfl
def KindAt (C : Addr) (H : Hp) (a : Addr) (y : Str) (s n : Int) : Prop := ∃ dx : Addr, H a = some (.ins C dx (kif y s n))
theorem KindAt.same {C : Addr} {H H' : Hp} {a : Addr} {y : Str} {s n : Int} (h : KindAt C H a y s n) (e : Same H H') : KindAt C H' a y s n := by
  obtain ⟨dx, h⟩ := h
  exact ⟨dx, e _ _ h⟩
def sp_isname : Sp := fun vs H Q _ => ∃ y : Str, vs = [.str y] ∧ y.length ≤ 1000 ∧ Q (.bl (nameOk y)) H
def sp_Kind_init (K : PySem.W.Frag) (C B : Addr) : Sp := fun vs H Q E => ∃ (x dx : Addr) (y : Str) (s n : Int), vs = [.ref x, .str y, .int s, .int n] ∧ H x = some (.ins C dx []) ∧ y.length ≤ 1000 ∧
  ((∃ p : Str, wrongK y s n = some p ∧ ∀ (H' : Hp) (d : Addr), Same H H' → H' d = none → E (.ref B) (some d) (upd H' d (.xd [(("part" : Str), .str p)]))) ∨
   (wrongK y s n = none ∧ ∀ H', Kp x H H' → KindAt C H' x y s n → Q .non H'))
def sp_Kind_slack (C : Addr) : Sp := fun vs H Q _ => ∃ (a : Addr) (y : Str) (s n : Int), vs = [.ref a] ∧ KindAt C H a y s n ∧ Q (.int (s - n)) H
def sp_Kind_car (C : Addr) : Sp := fun vs H Q _ => ∃ (a : Addr) (y : Str) (s n : Int), vs = [.ref a] ∧ KindAt C H a y s n ∧ ∀ (H' : Hp) (q : Addr), Same H H' → H q = none → H' q = some (.tup [.int s, .int n, .int s, .int n]) → Q (.ref q) H'
def kTxt (y : Str) (s n : Int) : Str := "kind " ++ y ++ " stay " ++ Str.ofString (toString s) ++ " need " ++ Str.ofString (toString n)
def sp_Kind_str (C : Addr) : Sp := fun vs H Q _ => ∃ (a : Addr) (y : Str) (s n : Int), vs = [.ref a] ∧ KindAt C H a y s n ∧ wrongK y s n = none ∧ Q (.str (kTxt y s n)) H
def sp_Kind_eq (C : Addr) : Sp := fun vs H Q _ => ∃ (a b : Addr) (y z : Str) (s n t m : Int), vs = [.ref a, .ref b] ∧ KindAt C H a y s n ∧ KindAt C H b z t m ∧ Q (.bl (decide (y = z ∧ s = t ∧ n = m))) H
def topS (i : Nat) : Stmt := PySem.Challenge.pw_onecable_k15_kinds.main.body.getD i (.Pass ⟨0, 0, 0, 0⟩)
abbrev s_is_name : Stmt := topS 6
theorem sc_is_name : FnScope ["text"] ["text"] (defScope s_is_name) := ⟨rfl, rfl, rfl, by decide +kernel, rfl, by decide +kernel, by decide +kernel⟩
abbrev s_Kind_init : Stmt := inClass (topS 7) 0
theorem sc_Kind_init : FnScope ["self", "name", "stay", "need"] ["self", "name", "stay", "need"] (defScope s_Kind_init) := ⟨rfl, rfl, rfl, by decide +kernel, rfl, by decide +kernel, by decide +kernel⟩
abbrev s_Kind_slack : Stmt := inClass (topS 7) 1
theorem sc_Kind_slack : FnScope ["self"] ["self"] (defScope s_Kind_slack) := ⟨rfl, rfl, rfl, by decide +kernel, rfl, by decide +kernel, by decide +kernel⟩
abbrev s_Kind_car : Stmt := inClass (topS 7) 2
theorem sc_Kind_car : FnScope ["self"] ["self"] (defScope s_Kind_car) := ⟨rfl, rfl, rfl, by decide +kernel, rfl, by decide +kernel, by decide +kernel⟩
abbrev s_Kind_str : Stmt := inClass (topS 7) 3
theorem sc_Kind_str : FnScope ["self"] ["self"] (defScope s_Kind_str) := ⟨rfl, rfl, rfl, by decide +kernel, rfl, by decide +kernel, by decide +kernel⟩
abbrev s_Kind_eq : Stmt := inClass (topS 7) 4
theorem sc_Kind_eq : FnScope ["self", "other"] ["self", "other"] (defScope s_Kind_eq) := ⟨rfl, rfl, rfl, by decide +kernel, rfl, by decide +kernel, by decide +kernel⟩
abbrev s_Lcell : Stmt := topS 9
theorem sc_Lcell : FnScope ["_law_script", "_law_at"] ["_law_script", "_law_at"] (defScope s_Lcell) := ⟨rfl, rfl, rfl, by decide +kernel, rfl, by decide +kernel, by decide +kernel⟩
abbrev s_Lpool : Stmt := topS 10
theorem sc_Lpool : FnScope ["_law_cell_here"] ["_law_cell_here"] (defScope s_Lpool) := ⟨rfl, rfl, rfl, by decide +kernel, rfl, by decide +kernel, by decide +kernel⟩
abbrev s_Ltake : Stmt := topS 11
theorem sc_Ltake : FnScope ["_law_pool_here", "_law_many", "_law_digit", "_law_mixed"] ["_law_pool_here", "_law_many"] (defScope s_Ltake) := ⟨rfl, rfl, rfl, by decide +kernel, rfl, by decide +kernel, by decide +kernel⟩
abbrev s_Lsame : Stmt := topS 12
theorem sc_Lsame : FnScope ["_law_told", "_law_due", "_law_k"] ["_law_told", "_law_due"] (defScope s_Lsame) := ⟨rfl, rfl, rfl, by decide +kernel, rfl, by decide +kernel, by decide +kernel⟩
abbrev s_Lsigns : Stmt := topS 13
theorem sc_Lsigns : FnScope ["_law_signs_here"] [] (defScope s_Lsigns) := ⟨rfl, rfl, rfl, by decide +kernel, rfl, by decide +kernel, by decide +kernel⟩
abbrev s_Lbent : Stmt := topS 14
theorem sc_Lbent : FnScope ["_law_pool_here", "_law_text", "_law_signs_here", "_law_at", "_law_sign", "_law_way"] ["_law_pool_here", "_law_text", "_law_signs_here"] (defScope s_Lbent) := ⟨rfl, rfl, rfl, by decide +kernel, rfl, by decide +kernel, by decide +kernel⟩
abbrev s_Lword : Stmt := topS 15
theorem sc_Lword : FnScope ["_law_pool_here", "_law_size", "_law_letters", "_law_k"] ["_law_pool_here", "_law_size"] (defScope s_Lword) := ⟨rfl, rfl, rfl, by decide +kernel, rfl, by decide +kernel, by decide +kernel⟩
abbrev s_Lname : Stmt := topS 16
theorem sc_Lname : FnScope ["_law_pool_here", "_law_choice", "_law_signs_here", "_law_k"] ["_law_pool_here"] (defScope s_Lname) := ⟨rfl, rfl, rfl, by decide +kernel, rfl, by decide +kernel, by decide +kernel⟩
abbrev s_Lnear : Stmt := topS 17
theorem sc_Lnear : FnScope ["_law_pool_here", "_law_number"] ["_law_pool_here"] (defScope s_Lnear) := ⟨rfl, rfl, rfl, by decide +kernel, rfl, by decide +kernel, by decide +kernel⟩
abbrev s_Lis_name : Stmt := topS 18
theorem sc_Lis_name : FnScope ["_law_name_here", "_law_sign"] ["_law_name_here"] (defScope s_Lis_name) := ⟨rfl, rfl, rfl, by decide +kernel, rfl, by decide +kernel, by decide +kernel⟩
abbrev s_Lwrong : Stmt := topS 19
theorem sc_Lwrong : FnScope ["_law_kind"] ["_law_kind"] (defScope s_Lwrong) := ⟨rfl, rfl, rfl, by decide +kernel, rfl, by decide +kernel, by decide +kernel⟩
abbrev s_Lmended : Stmt := topS 20
theorem sc_Lmended : FnScope ["_law_kind", "_law_name_here", "_law_stay", "_law_need"] ["_law_kind"] (defScope s_Lmended) := ⟨rfl, rfl, rfl, by decide +kernel, rfl, by decide +kernel, by decide +kernel⟩
abbrev s_Lasked : Stmt := topS 21
theorem sc_Lasked : FnScope ["_law_kind", "_law_due", "_law_told", "_law_part", "e"] ["_law_kind"] (defScope s_Lasked) := ⟨rfl, rfl, rfl, by decide +kernel, rfl, by decide +kernel, by decide +kernel⟩
abbrev s_Lsecond : Stmt := topS 22
theorem sc_Lsecond : FnScope ["_law_pool_here", "_law_kind", "_law_relation", "_law_name_here", "_law_stay", "_law_need"] ["_law_pool_here", "_law_kind", "_law_relation"] (defScope s_Lsecond) := ⟨rfl, rfl, rfl, by decide +kernel, rfl, by decide +kernel, by decide +kernel⟩
abbrev s_law : Stmt := topS 23
theorem sc_law : FnScope ["_law_script", "_law_pool_here", "_law_way", "_law_name_here", "_law_stay", "_law_need", "_law_kind", "_law_rows", "_law_row", "_law_second_here", "_law_one", "_law_two", "_law_three"] ["_law_script"] (defScope s_law) := ⟨rfl, rfl, rfl, by decide +kernel, rfl, by decide +kernel, by decide +kernel⟩
def KT (K : PySem.W.Frag) (H : Hp) (a : Addr) (y : Str) (s n : Int) : Prop := SqT K H a [.str y, .int s, .int n]
def sp_Lword (K : PySem.W.Frag) : Sp := fun vs H Q _ => ∃ (p : Addr) (n : Nat), vs = [.ref p, .int (n : Nat)] ∧ PoolAt H p ∧ n ≤ 100 ∧ ∀ (H' : Hp) (z : Str), Kp p H H' → PoolAt H' p → z.length = n → z.cps.toList.all ltr = true → Q (.str z) H'
def sp_Lname : Sp := fun vs H Q _ => ∃ p : Addr, vs = [.ref p] ∧ PoolAt H p ∧ ∀ (H' : Hp) (z : Str), Kp p H H' → PoolAt H' p → z.length ≤ 40 → Q (.str z) H'
def sp_Lnear : Sp := fun vs H Q _ => ∃ p : Addr, vs = [.ref p] ∧ PoolAt H p ∧ ∀ (H' : Hp) (i : Int), Kp p H H' → PoolAt H' p → i.natAbs < 2 ^ 60 → Q (.int i) H'
def sp_Lwrong (K : PySem.W.Frag) : Sp := fun vs H Q _ => ∃ (a : Addr) (y : Str) (s n : Int), vs = [.ref a] ∧ KT K H a y s n ∧ y.length ≤ 1000 ∧ Q (wv (wrongK y s n)) H
def sp_Lmended (K : PySem.W.Frag) : Sp := fun vs H Q _ => ∃ (a : Addr) (y : Str) (s n : Int), vs = [.ref a] ∧ KT K H a y s n ∧ y.length ≤ 1000 ∧ ∀ (H' : Hp) (q : Addr) (z : Str) (t m : Int), Same H H' → H q = none → H' q = some (.tup [.str z, .int t, .int m]) → wrongK z t m = none → Q (.ref q) H'
def sp_Lasked (K : PySem.W.Frag) : Sp := fun vs H Q _ => ∃ (a : Addr) (y : Str) (s n : Int), vs = [.ref a] ∧ KT K H a y s n ∧ y.length ≤ 1000 ∧ ∀ H', Same H H' → Q (.bl true) H'
def sp_Lsecond (K : PySem.W.Frag) : Sp := fun vs H Q _ => ∃ (p a : Addr) (r : Int) (y : Str) (s n : Int), vs = [.ref p, .ref a, .int r] ∧ PoolAt H p ∧ KT K H a y s n ∧ wrongK y s n = none ∧ ∀ (H' : Hp) (q : Addr) (z : Str) (t m : Int), Kp p H H' → H q = none → H' q = some (.tup [.str z, .int t, .int m]) → wrongK z t m = none → Q (.ref q) H'
def sp_law (K : PySem.W.Frag) : Sp := fun vs H Q _ => ∃ (a : Addr) (ns : List Int), vs = [.ref a] ∧ SqL K H a (ns.map V.int) ∧ ns.length ≤ 63 ∧ ∀ H', Q (.bl true) H'
def rEqK (K : PySem.W.Frag) : R2 := fun x y H Q => ∃ (a b : Addr) (y1 z : Str) (s n t m : Int), x = .ref a ∧ y = .ref b ∧ KT K H a y1 s n ∧ KT K H b z t m ∧ nameOk y1 = true ∧ nameOk z = true ∧ Q (.bl (decide (y1 = z ∧ s = t ∧ n = m))) H
theorem op_eqK {X : Cx} (hu : X.A.units + 64 < cLine) : OpR X (compareOp .Eq) (rEqK X.K) := by
  intro pins s0 σ H x y v u Q I rx ry h
  obtain ⟨a, b, y1, z, s, n, t, m, rfl, rfl, ha, hb, k1, k2, q⟩ := h
  have sh : ∀ (y : Str) (i j : Int), nameOk y = true → SeqAt.shaped (.tuple [.str y, .int i, .int j]) = true := fun y i j hy => by
    have := name_strOk hy
    simp [SeqAt.shaped, PyData.canLay0, PyData.canLayAll0, PyData.depth, PyData.depthAll, this]
  refine op_eqD hu pins s0 σ H _ _ v u Q I rx ry ⟨.tuple [.str y1, .int s, .int n], .tuple [.str z, .int t, .int m], .tup ha (.cons (.str _) (.cons (.int _) (.cons (.int _) .nil))), .tup hb (.cons (.str _) (.cons (.int _) (.cons (.int _) .nil))), sh _ _ _ k1, sh _ _ _ k2, ?_⟩
  have e : PyData.eqv (.tuple [.str y1, .int s, .int n]) (.tuple [.str z, .int t, .int m]) = decide (y1 = z ∧ s = t ∧ n = m) := by
    simp only [PyData.eqv, PyData.eqvAll, Bool.and_true]
    rw [Bool.eq_iff_iff]
    simp
  rw [e]
  exact q
structure Txt (P : Program) (w : World) (K : PySem.W.Frag) (mg : Str → Option Value) (C_BadKind C_CableError C_Kind : Addr) : Prop where
  g_BadKind : mg "BadKind" = some (.ref C_BadKind)
  err_BadKind : ∃ fI : Addr, PySem.ErrX_part_CFC_str.ErrTxt P K mg C_BadKind fI
  k_BadKind : PySem.W.keepIn K (.ref C_BadKind) = true
  b_BadKind : PySem.W.subIn K (.ref C_BadKind) (.type "BaseException") = some true
  t_BadKind : PySem.W.typeIn K (.ref C_BadKind) = some (.type "type")
  ic_BadKind : PySem.W.isClsIn K C_BadKind = true
  s_BadKind : PySem.W.subIn K (.ref C_BadKind) (.ref C_BadKind) = some true
  e_BadKind : ExcC K C_BadKind
  g_CableError : mg "CableError" = some (.ref C_CableError)
  g_Kind : mg "Kind" = some (.ref C_Kind)
  cl_Kind : Cls K C_Kind
  nf_Kind_name : NoAttr K C_Kind "name"
  nf_Kind_stay : NoAttr K C_Kind "stay"
  nf_Kind_need : NoAttr K C_Kind "need"
  i_Kind : C8.InsC K C_Kind
  c_MOST_LETTERS : ∃ t : Tok, mg "MOST_LETTERS" = some (.int 8 t)
  c_MOST_STAY : ∃ t : Tok, mg "MOST_STAY" = some (.int 4 t)
  n_len : mg "len" = none
  n_isinstance : mg "isinstance" = none
  n_int : mg "int" = none
  n_abs : mg "abs" = none
  n_bool : mg "bool" = none
  n_str : mg "str" = none
  n_tuple : mg "tuple" = none
  n_list : mg "list" = none
  n_range : mg "range" = none
  n_ValueError : mg "ValueError" = none
  kt_cable : PySem.W.kitOne K (.ref C_BadKind) (.ref C_CableError) = some true
  kt_value : PySem.W.kitOne K (.ref C_BadKind) (.type "ValueError") = some true

section
variable {P : Program} {w : World} {K : PySem.W.Frag} {mg : Str → Option Value} {base : Heap} {C_BadKind C_CableError C_Kind : Addr}
theorem ok_is_name {f : Addr} {fd : FuncData} (F : Fun K "is_name" "is_name" s_is_name f fd) (T : Txt P w K mg C_BadKind C_CableError C_Kind)  :
    FnOk P w K mg base CX0 1 f fd ["text"] sp_isname := by
  refine F.ok sc_is_name (fun vs H Q E h => ?_) (fun cdv A outer s H vs Q E hr h => ?_)
  · obtain ⟨y, rfl, _⟩ := h
    rfl
  · obtain ⟨y, rfl, hl, q⟩ := h
    refine ⟨_, (pss_one (ps_ret (pe_and (pe_cmpR op_le (pe_callB call_len_str (by rfl) T.n_len PySem.boot_len (pa_cons (pv 0) pa_nil)) (pe_globI rfl T.c_MOST_LETTERS) (nomark _)) (pe_and (pe_bm0 PySem.F.plainAttrs_str PySem.F.slot_str_isascii PySem.F.type_str_isascii mt_isascii (pv 0)) (pe_and (pe_bm0 PySem.F.plainAttrs_str PySem.F.slot_str_isalpha PySem.F.type_str_isalpha mt_isalpha (pv 0)) (pe_one (pe_bm0 PySem.F.plainAttrs_str PySem.F.slot_str_islower PySem.F.type_str_islower mt_islower (pv 0)))))))), ?_⟩
    rw [← name_iff] at q
    have z : y.length ≤ sizeLine := by rw [sizeLine_eq]; omega
    refine ⟨_, rfl, y, rfl, z, _, _, rfl, rfl, _, rfl, iteB (fun h1 => ⟨_, rfl, rfl, y, rfl, rfl, trivial, _, rfl, iteB (fun h2 => ⟨_, rfl, rfl, y, rfl, rfl, trivial, _, rfl, iteB (fun h3 => ⟨_, rfl, rfl, y, rfl, rfl, trivial, ?_⟩) (fun h3 => ?_)⟩) (fun h2 => ?_)⟩) (fun h1 => ?_)⟩
    · rw [h1, h2, h3] at q
      exact q
    · rw [h1, h2, h3] at q
      exact q
    · rw [h1, h2] at q
      exact q
    · rw [h1] at q
      exact q
theorem ok_Kind_init {f : Addr} {fd : FuncData} (F : Fun K "__init__" "Kind.__init__" s_Kind_init f fd) (T : Txt P w K mg C_BadKind C_CableError C_Kind) (c_is_name : Cal CX0 P w K mg base 1 "is_name" sp_isname) :
    FnOk P w K mg base (L2.CX P w) 2 f fd ["self", "name", "stay", "need"] (sp_Kind_init K C_Kind C_BadKind) := by
  refine F.okX sc_Kind_init (fun vs H Q E h => ?_) (fun cdv A outer s H vs Q E hr h => ?_)
  · obtain ⟨x, dx, y, s, n, rfl, _⟩ := h
    rfl
  · obtain ⟨x, dx, y, s', n, rfl, hx, hl, q⟩ := h
    refine ⟨_, (pss_cons (ps_if (pt_not (pt_val (pc_c c_is_name hr (by decide) rfl pass0 (pa_cons (pv 1) pa_nil)))) (pss_one (ps_raise rfl (takes_of rfl rfl rfl rfl) (pmk_errE_part_CFC_str T.err_BadKind T.g_BadKind hr (pa_cons pe_str pa_nil)))) pss_nil)
      (pss_cons (ps_if (PW.pt (pw_or (pt_cmpR op_lt (pv 2) pe_int (nomark _)) (pw_or1 (pt_cmpR op_gt (pv 2) (pe_globI rfl T.c_MOST_STAY) (nomark _))))) (pss_one (ps_raise rfl (takes_of rfl rfl rfl rfl) (pmk_errE_part_CFC_str T.err_BadKind T.g_BadKind hr (pa_cons pe_str pa_nil)))) pss_nil)
      (pss_cons (ps_if (PW.pt (pw_or (pt_cmpR op_lt (pv 3) pe_int (nomark _)) (pw_or1 (pt_cmpR op_gt (pv 3) (pv 2) (nomark _))))) (pss_one (ps_raise rfl (takes_of rfl rfl rfl rfl) (pmk_errE_part_CFC_str T.err_BadKind T.g_BadKind hr (pa_cons pe_str pa_nil)))) pss_nil)
      (pss_cons (ps_fld (pv 0) (pv 1) rfl)
      (pss_cons (ps_fld (pv 0) (pv 2) rfl)
      (pss_one (ps_fld (pv 0) (pv 3) rfl))))))), ?_⟩
    have bad : ∀ p, wrongK y s' n = some p → ∀ d : Addr, H d = none → E (.ref C_BadKind) (some d) (upd H d (.xd [(("part" : Str), .str p)])) := fun p hp d hd => by
      rcases q with ⟨p', hp', q⟩ | ⟨hn, _⟩
      · rw [hp] at hp'
        cases hp'
        exact q H d (Same.of _) hd
      · rw [hp] at hn
        cases hn
    refine ⟨_, rfl, y, rfl, hl, _, rfl, iteB (fun hc => ?_) (fun hc => ?_)⟩
    · have hn : nameOk y = false := by simpa using hc
      exact ⟨"name", rfl, by decide +kernel, fun d hd => bad _ (wrongK_name hn) d hd⟩
    have hn : nameOk y = true := by simpa using hc
    have bs : s' < 1 ∨ s' > 4 → ∀ d : Addr, H d = none → E (.ref C_BadKind) (some d) (upd H d (.xd [(("part" : Str), .str "stay")])) := fun g => bad _ (wrongK_stay hn g)
    refine ⟨_, rfl, _, _, rfl, rfl, _, rfl, iteB (fun h1 => ⟨"stay", rfl, by decide +kernel, fun d hd => bs (.inl (of_decide_eq_true h1)) d hd⟩) (fun h1 => ⟨_, rfl, _, _, rfl, rfl, _, rfl, iteB (fun h2 => ⟨"stay", rfl, by decide +kernel, fun d hd => bs (.inr (of_decide_eq_true h2)) d hd⟩) (fun h2 => ?_)⟩)⟩
    have g : ¬ (s' < 1 ∨ s' > 4) := by
      have := of_decide_eq_false h1
      have := of_decide_eq_false h2
      omega
    have bn : n < 1 ∨ n > s' → ∀ d : Addr, H d = none → E (.ref C_BadKind) (some d) (upd H d (.xd [(("part" : Str), .str "need")])) := fun k => bad _ (wrongK_need hn g k)
    refine ⟨_, rfl, _, _, rfl, rfl, _, rfl, iteB (fun h3 => ⟨"need", rfl, by decide +kernel, fun d hd => bn (.inl (of_decide_eq_true h3)) d hd⟩) (fun h3 => ⟨_, rfl, _, rfl, _, _, rfl, rfl, _, rfl, iteB (fun h4 => ⟨"need", rfl, by decide +kernel, fun d hd => bn (.inr (of_decide_eq_true h4)) d hd⟩) (fun h4 => ?_)⟩)⟩
    have q' : ∀ H', Kp x H H' → KindAt C_Kind H' x y s' n → Q .non H' := by
      have h3' := of_decide_eq_false h3
      have h4' := of_decide_eq_false h4
      have w : wrongK y s' n = none := wrongK_none hn (by omega) (by omega) (by omega) (by omega)
      rcases q with ⟨p', hp', _⟩ | ⟨_, q⟩
      · rw [w] at hp'
        cases hp'
      · exact q
    refine ⟨_, rfl, _, rfl, x, C_Kind, dx, [], rfl, hx, T.cl_Kind, T.nf_Kind_name, (by show 0 < 1000; decide), ?_⟩
    refine ⟨_, rfl, _, rfl, x, C_Kind, dx, _, rfl, upd_same, T.cl_Kind, T.nf_Kind_stay, (by show 1 < 1000; decide), ?_⟩
    refine ⟨_, rfl, _, rfl, x, C_Kind, dx, _, rfl, upd_same, T.cl_Kind, T.nf_Kind_need, (by show 2 < 1000; decide), ?_⟩
    exact q' _ (Kp.trans Kp.upd (Kp.trans Kp.upd Kp.upd)) ⟨dx, upd_same⟩
theorem ok_Kind_slack {f : Addr} {fd : FuncData} (F : Fun K "slack" "Kind.slack" s_Kind_slack f fd) (T : Txt P w K mg C_BadKind C_CableError C_Kind)  :
    FnOk P w K mg base CX0 1 f fd ["self"] (sp_Kind_slack C_Kind) := by
  refine F.ok sc_Kind_slack (fun vs H Q E h => ?_) (fun cdv A outer s H vs Q E hr h => ?_)
  · obtain ⟨a, y, s, n, rfl, _⟩ := h
    rfl
  · obtain ⟨a, y, s', n, rfl, ⟨dx, ha⟩, q⟩ := h
    refine ⟨_, (pss_one (ps_ret (pe_op op_sub (pe_fld (pv 0) rfl) (pe_fld (pv 0) rfl)))), ?_⟩
    exact ⟨_, rfl, a, C_Kind, dx, _, _, rfl, ha, T.cl_Kind, T.nf_Kind_stay, kif_stay .., _, rfl, a, C_Kind, dx, _, _, rfl, ha, T.cl_Kind, T.nf_Kind_need, kif_need .., _, _, rfl, rfl, q⟩
theorem ok_Kind_car {f : Addr} {fd : FuncData} (F : Fun K "car" "Kind.car" s_Kind_car f fd) (T : Txt P w K mg C_BadKind C_CableError C_Kind)  :
    FnOk P w K mg base CX0 1 f fd ["self"] (sp_Kind_car C_Kind) := by
  refine F.ok sc_Kind_car (fun vs H Q E h => ?_) (fun cdv A outer s H vs Q E hr h => ?_)
  · obtain ⟨a, y, s, n, rfl, _⟩ := h
    rfl
  · obtain ⟨a, y, s', n, rfl, ⟨dx, ha⟩, q⟩ := h
    refine ⟨_, (pss_one (ps_ret (pe_tup (pa_cons (pe_fld (pv 0) rfl) (pa_cons (pe_fld (pv 0) rfl) (pa_cons (pe_fld (pv 0) rfl) (pa_cons (pe_fld (pv 0) rfl) pa_nil))))))), ?_⟩
    exact ⟨_, rfl, a, C_Kind, dx, _, _, rfl, ha, T.cl_Kind, T.nf_Kind_stay, kif_stay .., _, rfl, a, C_Kind, dx, _, _, rfl, ha, T.cl_Kind, T.nf_Kind_need, kif_need .., _, rfl, a, C_Kind, dx, _, _, rfl, ha, T.cl_Kind, T.nf_Kind_stay, kif_stay .., _, rfl, a, C_Kind, dx, _, _, rfl, ha, T.cl_Kind, T.nf_Kind_need, kif_need .., (by show 4 ≤ sizeLine; decide), fun z hz => q _ z (same_upd hz) hz upd_same⟩
theorem ok_Kind_str {f : Addr} {fd : FuncData} (F : Fun K "__str__" "Kind.__str__" s_Kind_str f fd) (T : Txt P w K mg C_BadKind C_CableError C_Kind)  :
    FnOk P w K mg base CX0 1 f fd ["self"] (sp_Kind_str C_Kind) := by
  refine F.ok sc_Kind_str (fun vs H Q E h => ?_) (fun cdv A outer s H vs Q E hr h => ?_)
  · obtain ⟨a, y, s, n, rfl, _⟩ := h
    rfl
  · obtain ⟨a, y, s', n, rfl, ⟨dx, ha⟩, hk, q⟩ := h
    refine ⟨_, (pss_one (ps_ret (pe_joinedD (PJ.cons pe_str (PJ.cons (pe_fmt (pe_fld (pv 0) rfl)) (PJ.cons pe_str (PJ.cons (pe_fmt (pe_fld (pv 0) rfl)) (PJ.cons pe_str (PJ.cons (pe_fmt (pe_fld (pv 0) rfl)) PJ.nil))))))))), ?_⟩
    obtain ⟨hn, k1, k2, k3, k4⟩ := wrongK_ok hk
    have nl := name_len hn
    obtain ⟨d1, d2⟩ := one_digit k1 k2
    obtain ⟨e1, e2⟩ := one_digit k3 (by omega)
    obtain ⟨l1, l2, l3, l4⟩ := litk
    have big : ∀ n : Nat, n ≤ 100 → n ≤ sizeLine := fun n h => by rw [sizeLine_eq]; omega
    unfold kTxt at q
    rw [← kTxt_e] at q
    refine ⟨_, rfl, big _ (by omega), _, rfl, a, C_Kind, dx, _, _, rfl, ha, T.cl_Kind, T.nf_Kind_name, kif_name .., .inl ⟨_, rfl, big _ (by omega), _, rfl, big _ (by rw [alen]; omega), ?_⟩⟩
    refine ⟨_, rfl, big _ (by rw [alen, alen]; omega), _, rfl, a, C_Kind, dx, _, _, rfl, ha, T.cl_Kind, T.nf_Kind_stay, kif_stay .., .inr ⟨_, rfl, d2, _, rfl, big _ (by rw [alen, alen, alen]; omega), ?_⟩⟩
    refine ⟨_, rfl, big _ (by rw [alen, alen, alen, alen]; omega), _, rfl, a, C_Kind, dx, _, _, rfl, ha, T.cl_Kind, T.nf_Kind_need, kif_need .., .inr ⟨_, rfl, e2, _, rfl, big _ (by rw [alen, alen, alen, alen, alen]; omega), q⟩⟩
theorem ok_Kind_eq {f : Addr} {fd : FuncData} (F : Fun K "__eq__" "Kind.__eq__" s_Kind_eq f fd) (T : Txt P w K mg C_BadKind C_CableError C_Kind)  :
    FnOk P w K mg base CX0 1 f fd ["self", "other"] (sp_Kind_eq C_Kind) := by
  refine F.ok sc_Kind_eq (fun vs H Q E h => ?_) (fun cdv A outer s H vs Q E hr h => ?_)
  · obtain ⟨a, b, y, z, s, n, t, m, rfl, _⟩ := h
    rfl
  · obtain ⟨a, b, y, z, s', n, t, m, rfl, ⟨dx, ha⟩, ⟨dy, hb⟩, q⟩ := h
    refine ⟨_, (pss_one (ps_ret (pe_and (pe_callB (C8.call_isC T.i_Kind) (by rfl) T.n_isinstance (by decide +kernel) (pa_cons (pv 1) (pa_cons (pe_glob (v := .ref C_Kind) rfl T.g_Kind rfl) pa_nil))) (pe_and (pe_cmpR op_eq (pe_fld (pv 0) rfl) (pe_fld (pv 1) rfl) (nomark _)) (pe_and (pe_cmpR op_eq (pe_fld (pv 0) rfl) (pe_fld (pv 1) rfl) (nomark _)) (pe_one (pe_cmpR op_eq (pe_fld (pv 0) rfl) (pe_fld (pv 1) rfl) (nomark _)))))))), ?_⟩
    refine ⟨_, rfl, b, dy, _, rfl, hb, true, rfl, iteT ?_⟩
    refine ⟨_, rfl, a, C_Kind, dx, _, _, rfl, ha, T.cl_Kind, T.nf_Kind_name, kif_name .., _, rfl, b, C_Kind, dy, _, _, rfl, hb, T.cl_Kind, T.nf_Kind_name, kif_name .., rfl, _, rfl, iteB (fun h1 => ?_) (fun h1 => ?_)⟩
    · have e1 : y = z := by
        have := of_decide_eq_true h1
        injection this
      refine ⟨_, rfl, a, C_Kind, dx, _, _, rfl, ha, T.cl_Kind, T.nf_Kind_stay, kif_stay .., _, rfl, b, C_Kind, dy, _, _, rfl, hb, T.cl_Kind, T.nf_Kind_stay, kif_stay .., rfl, _, rfl, iteB (fun h2 => ?_) (fun h2 => ?_)⟩
      · have e2 : s' = t := V.int.inj (of_decide_eq_true h2)
        refine ⟨_, rfl, a, C_Kind, dx, _, _, rfl, ha, T.cl_Kind, T.nf_Kind_need, kif_need .., _, rfl, b, C_Kind, dy, _, _, rfl, hb, T.cl_Kind, T.nf_Kind_need, kif_need .., rfl, ?_⟩
        have e : decide (y = z ∧ s' = t ∧ n = m) = decide (V.int n = V.int m) := by
          rw [decide_eq_decide]
          exact ⟨fun ⟨_, _, h⟩ => by rw [h], fun h => ⟨e1, e2, V.int.inj h⟩⟩
        rw [e] at q
        exact q
      · have e2 : ¬ s' = t := fun z => of_decide_eq_false h2 (by rw [z])
        rw [decide_eq_false (fun z => e2 z.2.1)] at q
        exact q
    · have e1 : ¬ y = z := fun z => of_decide_eq_false h1 (by rw [z])
      rw [decide_eq_false (fun z => e1 z.1)] at q
      exact q
theorem ok_Lcell {f : Addr} {fd : FuncData} (F : Fun K "_law_cell" "_law_cell" s_Lcell f fd) (T : Txt P w K mg C_BadKind C_CableError C_Kind)  :
    FnOk P w K mg base CX0 1 f fd ["_law_script", "_law_at"] (sp_Lcell K) := by
  refine F.ok sc_Lcell (fun vs H Q E h => ?_) (fun cdv A outer s H vs Q E hr h => ?_)
  · obtain ⟨l, ns, j, rfl, _⟩ := h
    rfl
  · obtain ⟨l, ns, j, rfl, hs, q⟩ := h
    refine ⟨_, (pss_cons (ps_if (pt_cmpR op_lt (pv 1) (pe_callB call_len_seq (by rfl) T.n_len PySem.boot_len (pa_cons (pv 0) pa_nil)) (nomark _)) (pss_one (ps_ret (pe_callB call_abs (by rfl) T.n_abs (by decide +kernel) (pa_cons (pe_callTy call_int1 (by rfl) T.n_int (by decide +kernel) (pa_cons (pe_ix ix_list (pv 0) (pv 1) (fun _ _ => rfl)) pa_nil)) pa_nil)))) pss_nil)
      (pss_one (ps_ret pe_int))), ?_⟩
    refine ⟨_, rfl, _, rfl, l, _, rfl, .inl hs, _, _, rfl, rfl, _, rfl, ?_⟩
    refine ite2 (fun hlt => ?_) (fun _ => q 0 (by decide))
    have hj : j < ns.length := by
      have z := of_decide_eq_true hlt
      rw [List.length_map] at z
      omega
    have hat : (ns.map V.int)[j]? = some (V.int ns[j]) := by rw [List.getElem?_map, List.getElem?_eq_getElem hj] <;> rfl
    refine ⟨_, rfl, _, rfl, l, _, _, _, rfl, rfl, hs, atI_nat hat, .inl ⟨_, rfl, _, rfl, q _ ?_⟩⟩
    split <;> omega
theorem ok_Lpool {f : Addr} {fd : FuncData} (F : Fun K "_law_pool" "_law_pool" s_Lpool f fd) (T : Txt P w K mg C_BadKind C_CableError C_Kind)  :
    FnOk P w K mg base CX0 1 f fd ["_law_cell_here"] sp_Lpool := by
  refine F.ok sc_Lpool (fun vs H Q E h => ?_) (fun cdv A outer s H vs Q E hr h => ?_)
  · obtain ⟨c, rfl, _⟩ := h
    rfl
  · obtain ⟨c, rfl, q⟩ := h
    refine ⟨_, (pss_cons (ps_if (pt_cmpR op_ge (pv 0) (pe_op op_pow pe_int pe_int) (nomark _)) (pss_one (ps_ret (pe_lst (pa_cons (pv 0) (pa_cons (pv 0) (pa_cons pe_int pa_nil)))))) pss_nil)
      (pss_one (ps_ret (pe_lst (pa_cons pe_int (pa_cons (pv 0) (pa_cons pe_int pa_nil))))))), ?_⟩
    refine ⟨_, rfl, _, _, rfl, rfl, ⟨by decide, by decide, by decide⟩, _, _, rfl, rfl, _, rfl, ?_⟩
    refine ite2 (fun _ => ?_) (fun _ => ?_)
    · exact ⟨_, rfl, _, rfl, (by show 3 ≤ sizeLine; decide), fun p hp => q p _ hp (same_upd hp) ⟨_, _, _, upd_same⟩⟩
    · exact ⟨_, rfl, (by show 3 ≤ sizeLine; decide), fun p hp => q p _ hp (same_upd hp) ⟨_, _, _, upd_same⟩⟩
theorem ok_Ltake {f : Addr} {fd : FuncData} (F : Fun K "_law_take" "_law_take" s_Ltake f fd) (T : Txt P w K mg C_BadKind C_CableError C_Kind)  :
    FnOk P w K mg base CX0 1 f fd ["_law_pool_here", "_law_many"] sp_Ltake := by
  refine F.ok sc_Ltake (fun vs H Q E h => ?_) (fun cdv A outer s H vs Q E hr h => ?_)
  · obtain ⟨p, many, rfl, _⟩ := h
    rfl
  · obtain ⟨p, many, rfl, ⟨x, y, z, hp⟩, hm, hb, q⟩ := h
    refine ⟨_, (pss_cons (ps_asg (pe_op op_add (pe_ix ix_list (pv 0) pe_int (fun _ _ => rfl)) pe_int) (pg_sub (pv 0) pe_int set_list))
      (pss_cons (ps_if (pt_cmpR op_gt (pe_ix ix_list (pv 0) pe_int (fun _ _ => rfl)) pe_int (nomark _)) (pss_cons (ps_set (i := 2) sc_Ltake.nd rfl (Or.inl rfl) (pe_op op_mod (pe_callTy call_int1 (by rfl) T.n_int (by decide +kernel) (pa_cons (pe_ix ix_list (pv 0) pe_int (fun _ _ => rfl)) pa_nil)) (pv 1)))
      (pss_cons (ps_asg (pe_op op_fdivW (pe_ix ix_list (pv 0) pe_int (fun _ _ => rfl)) (pv 1)) (pg_sub (pv 0) pe_int set_list))
      (pss_one (ps_ret (pv 2))))) pss_nil)
      (pss_cons (ps_set (i := 3) sc_Ltake.nd rfl (Or.inl rfl) (pe_op op_mod (pe_callTy call_int1 (by rfl) T.n_int (by decide +kernel) (pa_cons (pe_op op_mulA (pe_op op_add (pe_ix ix_list (pv 0) pe_int (fun _ _ => rfl)) (pe_op op_mulA pe_int (pe_ix ix_list (pv 0) pe_int (fun _ _ => rfl)))) pe_int) pa_nil)) pe_int))
      (pss_cons (ps_set (i := 3) sc_Ltake.nd rfl (Or.inl rfl) (pe_op op_mod (pe_callTy call_int1 (by rfl) T.n_int (by decide +kernel) (pa_cons (pe_op op_add (pe_op op_mulA (pv 3) pe_int) (pe_op op_mulA pe_int (pe_ix ix_list (pv 0) pe_int (fun _ _ => rfl)))) pa_nil)) pe_int))
      (pss_one (ps_ret (pe_op op_mod (pe_callTy call_int1 (by rfl) T.n_int (by decide +kernel) (pa_cons (pe_op op_fdivW (pv 3) pe_int) pa_nil)) (pv 1)))))))), ?_⟩
    refine ⟨_, rfl, p, _, _, _, rfl, rfl, SqL.of hp, at2, _, _, rfl, rfl, _, rfl, p, _, _, _, rfl, rfl, hp, rfl, ?_⟩
    refine ⟨_, rfl, p, _, _, _, rfl, rfl, SqL.of upd_same, at0, _, _, rfl, rfl, _, rfl, ?_⟩
    refine ite2 (fun _ => ?_) (fun _ => ?_)
    · refine ⟨_, rfl, p, _, _, _, rfl, rfl, SqL.of upd_same, at0, .inl ⟨_, rfl, _, rfl, _, _, rfl, rfl, hm, ?_⟩⟩
      refine ⟨_, rfl, p, _, _, _, rfl, rfl, SqL.of upd_same, at0, _, rfl, _, _, rfl, rfl, wide_div hm hb (by decide) (by decide), _, rfl, p, _, _, _, rfl, rfl, upd_same, rfl, ?_⟩
      exact ⟨_, rfl, q _ _ (Kp.trans Kp.upd Kp.upd) ⟨_, _, _, upd_same⟩ (Int.emod_nonneg _ (by omega)) (Int.emod_lt_of_pos _ hm)⟩
    · refine ⟨_, rfl, p, _, _, _, rfl, rfl, SqL.of upd_same, at1, _, rfl, p, _, _, _, rfl, rfl, SqL.of upd_same, at2, _, _, rfl, rfl, .inl (.inl ⟨by decide, by decide⟩), _, _, rfl, rfl, _, _, rfl, rfl, .inl (.inr ⟨by decide, by decide⟩), .inl ⟨_, rfl, _, _, rfl, rfl, (by show (0 : Int) < 2147483647; decide), ?_⟩⟩
      refine ⟨_, rfl, _, _, rfl, rfl, .inl (.inr ⟨by decide, by decide⟩), _, rfl, p, _, _, _, rfl, rfl, SqL.of upd_same, at2, _, _, rfl, rfl, .inl (.inl ⟨by decide, by decide⟩), _, _, rfl, rfl, .inl ⟨_, rfl, _, _, rfl, rfl, (by show (0 : Int) < 2147483399; decide), ?_⟩⟩
      refine ⟨_, rfl, _, _, rfl, rfl, wide_div (b := 300) (by decide) (by decide) (by decide) (by decide), .inl ⟨_, rfl, _, rfl, _, _, rfl, rfl, hm, ?_⟩⟩
      exact q _ _ Kp.upd ⟨_, _, _, upd_same⟩ (Int.emod_nonneg _ (by omega)) (Int.emod_lt_of_pos _ hm)
theorem okr_Lsame {f : Addr} {fd : FuncData} {j n : Nat} (F : Fun K "_law_same" "_law_same" s_Lsame f fd) (T : Txt P w K mg C_BadKind C_CableError C_Kind) (c_Lsame : Cal CX0 P w K mg base j "_law_same" (sp_Lsame K n)) :
    FnOk P w K mg base CX0 (j + 1) f fd ["_law_told", "_law_due"] (sp_Lsame K (n + 1)) := by
  refine F.ok sc_Lsame (fun vs H Q E h => ?_) (fun cdv A outer s H vs Q E hr h => ?_)
  · obtain ⟨x, y, rfl, _⟩ := h
    rfl
  · obtain ⟨x, y, rfl, hv, q⟩ := h
    refine ⟨_, (pss_cons (ps_if (pt_cmpR op_isN (pv 1) pe_non (nomark _)) (pss_one (ps_ret (pe_cmpR op_isN (pv 0) pe_non (nomark _)))) pss_nil)
      (pss_cons (ps_if (pt_cmpR op_isB (pv 1) pe_bl (nomark _)) (pss_one (ps_ret (pe_cmpR op_isB (pv 0) pe_bl (nomark _)))) pss_nil)
      (pss_cons (ps_if (pt_cmpR op_isB (pv 1) pe_bl (nomark _)) (pss_one (ps_ret (pe_cmpR op_isB (pv 0) pe_bl (nomark _)))) pss_nil)
      (pss_cons (ps_if (pt_val (pe_callB call_isi (by rfl) T.n_isinstance (by decide +kernel) (pa_cons (pv 1) (pa_cons (pe_bltn (v := .ty "int") (by rfl) T.n_int (by decide +kernel) rfl) pa_nil)))) (pss_one (ps_ret (pe_and (pe_callB call_isi (by rfl) T.n_isinstance (by decide +kernel) (pa_cons (pv 0) (pa_cons (pe_bltn (v := .ty "int") (by rfl) T.n_int (by decide +kernel) rfl) pa_nil))) (pe_and (pe_not (pe_callB call_isi (by rfl) T.n_isinstance (by decide +kernel) (pa_cons (pv 0) (pa_cons (pe_bltn (v := .ty "bool") (by rfl) T.n_bool (by decide +kernel) rfl) pa_nil)))) (pe_one (pe_cmpR op_eq (pv 0) (pv 1) (nomark _))))))) pss_nil)
      (pss_cons (ps_if (pt_val (pe_callB call_isi (by rfl) T.n_isinstance (by decide +kernel) (pa_cons (pv 1) (pa_cons (pe_bltn (v := .ty "str") (by rfl) T.n_str (by decide +kernel) rfl) pa_nil)))) (pss_one (ps_ret (pe_and (pe_callB call_isi (by rfl) T.n_isinstance (by decide +kernel) (pa_cons (pv 0) (pa_cons (pe_bltn (v := .ty "str") (by rfl) T.n_str (by decide +kernel) rfl) pa_nil))) (pe_one (pe_cmpR op_eq (pv 0) (pv 1) (nomark _)))))) pss_nil)
      (pss_cons (ps_if (PW.pt (pw_and (pt_val (pe_callB call_isi (by rfl) T.n_isinstance (by decide +kernel) (pa_cons (pv 1) (pa_cons (pe_bltn (v := .ty "tuple") (by rfl) T.n_tuple (by decide +kernel) rfl) pa_nil)))) (pw_and1 (pt_not (pt_val (pe_callB call_isi (by rfl) T.n_isinstance (by decide +kernel) (pa_cons (pv 0) (pa_cons (pe_bltn (v := .ty "tuple") (by rfl) T.n_tuple (by decide +kernel) rfl) pa_nil)))))))) (pss_one (ps_ret pe_bl)) pss_nil)
      (pss_cons (ps_if (PW.pt (pw_and (pt_val (pe_callB call_isi (by rfl) T.n_isinstance (by decide +kernel) (pa_cons (pv 1) (pa_cons (pe_bltn (v := .ty "list") (by rfl) T.n_list (by decide +kernel) rfl) pa_nil)))) (pw_and1 (pt_not (pt_val (pe_callB call_isi (by rfl) T.n_isinstance (by decide +kernel) (pa_cons (pv 0) (pa_cons (pe_bltn (v := .ty "list") (by rfl) T.n_list (by decide +kernel) rfl) pa_nil)))))))) (pss_one (ps_ret pe_bl)) pss_nil)
      (pss_cons (ps_if (pt_cmpR op_ne (pe_callB call_len_seq (by rfl) T.n_len PySem.boot_len (pa_cons (pv 0) pa_nil)) (pe_callB call_len_seq (by rfl) T.n_len PySem.boot_len (pa_cons (pv 1) pa_nil)) (nomark _)) (pss_one (ps_ret pe_bl)) pss_nil)
      (pss_cons (ps_for PassesOwn.never rfl (pi_range1 (by rfl) T.n_range (pa_cons (pe_callB call_len_seq (by rfl) T.n_len PySem.boot_len (pa_cons (pv 1) pa_nil)) pa_nil)) (pg_name (i := 2) sc_Lsame.nd rfl (Or.inl rfl))
        (pss_one (ps_if (pt_not (pt_val (pc_c c_Lsame hr (Nat.le_refl _) rfl pass0 (pa_cons (pe_ix ix_seq (pv 0) (pv 2) (fun _ _ => rfl)) (pa_cons (pe_ix ix_seq (pv 1) (pv 2) (fun _ _ => rfl)) pa_nil))))) (pss_one (ps_ret pe_bl)) pss_nil)))
      (pss_one (ps_ret pe_bl))))))))))), ?_⟩
    have kL1 : PySem.W.kitOne K (.type "list") (.type "int") = some false := kit_ty (by decide +kernel)
    have kL2 : PySem.W.kitOne K (.type "list") (.type "str") = some false := kit_ty (by decide +kernel)
    have kL3 : PySem.W.kitOne K (.type "list") (.type "tuple") = some false := kit_ty (by decide +kernel)
    have kL4 : PySem.W.kitOne K (.type "list") (.type "list") = some true := kit_ty (by decide +kernel)
    have kT1 : PySem.W.kitOne K (.type "tuple") (.type "int") = some false := kit_ty (by decide +kernel)
    have kT2 : PySem.W.kitOne K (.type "tuple") (.type "str") = some false := kit_ty (by decide +kernel)
    have kT3 : PySem.W.kitOne K (.type "tuple") (.type "tuple") = some true := kit_ty (by decide +kernel)
    have kT4 : PySem.W.kitOne K (.type "tuple") (.type "list") = some false := kit_ty (by decide +kernel)
    have hv' : (flatD x = true ∧ x = y) ∨ (∃ m, n = m + 1 ∧ ∃ (a b : Addr) (xs ys : List V), x = .ref a ∧ y = .ref b ∧ SqL K H a xs ∧ SqL K H b ys ∧ xs.length ≤ sizeLine ∧ Pairs (SameV K H m) xs ys) ∨
        (∃ m, n = m + 1 ∧ ∃ (a b : Addr) (xs ys : List V), x = .ref a ∧ y = .ref b ∧ SqT K H a xs ∧ SqT K H b ys ∧ xs.length ≤ sizeLine ∧ Pairs (SameV K H m) xs ys) := by
      cases n with
      | zero => exact .inl hv
      | succ m =>
        rcases hv with h | h | h
        · exact .inl h
        · exact .inr (.inl ⟨m, rfl, h⟩)
        · exact .inr (.inr ⟨m, rfl, h⟩)
    rcases hv' with ⟨hf, e⟩ | ⟨m, rfl, a, b, xs, ys, rfl, rfl, ha, hb, hl, hp⟩ | ⟨m, rfl, a, b, xs, ys, rfl, rfl, ha, hb, hl, hp⟩
    · subst e
      cases x with
      | non => exact ⟨_, rfl, rfl, _, rfl, iteDT rfl ⟨_, rfl, rfl, q⟩⟩
      | bl b =>
        refine ⟨_, rfl, rfl, _, rfl, iteDF (by intro z; cases z) ?_⟩
        cases b with
        | true => exact ⟨_, rfl, _, rfl, _, rfl, iteDT rfl ⟨_, rfl, _, rfl, q⟩⟩
        | false => exact ⟨_, rfl, _, rfl, _, rfl, iteDF (by intro z; cases z) ⟨_, rfl, _, rfl, _, rfl, iteDT rfl ⟨_, rfl, _, rfl, q⟩⟩⟩
      | int i =>
        refine ⟨_, rfl, rfl, _, rfl, iteDF (by intro z; cases z) ?_⟩
        refine ⟨_, rfl, _, rfl, _, rfl, iteDF (by intro z; cases z) ?_⟩
        refine ⟨_, rfl, _, rfl, _, rfl, iteDF (by intro z; cases z) ?_⟩
        refine ⟨_, rfl, _, _, _, .type "int", true, rfl, .ty "int", .base (.int i), kit_ty (by decide +kernel), true, rfl, iteT ?_⟩
        refine ⟨_, rfl, _, _, _, .type "int", true, rfl, .ty "int", .base (.int i), kit_ty (by decide +kernel), true, rfl, iteT ?_⟩
        refine ⟨_, rfl, _, _, _, .type "bool", false, rfl, .ty "bool", .base (.int i), kit_ty (by decide +kernel), false, rfl, true, rfl, iteT ?_⟩
        refine ⟨_, rfl, _, rfl, rfl, ?_⟩
        rw [decide_eq_true (show V.int i = V.int i from rfl)]
        exact q
      | str i =>
        refine ⟨_, rfl, rfl, _, rfl, iteDF (by intro z; cases z) ?_⟩
        refine ⟨_, rfl, _, rfl, _, rfl, iteDF (by intro z; cases z) ?_⟩
        refine ⟨_, rfl, _, rfl, _, rfl, iteDF (by intro z; cases z) ?_⟩
        refine ⟨_, rfl, _, _, _, .type "int", false, rfl, .ty "int", .base (.str i), kit_ty (by decide +kernel), false, rfl, iteF ?_⟩
        refine ⟨_, rfl, _, _, _, .type "str", true, rfl, .ty "str", .base (.str i), kit_ty (by decide +kernel), true, rfl, iteT ?_⟩
        refine ⟨_, rfl, _, _, _, .type "str", true, rfl, .ty "str", .base (.str i), kit_ty (by decide +kernel), true, rfl, iteT ?_⟩
        refine ⟨_, rfl, _, rfl, rfl, ?_⟩
        rw [decide_eq_true (show V.str i = V.str i from rfl)]
        exact q
      | _ => exact absurd (show false = true from hf) Bool.false_ne_true
    · refine ⟨_, rfl, rfl, _, rfl, iteDF (by intro z; cases z) ?_⟩
      refine ⟨_, rfl, _, rfl, _, rfl, iteDF (by intro z; cases z) ?_⟩
      refine ⟨_, rfl, _, rfl, _, rfl, iteDF (by intro z; cases z) ?_⟩
      refine ⟨_, rfl, _, _, _, .type "int", false, rfl, .ty "int", tyx_list hb, kL1, false, rfl, iteF ?_⟩
      refine ⟨_, rfl, _, _, _, .type "str", false, rfl, .ty "str", tyx_list hb, kL2, false, rfl, iteF ?_⟩
      refine ⟨_, rfl, _, _, _, .type "tuple", false, rfl, .ty "tuple", tyx_list hb, kL3, false, rfl, iteF (iteF ?_)⟩
      refine ⟨_, rfl, _, _, _, .type "list", true, rfl, .ty "list", tyx_list hb, kL4, true, rfl, iteT ?_⟩
      refine ⟨_, rfl, _, _, _, .type "list", true, rfl, .ty "list", tyx_list ha, kL4, true, rfl, iteF ?_⟩
      refine ⟨_, rfl, a, _, rfl, .inl ha, _, rfl, b, _, rfl, .inl hb, rfl, _, rfl, ?_⟩
      rw [decide_eq_true (show V.int (xs.length : Nat) = V.int (ys.length : Nat) by rw [hp.1])]
      refine iteF ?_
      have hy : ys.length ≤ 16777216 := by rw [← hp.1, ← sizeLine_eq]; exact hl
      refine ⟨_, rfl, b, _, rfl, .inl hb, _, rfl, by omega, by omega, for_range (lo := 0) (n := ((ys.length : Nat) : Int).toNat) (fun i σ H' => H' = H ∧ ∃ v : Option V, σ = [some (.ref a), some (.ref b), v]) ⟨rfl, none, rfl⟩ ?_ ?_⟩
      · rintro i σ H' hi ⟨rfl, v, rfl⟩
        have i1 : i < ys.length := by omega
        have i2 : i < xs.length := by rw [hp.1]; exact i1
        have ex : xs[i]? = some xs[i] := List.getElem?_eq_getElem i2
        have ey : ys[i]? = some ys[i] := List.getElem?_eq_getElem i1
        have ex' := atI_nat ex
        have ey' := atI_nat ey
        rw [show ((i : Nat) : Int) = 0 + ((i : Nat) : Int) by omega] at ex' ey'
        refine ⟨_, rfl, _, rfl, .inl ⟨a, _, _, _, rfl, rfl, ha, ex', _, rfl, _, rfl, .inl ⟨b, _, _, _, rfl, rfl, hb, ey', _, _, rfl, hp.2 i _ _ ex ey, true, rfl, iteF ?_⟩⟩⟩
        exact ⟨rfl, _, rfl⟩
      · rintro σ H' ⟨rfl, v, rfl⟩
        exact q
    · refine ⟨_, rfl, rfl, _, rfl, iteDF (by intro z; cases z) ?_⟩
      refine ⟨_, rfl, _, rfl, _, rfl, iteDF (by intro z; cases z) ?_⟩
      refine ⟨_, rfl, _, rfl, _, rfl, iteDF (by intro z; cases z) ?_⟩
      refine ⟨_, rfl, _, _, _, .type "int", false, rfl, .ty "int", tyx_tup hb, kT1, false, rfl, iteF ?_⟩
      refine ⟨_, rfl, _, _, _, .type "str", false, rfl, .ty "str", tyx_tup hb, kT2, false, rfl, iteF ?_⟩
      refine ⟨_, rfl, _, _, _, .type "tuple", true, rfl, .ty "tuple", tyx_tup hb, kT3, true, rfl, iteT ?_⟩
      refine ⟨_, rfl, _, _, _, .type "tuple", true, rfl, .ty "tuple", tyx_tup ha, kT3, true, rfl, iteF ?_⟩
      refine ⟨_, rfl, _, _, _, .type "list", false, rfl, .ty "list", tyx_tup hb, kT4, false, rfl, iteF (iteF ?_)⟩
      refine ⟨_, rfl, a, _, rfl, .inr ha, _, rfl, b, _, rfl, .inr hb, rfl, _, rfl, ?_⟩
      rw [decide_eq_true (show V.int (xs.length : Nat) = V.int (ys.length : Nat) by rw [hp.1])]
      refine iteF ?_
      have hy : ys.length ≤ 16777216 := by rw [← hp.1, ← sizeLine_eq]; exact hl
      refine ⟨_, rfl, b, _, rfl, .inr hb, _, rfl, by omega, by omega, for_range (lo := 0) (n := ((ys.length : Nat) : Int).toNat) (fun i σ H' => H' = H ∧ ∃ v : Option V, σ = [some (.ref a), some (.ref b), v]) ⟨rfl, none, rfl⟩ ?_ ?_⟩
      · rintro i σ H' hi ⟨rfl, v, rfl⟩
        have i1 : i < ys.length := by omega
        have i2 : i < xs.length := by rw [hp.1]; exact i1
        have ex : xs[i]? = some xs[i] := List.getElem?_eq_getElem i2
        have ey : ys[i]? = some ys[i] := List.getElem?_eq_getElem i1
        have ex' := atI_nat ex
        have ey' := atI_nat ey
        rw [show ((i : Nat) : Int) = 0 + ((i : Nat) : Int) by omega] at ex' ey'
        refine ⟨_, rfl, _, rfl, .inr (.inl ⟨a, _, _, _, rfl, rfl, ha, ex', _, rfl, _, rfl, .inr (.inl ⟨b, _, _, _, rfl, rfl, hb, ey', _, _, rfl, hp.2 i _ _ ex ey, true, rfl, iteF ?_⟩)⟩)⟩
        exact ⟨rfl, _, rfl⟩
      · rintro σ H' ⟨rfl, v, rfl⟩
        exact q
theorem ok_Lsame {f : Addr} {fd : FuncData} (F : Fun K "_law_same" "_law_same" s_Lsame f fd) (T : Txt P w K mg C_BadKind C_CableError C_Kind) (m : mg "_law_same" = some (.ref f)) (kp : PySem.W.keepIn K (.ref f) = true) (b : Binds K fd ["_law_told", "_law_due"] []) :
    ∀ n : Nat, FnOk P w K mg base CX0 (n + 1) f fd ["_law_told", "_law_due"] (sp_Lsame K n)
  | 0 => F.ok sc_Lsame (fun _ _ _ _ h => False.elim h) (fun _ _ _ _ _ _ _ _ _ h => False.elim h)
  | n + 1 => okr_Lsame F T (cal_mk (ok_Lsame F T m kp b n) m kp b)
theorem ok_Lsigns {f : Addr} {fd : FuncData} (F : Fun K "_law_signs" "_law_signs" s_Lsigns f fd) (T : Txt P w K mg C_BadKind C_CableError C_Kind)  :
    FnOk P w K mg base CX0 1 f fd [] sp_Lsigns := by
  refine F.ok sc_Lsigns (fun vs H Q E h => ?_) (fun cdv A outer s H vs Q E hr h => ?_)
  · obtain ⟨rfl, _⟩ := h
    rfl
  · obtain ⟨rfl, q⟩ := h
    refine ⟨_, (pss_cons (ps_set (i := 0) sc_Lsigns.nd rfl (Or.inl rfl) pe_str)
      (pss_one (ps_ret (pe_op op_add_str (pv 0) pe_str)))), ?_⟩
    exact ⟨_, rfl, _, _, rfl, rfl, (by decide +kernel), q⟩
theorem ok_Lbent {f : Addr} {fd : FuncData} (F : Fun K "_law_bent" "_law_bent" s_Lbent f fd) (T : Txt P w K mg C_BadKind C_CableError C_Kind) (c_Ltake : Cal CX0 P w K mg base 1 "_law_take" sp_Ltake) :
    FnOk P w K mg base CX0 2 f fd ["_law_pool_here", "_law_text", "_law_signs_here"] sp_LbentN := by
  refine F.ok sc_Lbent (fun vs H Q E h => ?_) (fun cdv A outer s H vs Q E hr h => ?_)
  · obtain ⟨p, y, g, rfl, _⟩ := h
    rfl
  · obtain ⟨p, y, g, rfl, hp, g0, g1, y1, q⟩ := h
    refine ⟨_, (pss_cons (ps_set (i := 3) sc_Lbent.nd rfl (Or.inl rfl) (pc_c c_Ltake hr (by decide) rfl pass0 (pa_cons (pv 0) (pa_cons (pe_op op_add (pe_callB call_len_str (by rfl) T.n_len PySem.boot_len (pa_cons (pv 1) pa_nil)) pe_int) pa_nil))))
      (pss_cons (ps_set (i := 4) sc_Lbent.nd rfl (Or.inl rfl) (pe_ix ix_str (pv 2) (pc_c c_Ltake hr (by decide) rfl pass0 (pa_cons (pv 0) (pa_cons (pe_callB call_len_str (by rfl) T.n_len PySem.boot_len (pa_cons (pv 2) pa_nil)) pa_nil))) (fun _ _ => rfl)))
      (pss_cons (ps_set (i := 5) sc_Lbent.nd rfl (Or.inl rfl) (pc_c c_Ltake hr (by decide) rfl pass0 (pa_cons (pv 0) (pa_cons pe_int pa_nil))))
      (pss_cons (ps_if (pt_cmpR op_eq (pv 5) pe_int (nomark _)) (pss_one (ps_ret (pe_op op_add_str (pe_op op_add_str (pe_slice sl_str (pv 1) po_none (po_some (pv 3))) (pv 4)) (pe_slice sl_str (pv 1) (po_some (pv 3)) po_none)))) pss_nil)
      (pss_cons (ps_if (pt_cmpR op_eq (pv 5) pe_int (nomark _)) (pss_one (ps_ret (pe_op op_add_str (pe_op op_add_str (pe_slice sl_str (pv 1) po_none (po_some (pv 3))) (pv 4)) (pe_slice sl_str (pv 1) (po_some (pe_op op_add (pv 3) pe_int)) po_none)))) pss_nil)
      (pss_one (ps_ret (pe_op op_add_str (pe_slice sl_str (pv 1) po_none (po_some (pv 3))) (pe_slice sl_str (pv 1) (po_some (pe_op op_add (pv 3) pe_int)) po_none))))))))), ?_⟩
    have big : ∀ n : Nat, n ≤ 100000 → n ≤ sizeLine := fun n h => small_line h
    have nb : ∀ r : Int, 0 ≤ r → r ≤ 100000 → r.natAbs < 2 ^ 300 := fun r h0 h1 => Nat.lt_of_lt_of_le (by omega : r.natAbs < 2 ^ 20) (by decide)
    refine ⟨_, rfl, _, rfl, y, rfl, big _ (by omega), _, _, rfl, rfl, p, _, rfl, hp, by omega, nb _ (by omega) (by omega), fun H1 a k1 p1 a0 a1 => ?_⟩
    refine ⟨_, rfl, _, rfl, _, rfl, g, rfl, big _ (by omega), p, _, rfl, p1, by omega, nb _ (by omega) (by omega), fun H2 b k2 p2 b0 b1 => ?_⟩
    obtain ⟨c, hc⟩ := atI_in (xs := g.cps.toList) b0 (by rw [Array.length_toList]; exact b1)
    refine ⟨g, b, c, rfl, rfl, big _ (by omega), hc, ?_⟩
    refine ⟨_, rfl, p, 3, rfl, p2, by decide, by decide, fun H3 wy k3 p3 w0 w1 => ?_⟩
    have kk := (k1.trans k2).trans k3
    have c1 : ∀ lo hi, (cutS y lo hi).length ≤ y.length := fun lo hi => cut_len y lo hi
    have one : (⟨#[c]⟩ : Str).length = 1 := rfl
    refine ⟨_, rfl, rfl, _, rfl, ite2 (fun _ => ?_) (fun _ => ?_)⟩
    · have x1 := c1 none (some a)
      have x2 := c1 (some a) none
      exact ⟨_, rfl, _, rfl, _, rfl, y, rfl, big _ (by omega), _, rfl, _, _, rfl, rfl, big _ (by omega), _, rfl, _, rfl, _, rfl, y, rfl, big _ (by omega), _, _, rfl, rfl, big _ (by rw [app_len]; omega), q _ _ kk p3 (by rw [app_len, app_len]; omega)⟩
    · have x1 := c1 none (some a)
      have x2 := c1 (some (a + 1)) none
      refine ⟨_, rfl, rfl, _, rfl, ite2 (fun _ => ?_) (fun _ => ?_)⟩
      · exact ⟨_, rfl, _, rfl, _, rfl, y, rfl, big _ (by omega), _, rfl, _, _, rfl, rfl, big _ (by omega), _, rfl, _, rfl, _, _, rfl, rfl, _, rfl, y, rfl, big _ (by omega), _, _, rfl, rfl, big _ (by rw [app_len]; omega), q _ _ kk p3 (by rw [app_len, app_len]; omega)⟩
      · exact ⟨_, rfl, _, rfl, _, rfl, y, rfl, big _ (by omega), _, rfl, _, rfl, _, _, rfl, rfl, _, rfl, y, rfl, big _ (by omega), _, _, rfl, rfl, big _ (by omega), q _ _ kk p3 (by rw [app_len]; omega)⟩
theorem ok_Lword {f : Addr} {fd : FuncData} (F : Fun K "_law_word" "_law_word" s_Lword f fd) (T : Txt P w K mg C_BadKind C_CableError C_Kind) (c_Ltake : Cal CX0 P w K mg base 1 "_law_take" sp_Ltake) :
    FnOk P w K mg base CX0 2 f fd ["_law_pool_here", "_law_size"] (sp_Lword K) := by
  refine F.ok sc_Lword (fun vs H Q E h => ?_) (fun cdv A outer s H vs Q E hr h => ?_)
  · obtain ⟨p, n, rfl, _⟩ := h
    rfl
  · obtain ⟨p, n, rfl, hp, hn, q⟩ := h
    refine ⟨_, (pss_cons (ps_set (i := 2) sc_Lword.nd rfl (Or.inr rfl) pe_str)
      (pss_one (ps_ret (pe_bm PySem.F.plainAttrs_str PySem.F.slot_str_join PySem.F.type_str_join mt_join pe_str (pa_cons (pe_lc (own := [("_law_k", 3)]) (g := (gName 3)) (tt := tYes) rfl sc_Lword.nd (pi_range1 (by rfl) T.n_range (pa_cons (pv 1) pa_nil)) (blkOk_by (own := [("_law_k", 3)]) (N := ["_law_pool_here", "_law_size", "_law_letters", "_law_k"]) (sc := defScope s_Lword) (by decide +kernel)) (fun _ _ _ _ _ => (pg_name (i := 3) sc_Lword.nd rfl (Or.inl rfl))) (fun _ _ _ _ _ => pts_nil) (fun _ _ _ _ _ => (pe_ix ix_str (pv 2) (pc_c c_Ltake hr (by decide) rfl pass0 (pa_cons (pv 0) (pa_cons pe_int pa_nil))) (fun _ _ => rfl)))) pa_nil))))), ?_⟩
    refine ⟨rfl, _, rfl, _, rfl, by omega, by omega, fun D hD => lc_range (lo := 0) (n := ((n : Nat) : Int).toNat) (fun i H' => Kp p H H' ∧ PoolAt H' p ∧ ∃ cs : List Nat, cs.length = i ∧ cs.all ltr = true ∧ H' D = some (.lst ((sgs cs).map V.str)))
      ⟨Kp.of (same_upd hD), hp.same (same_upd hD), [], rfl, rfl, upd_same⟩ ?_ ?_⟩
    · rintro i H' hi ⟨kk3, p3, cs, e1, e2, hD1⟩
      refine ⟨rfl, tyes ⟨_, rfl, _, rfl, p, 26, rfl, p3, by decide, by decide, fun H4 t kk4 p4 t0 t1 => ?_⟩⟩
      have e26 : abc.cps.toList.length = 26 := by decide +kernel
      obtain ⟨c, hc⟩ := atI_in (xs := abc.cps.toList) t0 (by rw [e26]; omega)
      have hm : c ∈ abc.cps.toList := by
        unfold atI at hc
        cases hx : ixN abc.cps.toList.length t with
        | none => rw [hx] at hc; cases hc
        | some j => rw [hx] at hc; exact List.mem_of_getElem? hc
      refine ⟨abc, t, c, rfl, rfl, by rw [sizeLine_eq]; decide +kernel, hc, ?_⟩
      have nD := pool_ne hp hD
      have sl : ((sgs cs).map V.str).length = i := by unfold sgs; rw [List.length_map, List.length_map, e1]
      refine ⟨_, kk4 _ _ nD hD1, small1000 (by rw [sl]; omega), kp_app (kk3.trans kk4) hD, pool_at p4 nD, cs ++ [c], ?_, ?_, ?_⟩
      · rw [List.length_append, e1]
        rfl
      · rw [List.all_append, e2, List.all_cons, (abc_iff c).mp hm]
        rfl
      · rw [upd_same]
        unfold sgs
        rw [List.map_append, List.map_append]
        rfl
    · rintro H3 ⟨kk3, p3, cs, e1, e2, hD1⟩
      have hs := sum1 (sgs_one cs)
      have sl : (sgs cs).length = n := by unfold sgs; rw [List.length_map, e1]; omega
      have tj := tl_join_sgs cs
      refine ⟨_, D, sgs cs, rfl, rfl, .inl (SqL.of hD1), by rw [hs, sl, empty_len]; omega, q _ _ kk3 p3 ?_ ?_⟩
      · rw [TL.len_tl, tj, e1]
        omega
      · show (TL.tl _).all ltr = true
        rw [tj]
        exact e2
theorem ok_Lname {f : Addr} {fd : FuncData} (F : Fun K "_law_name" "_law_name" s_Lname f fd) (T : Txt P w K mg C_BadKind C_CableError C_Kind) (c_Ltake : Cal CX0 P w K mg base 1 "_law_take" sp_Ltake) (c_Lbent : Cal CX0 P w K mg base 2 "_law_bent" sp_LbentN) (c_Lword : Cal CX0 P w K mg base 2 "_law_word" (sp_Lword K)) (c_Lsigns : Cal CX0 P w K mg base 1 "_law_signs" sp_Lsigns) :
    FnOk P w K mg base CX0 3 f fd ["_law_pool_here"] sp_Lname := by
  refine F.ok sc_Lname (fun vs H Q E h => ?_) (fun cdv A outer s H vs Q E hr h => ?_)
  · obtain ⟨p, rfl, _⟩ := h
    rfl
  · obtain ⟨p, rfl, hp, q⟩ := h
    refine ⟨_, (pss_cons (ps_set (i := 1) sc_Lname.nd rfl (Or.inl rfl) (pc_c c_Ltake hr (by decide) rfl pass0 (pa_cons (pv 0) (pa_cons pe_int pa_nil))))
      (pss_cons (ps_if (pt_cmpR op_eq (pv 1) pe_int (nomark _)) (pss_one (ps_ret (pc_c c_Lbent hr (by decide) rfl pass0 (pa_cons (pv 0) (pa_cons (pc_c c_Lword hr (by decide) rfl pass0 (pa_cons (pv 0) (pa_cons (pe_op op_add pe_int (pc_c c_Ltake hr (by decide) rfl pass0 (pa_cons (pv 0) (pa_cons pe_int pa_nil)))) pa_nil))) (pa_cons (pc_c0 c_Lsigns hr (by decide) rfl pass0) pa_nil)))))) pss_nil)
      (pss_cons (ps_if (pt_cmpR op_eq (pv 1) pe_int (nomark _)) (pss_cons (ps_set (i := 2) sc_Lname.nd rfl (Or.inr rfl) (pc_c0 c_Lsigns hr (by decide) rfl pass0))
      (pss_one (ps_ret (pe_bm PySem.F.plainAttrs_str PySem.F.slot_str_join PySem.F.type_str_join mt_join pe_str (pa_cons (pe_lc (own := [("_law_k", 3)]) (g := (gName 3)) (tt := tYes) rfl sc_Lname.nd (pi_range1 (by rfl) T.n_range (pa_cons (pc_c c_Ltake hr (by decide) rfl pass0 (pa_cons (pv 0) (pa_cons pe_int pa_nil))) pa_nil)) (blkOk_by (own := [("_law_k", 3)]) (N := ["_law_pool_here", "_law_choice", "_law_signs_here", "_law_k"]) (sc := defScope s_Lname) (by decide +kernel)) (fun _ _ _ _ _ => (pg_name (i := 3) sc_Lname.nd rfl (Or.inl rfl))) (fun _ _ _ _ _ => pts_nil) (fun _ _ _ _ _ => (pe_ix ix_str (pv 2) (pc_c c_Ltake hr (by decide) rfl pass0 (pa_cons (pv 0) (pa_cons pe_int pa_nil))) (fun _ _ => rfl)))) pa_nil))))) pss_nil)
      (pss_cons (ps_if (pt_cmpR op_eq (pv 1) pe_int (nomark _)) (pss_one (ps_ret (pc_c c_Lword hr (by decide) rfl pass0 (pa_cons (pv 0) (pa_cons (pe_op op_add pe_int (pc_c c_Ltake hr (by decide) rfl pass0 (pa_cons (pv 0) (pa_cons pe_int pa_nil)))) pa_nil))))) pss_nil)
      (pss_one (ps_ret (pc_c c_Lword hr (by decide) rfl pass0 (pa_cons (pv 0) (pa_cons (pe_op op_add pe_int (pc_c c_Ltake hr (by decide) rfl pass0 (pa_cons (pv 0) (pa_cons pe_int pa_nil)))) pa_nil))))))))), ?_⟩
    refine ⟨_, rfl, p, 6, rfl, hp, by decide, by decide, fun H1 ch k1 p1 c0 c1 => ?_⟩
    refine ⟨_, rfl, rfl, _, rfl, ite2 (fun _ => ?_) (fun _ => ⟨_, rfl, rfl, _, rfl, ite2 (fun _ => ?_) (fun _ => ⟨_, rfl, rfl, _, rfl, ite2 (fun _ => ?_) (fun _ => ?_)⟩)⟩)⟩
    · refine ⟨_, rfl, _, rfl, _, rfl, p, 8, rfl, p1, by decide, by decide, fun H2 r k2 p2 r0 r1 => ⟨_, _, rfl, rfl, ?_⟩⟩
      refine ⟨p, (1 + r).toNat, by rw [Int.toNat_of_nonneg (by omega)]; rfl, p2, by omega, fun H3 z k3 p3 hz _ => ?_⟩
      refine ⟨rfl, p, z, sgns, rfl, p3, by rw [sgns_len]; decide, by rw [sgns_len]; decide, by omega, fun H4 z' k4 p4 hz' => q _ z' (((k1.trans k2).trans k3).trans k4) p4 (by omega)⟩
    · refine ⟨rfl, rfl, _, rfl, p, 11, rfl, p1, by decide, by decide, fun H2 r kk2 p2 r0 r1 => ?_⟩
      refine ⟨r, rfl, by omega, by omega, fun D hD => lc_range (lo := 0) (n := r.toNat) (fun i H' => Kp p H2 H' ∧ PoolAt H' p ∧ ∃ ys : List Str, ys.length = i ∧ (∀ y ∈ ys, y.length = 1) ∧ H' D = some (.lst (ys.map V.str)))
        ⟨Kp.of (same_upd hD), p2.same (same_upd hD), [], rfl, (fun _ z => by cases z), upd_same⟩ ?_ ?_⟩
      · rintro i H' hi ⟨kk3, p3, ys, e1, e2, hD1⟩
        refine ⟨rfl, tyes ⟨_, rfl, _, rfl, p, 94, rfl, p3, by decide, by decide, fun H4 t kk4 p4 t0 t1 => ?_⟩⟩
        obtain ⟨c, hc⟩ := sign_at (g := sgns) t0 (by rw [sgns_len]; omega)
        refine ⟨sgns, t, c, rfl, rfl, by rw [sgns_len, sizeLine_eq]; decide, hc, ?_⟩
        have nD := pool_ne p2 hD
        refine ⟨_, kk4 _ _ nD hD1, small1000 (by rw [List.length_map]; omega), kp_app (kk3.trans kk4) hD, pool_at p4 nD, ys ++ [⟨#[c]⟩], ?_, fun y hy => ?_, ?_⟩
        · rw [List.length_append, e1]
          rfl
        · rw [List.mem_append, List.mem_singleton] at hy
          rcases hy with hy | rfl
          · exact e2 y hy
          · rfl
        · rw [upd_same, List.map_append]
          rfl
      · rintro H3 ⟨kk3, p3, ys, e1, e2, hD1⟩
        have hs := sum1 e2
        have z := join_le "" ys
        rw [hs, empty_len] at z
        exact ⟨_, D, ys, rfl, rfl, .inl (SqL.of hD1), by rw [hs, empty_len]; omega, q _ _ ((k1.trans kk2).trans kk3) p3 (by omega)⟩
    · refine ⟨_, rfl, _, rfl, p, 2, rfl, p1, by decide, by decide, fun H2 r k2 p2 r0 r1 => ⟨_, _, rfl, rfl, ?_⟩⟩
      exact ⟨p, (9 + r).toNat, by rw [Int.toNat_of_nonneg (by omega)]; rfl, p2, by omega, fun H3 z k3 p3 hz _ => q _ z ((k1.trans k2).trans k3) p3 (by omega)⟩
    · refine ⟨_, rfl, _, rfl, p, 8, rfl, p1, by decide, by decide, fun H2 r k2 p2 r0 r1 => ⟨_, _, rfl, rfl, ?_⟩⟩
      exact ⟨p, (1 + r).toNat, by rw [Int.toNat_of_nonneg (by omega)]; rfl, p2, by omega, fun H3 z k3 p3 hz _ => q _ z ((k1.trans k2).trans k3) p3 (by omega)⟩
theorem ok_Lnear {f : Addr} {fd : FuncData} (F : Fun K "_law_near" "_law_near" s_Lnear f fd) (T : Txt P w K mg C_BadKind C_CableError C_Kind) (c_Ltake : Cal CX0 P w K mg base 1 "_law_take" sp_Ltake) :
    FnOk P w K mg base CX0 2 f fd ["_law_pool_here"] sp_Lnear := by
  refine F.ok sc_Lnear (fun vs H Q E h => ?_) (fun cdv A outer s H vs Q E hr h => ?_)
  · obtain ⟨p, rfl, _⟩ := h
    rfl
  · obtain ⟨p, rfl, hp, q⟩ := h
    refine ⟨_, (pss_cons (ps_if (pt_cmpR op_lt (pc_c c_Ltake hr (by decide) rfl pass0 (pa_cons (pv 0) (pa_cons pe_int pa_nil))) pe_int (nomark _)) (pss_one (ps_ret (pe_op op_sub (pc_c c_Ltake hr (by decide) rfl pass0 (pa_cons (pv 0) (pa_cons pe_int pa_nil))) pe_int))) pss_nil)
      (pss_cons (ps_set (i := 1) sc_Lnear.nd rfl (Or.inl rfl) (pc_c c_Ltake hr (by decide) rfl pass0 (pa_cons (pv 0) (pa_cons (pe_op op_pow pe_int pe_int) pa_nil))))
      (pss_cons (ps_if (pt_cmpR op_eq (pc_c c_Ltake hr (by decide) rfl pass0 (pa_cons (pv 0) (pa_cons pe_int pa_nil))) pe_int (nomark _)) (pss_one (ps_ret (pe_op op_sub pe_int (pv 1)))) pss_nil)
      (pss_one (ps_ret (pv 1)))))), ?_⟩
    refine ⟨_, rfl, p, 4, rfl, hp, by decide, by decide, fun H1 ch k1 p1 c0 c1 => ⟨_, _, rfl, rfl, _, rfl, ite2 (fun _ => ?_) (fun _ => ?_)⟩⟩
    · exact ⟨_, rfl, p, 8, rfl, p1, by decide, by decide, fun H2 r k2 p2 r0 r1 => ⟨_, _, rfl, rfl, q _ _ (k1.trans k2) p2 (by omega)⟩⟩
    · refine ⟨_, rfl, _, _, rfl, rfl, ⟨by decide, by decide, by decide⟩, p, _, rfl, p1, by decide, by decide, fun H2 r k2 p2 r0 r1 => ?_⟩
      have r2 : r < 10 ^ 12 := r1
      refine ⟨_, rfl, p, 2, rfl, p2, by decide, by decide, fun H3 t k3 p3 t0 t1 => ⟨rfl, _, rfl, ite2 (fun _ => ?_) (fun _ => ?_)⟩⟩
      · exact ⟨_, rfl, _, _, rfl, rfl, q _ _ ((k1.trans k2).trans k3) p3 (by omega)⟩
      · exact ⟨_, rfl, q _ _ ((k1.trans k2).trans k3) p3 (by omega)⟩
theorem ok_Lis_name {f : Addr} {fd : FuncData} (F : Fun K "_law_is_name" "_law_is_name" s_Lis_name f fd) (T : Txt P w K mg C_BadKind C_CableError C_Kind)  :
    FnOk P w K mg base CX0 1 f fd ["_law_name_here"] sp_isname := by
  refine F.ok sc_Lis_name (fun vs H Q E h => ?_) (fun cdv A outer s H vs Q E hr h => ?_)
  · obtain ⟨y, rfl, _⟩ := h
    rfl
  · obtain ⟨y, rfl, hl, q⟩ := h
    refine ⟨_, (pss_cons (ps_for PassesOwn.never rfl (pi_str (pv 0)) (pg_name (i := 1) sc_Lis_name.nd rfl (Or.inl rfl))
        (pss_one (ps_if (pt_cmpR op_notIn_sign (pv 1) pe_str (by rfl)) (pss_one (ps_ret pe_bl)) pss_nil)))
      (pss_one (ps_ret (pe_and (pe_cmpR op_le pe_int (pe_callB call_len_str (by rfl) T.n_len PySem.boot_len (pa_cons (pv 0) pa_nil)) (nomark _)) (pe_one (pe_cmpR op_le (pe_callB call_len_str (by rfl) T.n_len PySem.boot_len (pa_cons (pv 0) pa_nil)) pe_int (nomark _))))))), ?_⟩
    have z : y.length ≤ sizeLine := by rw [sizeLine_eq]; omega
    refine ⟨_, rfl, y, rfl, for_str (x := y) (fun i σ H' => H' = H ∧ (∃ v : Option V, σ = [some (.str y), v]) ∧ ∀ c ∈ y.cps.toList.take i, ltr c = true) ⟨rfl, ⟨none, rfl⟩, fun c hc => by cases hc⟩ ?_ ?_⟩
    · rintro i c σ H' hc ⟨rfl, ⟨v, rfl⟩, hall⟩
      refine ⟨_, rfl, c, abc, rfl, rfl, _, rfl, iteB (fun h1 => ?_) (fun h1 => ?_)⟩
      · have h2 : ¬ c ∈ abc.cps.toList := by simpa using h1
        have h3 : ltr c = false := Bool.eq_false_iff.mpr fun w => h2 ((abc_iff c).mpr w)
        have e : nameOk y = false := by
          unfold nameOk
          rw [Bool.and_eq_false_iff]
          right
          rw [List.all_eq_false]
          exact ⟨c, List.mem_of_getElem? hc, by rw [h3]; exact Bool.false_ne_true⟩
        rw [e] at q
        exact q
      · have h2 : c ∈ abc.cps.toList := by simpa using h1
        refine ⟨rfl, ⟨_, rfl⟩, fun d hd => ?_⟩
        rw [← take_snoc hc, List.mem_append, List.mem_singleton] at hd
        rcases hd with hd | rfl
        · exact hall d hd
        · exact (abc_iff d).mp h2
    · rintro σ H' ⟨rfl, ⟨v, rfl⟩, hall⟩
      rw [show y.length = y.cps.toList.length by rw [Array.length_toList]; rfl, List.take_length] at hall
      have ha : y.cps.toList.all ltr = true := List.all_eq_true.mpr hall
      have e : nameOk y = decide (1 ≤ y.length ∧ y.length ≤ 8) := by
        unfold nameOk
        rw [ha, Bool.and_true]
      rw [e] at q
      refine ⟨_, rfl, y, rfl, z, _, _, rfl, rfl, _, rfl, iteB (fun h1 => ?_) (fun h1 => ?_)⟩
      · have h1' := of_decide_eq_true h1
        refine ⟨_, rfl, y, rfl, z, _, _, rfl, rfl, ?_⟩
        have e2 : decide (1 ≤ y.length ∧ y.length ≤ 8) = decide ((y.length : Int) ≤ 8) := by
          rw [decide_eq_decide]
          omega
        rw [e2] at q
        exact q
      · have h1' := of_decide_eq_false h1
        rw [decide_eq_false (by omega)] at q
        exact q
theorem ok_Lwrong {f : Addr} {fd : FuncData} (F : Fun K "_law_wrong" "_law_wrong" s_Lwrong f fd) (T : Txt P w K mg C_BadKind C_CableError C_Kind) (c_Lis_name : Cal CX0 P w K mg base 1 "_law_is_name" sp_isname) :
    FnOk P w K mg base CX0 2 f fd ["_law_kind"] (sp_Lwrong K) := by
  refine F.ok sc_Lwrong (fun vs H Q E h => ?_) (fun cdv A outer s H vs Q E hr h => ?_)
  · obtain ⟨a, y, s, n, rfl, _⟩ := h
    rfl
  · obtain ⟨a, y, s', n, rfl, ha, hl, q⟩ := h
    refine ⟨_, (pss_cons (ps_if (pt_not (pt_val (pc_c c_Lis_name hr (by decide) rfl pass0 (pa_cons (pe_ix ix_tup (pv 0) pe_int (fun _ _ => rfl)) pa_nil)))) (pss_one (ps_ret pe_str)) pss_nil)
      (pss_cons (ps_if (PW.pt (pw_or (pt_cmpR op_lt (pe_ix ix_tup (pv 0) pe_int (fun _ _ => rfl)) pe_int (nomark _)) (pw_or1 (pt_cmpR op_gt (pe_ix ix_tup (pv 0) pe_int (fun _ _ => rfl)) pe_int (nomark _))))) (pss_one (ps_ret pe_str)) pss_nil)
      (pss_cons (ps_if (PW.pt (pw_or (pt_cmpR op_lt (pe_ix ix_tup (pv 0) pe_int (fun _ _ => rfl)) pe_int (nomark _)) (pw_or1 (pt_cmpR op_gt (pe_ix ix_tup (pv 0) pe_int (fun _ _ => rfl)) (pe_ix ix_tup (pv 0) pe_int (fun _ _ => rfl)) (nomark _))))) (pss_one (ps_ret pe_str)) pss_nil)
      (pss_one (ps_ret pe_non))))), ?_⟩
    refine ⟨_, rfl, a, _, _, _, rfl, rfl, ha, rfl, y, rfl, hl, _, rfl, iteB (fun hc => ?_) (fun hc => ?_)⟩
    · rw [wrongK_name (by simpa using hc)] at q
      exact q
    have hn : nameOk y = true := by simpa using hc
    have bs : s' < 1 ∨ s' > 4 → Q (.str "stay") H := fun g => by
      rw [wrongK_stay hn g] at q
      exact q
    refine ⟨_, rfl, a, _, _, _, rfl, rfl, ha, rfl, _, _, rfl, rfl, _, rfl, iteB (fun h1 => bs (.inl (of_decide_eq_true h1))) (fun h1 => ⟨_, rfl, a, _, _, _, rfl, rfl, ha, rfl, _, _, rfl, rfl, _, rfl, iteB (fun h2 => bs (.inr (of_decide_eq_true h2))) (fun h2 => ?_)⟩)⟩
    have g : ¬ (s' < 1 ∨ s' > 4) := by
      have := of_decide_eq_false h1
      have := of_decide_eq_false h2
      omega
    have bn : n < 1 ∨ n > s' → Q (.str "need") H := fun k => by
      rw [wrongK_need hn g k] at q
      exact q
    refine ⟨_, rfl, a, _, _, _, rfl, rfl, ha, rfl, _, _, rfl, rfl, _, rfl, iteB (fun h3 => bn (.inl (of_decide_eq_true h3))) (fun h3 => ⟨_, rfl, a, _, _, _, rfl, rfl, ha, rfl, _, rfl, a, _, _, _, rfl, rfl, ha, rfl, _, _, rfl, rfl, _, rfl, iteB (fun h4 => bn (.inr (of_decide_eq_true h4))) (fun h4 => ?_)⟩)⟩
    have h3' := of_decide_eq_false h3
    have h4' := of_decide_eq_false h4
    rw [wrongK_none hn (by omega) (by omega) (by omega) (by omega)] at q
    exact q
theorem van_ok : nameOk "van" = true := by decide +kernel
theorem ok_Lmended {f : Addr} {fd : FuncData} (F : Fun K "_law_mended" "_law_mended" s_Lmended f fd) (T : Txt P w K mg C_BadKind C_CableError C_Kind) (c_Lis_name : Cal CX0 P w K mg base 1 "_law_is_name" sp_isname) :
    FnOk P w K mg base CX0 2 f fd ["_law_kind"] (sp_Lmended K) := by
  refine F.ok sc_Lmended (fun vs H Q E h => ?_) (fun cdv A outer s H vs Q E hr h => ?_)
  · obtain ⟨a, y, s, n, rfl, _⟩ := h
    rfl
  · obtain ⟨a, y, s', n, rfl, ha, hl, q⟩ := h
    refine ⟨_, (pss_cons (ps_set (i := 1) sc_Lmended.nd rfl (Or.inl rfl) (pe_ix ix_tup (pv 0) pe_int (fun _ _ => rfl)))
      (pss_cons (ps_set (i := 2) sc_Lmended.nd rfl (Or.inl rfl) (pe_ix ix_tup (pv 0) pe_int (fun _ _ => rfl)))
      (pss_cons (ps_set (i := 3) sc_Lmended.nd rfl (Or.inl rfl) (pe_ix ix_tup (pv 0) pe_int (fun _ _ => rfl)))
      (C8.pss_cut (ps_if (pt_not (pt_val (pc_c c_Lis_name hr (by decide) rfl pass0 (pa_cons (pv 1) pa_nil)))) (pss_one (ps_set (i := 1) sc_Lmended.nd rfl (Or.inl rfl) pe_str)) pss_nil)
      (C8.pss_cut (ps_if (PW.pt (pw_or (pt_cmpR op_lt (pv 2) pe_int (nomark _)) (pw_or1 (pt_cmpR op_gt (pv 2) pe_int (nomark _))))) (pss_one (ps_set (i := 2) sc_Lmended.nd rfl (Or.inl rfl) pe_int)) pss_nil)
      (C8.pss_cut (ps_if (PW.pt (pw_or (pt_cmpR op_lt (pv 3) pe_int (nomark _)) (pw_or1 (pt_cmpR op_gt (pv 3) (pv 2) (nomark _))))) (pss_one (ps_set (i := 3) sc_Lmended.nd rfl (Or.inl rfl) pe_int)) pss_nil)
      (pss_one (ps_ret (pe_tup (pa_cons (pv 1) (pa_cons (pv 2) (pa_cons (pv 3) pa_nil)))))))))))), ?_⟩
    refine ⟨_, rfl, a, _, _, _, rfl, rfl, ha, rfl, ?_⟩
    refine ⟨_, rfl, a, _, _, _, rfl, rfl, ha, rfl, ?_⟩
    refine ⟨_, rfl, a, _, _, _, rfl, rfl, ha, rfl, ?_⟩
    refine ⟨fun σ' H' => H' = H ∧ ∃ z : Str, σ' = [some (.ref a), some (.str z), some (.int s'), some (.int n)] ∧ nameOk z = true, ?_, ?_⟩
    · exact ⟨_, rfl, y, rfl, hl, _, rfl, iteB (fun hc => ⟨rfl, "van", rfl, van_ok⟩) (fun hc => ⟨rfl, y, rfl, by simpa using hc⟩)⟩
    rintro σ' H' ⟨rfl, z, rfl, hz⟩
    refine ⟨fun σ' H2 => H2 = H' ∧ ∃ t : Int, σ' = [some (.ref a), some (.str z), some (.int t), some (.int n)] ∧ 1 ≤ t ∧ t ≤ 4, ?_, ?_⟩
    · refine ⟨_, rfl, _, _, rfl, rfl, _, rfl, iteB (fun h1 => ⟨rfl, 4, rfl, by decide, by decide⟩) (fun h1 => ⟨_, rfl, _, _, rfl, rfl, _, rfl, iteB (fun h2 => ⟨rfl, 4, rfl, by decide, by decide⟩) (fun h2 => ?_)⟩)⟩
      have := of_decide_eq_false h1
      have := of_decide_eq_false h2
      exact ⟨rfl, s', rfl, by omega, by omega⟩
    rintro σ' H2 ⟨rfl, t, rfl, t1, t4⟩
    refine ⟨fun σ' H3 => H3 = H2 ∧ ∃ m : Int, σ' = [some (.ref a), some (.str z), some (.int t), some (.int m)] ∧ 1 ≤ m ∧ m ≤ t, ?_, ?_⟩
    · refine ⟨_, rfl, _, _, rfl, rfl, _, rfl, iteB (fun h1 => ⟨rfl, 1, rfl, by decide, t1⟩) (fun h1 => ⟨_, rfl, _, rfl, _, _, rfl, rfl, _, rfl, iteB (fun h2 => ⟨rfl, 1, rfl, by decide, t1⟩) (fun h2 => ?_)⟩)⟩
      have := of_decide_eq_false h1
      have := of_decide_eq_false h2
      exact ⟨rfl, n, rfl, by omega, by omega⟩
    rintro σ' H3 ⟨rfl, m, rfl, m1, mt⟩
    exact ⟨_, rfl, _, rfl, _, rfl, (by show 3 ≤ sizeLine; decide), fun w hw => q _ w z t m (same_upd hw) hw upd_same (wrongK_none hz t1 t4 m1 mt)⟩
theorem two_same {K : PySem.W.Frag} {H : Hp} {a b : Addr} {n : Nat} {u v : V} (ha : H a = some (.lst [u, .bl true])) (hb : H b = some (.lst [v, .bl true])) (e : u = v) (f : flatD u = true) : SameV K H (n + 1) (.ref a) (.ref b) := by
  subst e
  exact .inr (.inl ⟨a, b, _, _, rfl, rfl, SqL.of ha, SqL.of hb, (by show 2 ≤ sizeLine; decide), Pairs.refl fun x hx => by
    simp only [List.mem_cons, List.not_mem_nil, or_false] at hx
    rcases hx with rfl | rfl
    · exact SameV.flat f
    · exact SameV.flat rfl⟩)
theorem ky {y : Str} {s n : Int} : atI [V.str y, V.int s, V.int n] 0 = some (.str y) := rfl
theorem ks {y : Str} {s n : Int} : atI [V.str y, V.int s, V.int n] 1 = some (.int s) := rfl
theorem kn {y : Str} {s n : Int} : atI [V.str y, V.int s, V.int n] 2 = some (.int n) := rfl
theorem ok_Lasked {f : Addr} {fd : FuncData} (F : Fun K "_law_asked" "_law_asked" s_Lasked f fd) (T : Txt P w K mg C_BadKind C_CableError C_Kind) (c_Lwrong : Cal CX0 P w K mg base 2 "_law_wrong" (sp_Lwrong K)) (c_Kind : Mak (L2.CX P w) P w K mg base 2 "Kind" C_Kind (sp_Kind_init K C_Kind C_BadKind)) (c_Lsame : Cal CX0 P w K mg base 4 "_law_same" (sp_Lsame K 3)) (c_Kind_slack : Prp CX0 P w K mg base 1 C_Kind "slack" (sp_Kind_slack C_Kind)) (c_Kind_car : Met CX0 P w K mg base 1 C_Kind "car" (sp_Kind_car C_Kind)) (c_Kind_str : Met CX0 P w K mg base 1 C_Kind "__str__" (sp_Kind_str C_Kind)) :
    FnOk P w K mg base CX0 7 f fd ["_law_kind"] (sp_Lasked K) := by
  refine F.ok sc_Lasked (fun vs H Q E h => ?_) (fun cdv A outer s H vs Q E hr h => ?_)
  · obtain ⟨a, y, s, n, rfl, _⟩ := h
    rfl
  · obtain ⟨a, y, s', n, rfl, ha, hl, q⟩ := h
    refine ⟨_, (pss_cons (ps_set (i := 1) sc_Lasked.nd rfl (Or.inl rfl) (pc_c c_Lwrong hr (by decide) rfl pass0 (pa_cons (pv 0) pa_nil)))
      (pss_cons (ps_set (i := 2) sc_Lasked.nd rfl (Or.inl rfl) pe_non)
      (pss_cons (ps_set (i := 3) sc_Lasked.nd rfl (Or.inl rfl) pe_non)
      (pss_cons (ps_try_as (i := 4) (Wout := fun _ _ _ _ => False) rfl rfl sc_Lasked.nd rfl rfl ⟨rfl, by decide, .inl T.g_BadKind⟩ takes0 (fun W pn xe tk _ => (pss_one (ps_set (i := 2) sc_Lasked.nd rfl (Or.inl rfl) (pc_mkS c_Kind hr (by decide) rfl (fun σ => passAt tk σ) (pa_cons (pe_ix (show IxR _ (rIxT K) from ix_tup) (pv 0) pe_int (fun _ _ => rfl)) (pa_cons (pe_ix (show IxR _ (rIxT K) from ix_tup) (pv 0) pe_int (fun _ _ => rfl)) (pa_cons (pe_ix (show IxR _ (rIxT K) from ix_tup) (pv 0) pe_int (fun _ _ => rfl)) pa_nil)))))))
        (fun a oe cls d pn hz hf => (pss_one (ps_set (i := 3) sc_Lasked.nd rfl (Or.inl rfl) (pe_lst (pa_cons (pe_placeE_part_CFC_str T.err_BadKind hz hf (pv 4)) (pa_cons (pe_and (pe_callB (call_isErr T.e_BadKind hz hf) (by rfl) T.n_isinstance (by decide +kernel) (pa_cons (pv 4) (pa_cons (pe_glob (v := .ref C_CableError) rfl T.g_CableError rfl) pa_nil))) (pe_one (pe_callB (call_isErr T.e_BadKind hz hf) (by rfl) T.n_isinstance (by decide +kernel) (pa_cons (pv 4) (pa_cons (pe_bltn (v := .ty "ValueError") (by rfl) T.n_ValueError (by decide +kernel) rfl) pa_nil))))) pa_nil)))))))
      (pss_cons (ps_if (pt_cmpR op_notN (pv 1) pe_non (nomark _)) (pss_one (ps_ret (pe_and (pe_cmpR op_isN (pv 2) pe_non (nomark _)) (pe_one (pc_c c_Lsame hr (by decide) rfl pass0 (pa_cons (pv 3) (pa_cons (pe_lst (pa_cons (pv 1) (pa_cons pe_bl pa_nil))) pa_nil))))))) pss_nil)
      (pss_cons (ps_if (PW.pt (pw_or (pt_cmpR op_notN (pv 3) pe_non (nomark _)) (pw_or1 (pt_not (pt_val (pe_callB (C8.call_isC T.i_Kind) (by rfl) T.n_isinstance (by decide +kernel) (pa_cons (pv 2) (pa_cons (pe_glob (v := .ref C_Kind) rfl T.g_Kind rfl) pa_nil)))))))) (pss_one (ps_ret pe_bl)) pss_nil)
      (pss_cons (ps_if (pt_not (pt_val (pc_c c_Lsame hr (by decide) rfl pass0 (pa_cons (pe_lst (pa_cons (pe_fld (pv 2) rfl) (pa_cons (pe_fld (pv 2) rfl) (pa_cons (pe_fld (pv 2) rfl) pa_nil)))) (pa_cons (pe_lst (pa_cons (pe_ix ix_tup (pv 0) pe_int (fun _ _ => rfl)) (pa_cons (pe_ix ix_tup (pv 0) pe_int (fun _ _ => rfl)) (pa_cons (pe_ix ix_tup (pv 0) pe_int (fun _ _ => rfl)) pa_nil)))) pa_nil))))) (pss_one (ps_ret pe_bl)) pss_nil)
      (pss_cons (ps_if (pt_not (pt_val (pc_c c_Lsame hr (by decide) rfl pass0 (pa_cons (pe_lst (pa_cons (pc_prop c_Kind_slack hr (by decide) pass0 (pv 2) rfl) (pa_cons (pc_mt0 c_Kind_car hr (by decide) pass0 (pv 2)) pa_nil))) (pa_cons (pe_lst (pa_cons (pe_op op_sub (pe_ix ix_tup (pv 0) pe_int (fun _ _ => rfl)) (pe_ix ix_tup (pv 0) pe_int (fun _ _ => rfl))) (pa_cons (pe_tup (pa_cons (pe_ix ix_tup (pv 0) pe_int (fun _ _ => rfl)) (pa_cons (pe_ix ix_tup (pv 0) pe_int (fun _ _ => rfl)) (pa_cons (pe_ix ix_tup (pv 0) pe_int (fun _ _ => rfl)) (pa_cons (pe_ix ix_tup (pv 0) pe_int (fun _ _ => rfl)) pa_nil))))) pa_nil))) pa_nil))))) (pss_one (ps_ret pe_bl)) pss_nil)
      (pss_one (ps_ret (pc_c c_Lsame hr (by decide) rfl pass0 (pa_cons (pe_callTy (call_strO c_Kind_str hr (by decide) pass0) (by rfl) T.n_str (by decide +kernel) (pa_cons (pv 2) pa_nil)) (pa_cons (pe_op op_add_str (pe_op op_add_str (pe_op op_add_str (pe_op op_add_str (pe_op op_add_str pe_str (pe_ix ix_tup (pv 0) pe_int (fun _ _ => rfl))) pe_str) (pe_callTy call_str_int (by rfl) T.n_str (by decide +kernel) (pa_cons (pe_ix ix_tup (pv 0) pe_int (fun _ _ => rfl)) pa_nil))) pe_str) (pe_callTy call_str_int (by rfl) T.n_str (by decide +kernel) (pa_cons (pe_ix ix_tup (pv 0) pe_int (fun _ _ => rfl)) pa_nil))) pa_nil))))))))))))), ?_⟩
    refine ⟨_, rfl, a, y, s', n, rfl, ha, hl, ?_⟩
    refine ⟨_, rfl, a, _, _, _, rfl, rfl, ha, ky, _, rfl, a, _, _, _, rfl, rfl, ha, ks, _, rfl, a, _, _, _, rfl, rfl, ha, kn, fun x dx nx ndx ne => ?_⟩
    have s0 : Same H (upd (upd H dx (.own x)) x (.ins C_Kind dx [])) := mk_same nx ndx Kp.refl
    refine ⟨x, dx, y, s', n, rfl, upd_same, hl, ?_⟩
    cases hw : wrongK y s' n with
    | some p =>
      refine .inl ⟨p, rfl, fun H' d1 s1 hd1 => ⟨true, exm_self T.b_BadKind T.ic_BadKind T.t_BadKind T.s_BadKind, fun _ a0 ha0 => ?_, fun z => absurd z (by decide)⟩⟩
      refine ⟨_, rfl, rfl, rfl, d1, _, rfl, upd_same, ?_⟩
      refine ⟨_, rfl, rfl, ⟨d1, _, rfl, upd_same⟩, _, _, true, rfl, fun u ru => ru, T.kt_cable, true, rfl, iteT ?_⟩
      refine ⟨_, rfl, rfl, ⟨d1, _, rfl, upd_same⟩, _, _, true, rfl, fun u ru => ru, T.kt_value, ?_⟩
      refine ⟨(by show 2 ≤ sizeLine; decide), fun pl hpl => ?_⟩
      have s2 := ((s0.trans s1).trans (same_upd hd1)).trans (same_upd (o := .lst [.str p, .bl true]) hpl)
      refine ⟨_, rfl, rfl, _, rfl, iteNT (fun z => by cases z) ?_⟩
      refine ⟨_, rfl, rfl, _, rfl, iteDT rfl ?_⟩
      refine ⟨_, rfl, _, rfl, (by show 2 ≤ sizeLine; decide), fun z hz => ?_⟩
      have s3 := same_upd (o := .lst [.str p, .bl true]) hz
      exact ⟨_, _, rfl, two_same (s3 _ _ upd_same) upd_same rfl rfl, q _ (s2.trans s3)⟩
    | none =>
      refine .inr ⟨rfl, fun H1 k1 hr => ⟨rfl, ?_⟩⟩
      have s1 : Same H H1 := mk_same nx ndx k1
      obtain ⟨hn, w1, w2, w3, w4⟩ := wrongK_ok hw
      obtain ⟨dy, ex⟩ := id hr
      have tn := fun (Hx : Hp) (sx : Same H1 Hx) => sx _ _ ex
      refine ⟨_, rfl, rfl, _, rfl, iteNe rfl ?_⟩
      refine ⟨_, rfl, rfl, _, rfl, iteNe rfl ?_⟩
      refine ⟨_, rfl, x, dy, _, rfl, ex, true, rfl, iteF ?_⟩
      refine ⟨_, rfl, x, C_Kind, dy, _, _, rfl, ex, T.cl_Kind, T.nf_Kind_name, kif_name .., _, rfl, x, C_Kind, dy, _, _, rfl, ex, T.cl_Kind, T.nf_Kind_stay, kif_stay .., _, rfl, x, C_Kind, dy, _, _, rfl, ex, T.cl_Kind, T.nf_Kind_need, kif_need .., (by show 3 ≤ sizeLine; decide), fun l1 hl1 => ?_⟩
      have u1 := same_upd (o := .lst [.str y, .int s', .int n]) hl1
      have t1 := s1.trans u1
      refine ⟨_, rfl, a, _, _, _, rfl, rfl, sqt_same ha t1, ky, _, rfl, a, _, _, _, rfl, rfl, sqt_same ha t1, ks, _, rfl, a, _, _, _, rfl, rfl, sqt_same ha t1, kn, (by show 3 ≤ sizeLine; decide), fun l2 hl2 => ?_⟩
      have u2 := same_upd (o := .lst [.str y, .int s', .int n]) hl2
      have t2 := t1.trans u2
      refine ⟨_, _, rfl, .inr (.inl ⟨l1, l2, _, _, rfl, rfl, SqL.of (u2 _ _ upd_same), SqL.of upd_same, (by show 3 ≤ sizeLine; decide), Pairs.refl fun x hx => by
        simp only [List.mem_cons, List.not_mem_nil, or_false] at hx
        rcases hx with rfl | rfl | rfl <;> exact SameV.flat rfl⟩), true, rfl, iteF ?_⟩
      have e2 := (u1.trans u2) _ _ ex
      refine ⟨_, rfl, x, dy, _, rfl, e2, x, y, s', n, rfl, ⟨dy, e2⟩, _, rfl, x, dy, _, rfl, e2, kif_no _ _ _ (by decide +kernel) (by decide +kernel) (by decide +kernel), x, y, s', n, rfl, ⟨dy, e2⟩, fun H3 c s3 nc hc => ⟨(by show 2 ≤ sizeLine; decide), fun l3 hl3 => ?_⟩⟩
      have u3 := same_upd (o := .lst [.int (s' - n), .ref c]) hl3
      have t3 := (t2.trans s3).trans u3
      refine ⟨_, rfl, a, _, _, _, rfl, rfl, sqt_same ha t3, ks, _, rfl, a, _, _, _, rfl, rfl, sqt_same ha t3, kn, _, _, rfl, rfl, _, rfl, a, _, _, _, rfl, rfl, sqt_same ha t3, ks, _, rfl, a, _, _, _, rfl, rfl, sqt_same ha t3, kn, _, rfl, a, _, _, _, rfl, rfl, sqt_same ha t3, ks, _, rfl, a, _, _, _, rfl, rfl, sqt_same ha t3, kn, (by show 4 ≤ sizeLine; decide), fun c2 hc2 => ⟨(by show 2 ≤ sizeLine; decide), fun l4 hl4 => ?_⟩⟩
      have u4 := same_upd (o := .tup [.int s', .int n, .int s', .int n]) hc2
      have u5 := same_upd (o := .lst [.int (s' - n), .ref c2]) hl4
      have u45 := u4.trans u5
      have t5 := t3.trans u45
      refine ⟨_, _, rfl, .inr (.inl ⟨l3, l4, _, _, rfl, rfl, SqL.of (u45 _ _ upd_same), SqL.of upd_same, (by show 2 ≤ sizeLine; decide), ⟨rfl, fun i x y hx hy => by
        match i, hx, hy with
        | 0, hx, hy => cases hx; cases hy; exact SameV.flat rfl
        | 1, hx, hy =>
          cases hx; cases hy
          exact .inr (.inr ⟨c, c2, _, _, rfl, rfl, SqT.of (u45 _ _ (u3 _ _ hc)), SqT.of (u5 _ _ upd_same), (by show 4 ≤ sizeLine; decide), Pairs.refl fun x hx => by
            simp only [List.mem_cons, List.not_mem_nil, or_false] at hx
            rcases hx with rfl | rfl | rfl | rfl <;> exact SameV.flat rfl⟩)
        | i + 2, hx, hy => simp at hx⟩⟩), true, rfl, iteF ?_⟩
      have e5 := (((u1.trans u2).trans s3).trans (u3.trans u45)) _ _ ex
      obtain ⟨d1, d2⟩ := one_digit w1 w2
      obtain ⟨e1, e2⟩ := one_digit w3 (by omega)
      obtain ⟨l1, l2, l3, l4⟩ := litk
      have nl := name_len hn
      have big : ∀ n : Nat, n ≤ 100 → n ≤ sizeLine := fun n h => by rw [sizeLine_eq]; omega
      refine ⟨_, rfl, x, dy, _, rfl, e5, x, y, s', n, rfl, ⟨dy, e5⟩, hw, _, rfl, ?_⟩
      refine ⟨_, rfl, a, _, _, _, rfl, rfl, sqt_same ha t5, ky, _, _, rfl, rfl, big _ (by omega), _, _, rfl, rfl, big _ (by rw [alen]; omega), _, rfl, a, _, _, _, rfl, rfl, sqt_same ha t5, ks, _, rfl, d2, _, _, rfl, rfl, big _ (by rw [alen, alen]; omega), _, _, rfl, rfl, big _ (by rw [alen, alen, alen]; omega), _, rfl, a, _, _, _, rfl, rfl, sqt_same ha t5, kn, _, rfl, e2, _, _, rfl, rfl, big _ (by rw [alen, alen, alen, alen]; omega), ?_⟩
      exact ⟨_, _, rfl, SameV.flat rfl, q _ t5⟩
theorem ok_Lsecond {f : Addr} {fd : FuncData} (F : Fun K "_law_second" "_law_second" s_Lsecond f fd) (T : Txt P w K mg C_BadKind C_CableError C_Kind) (c_Lword : Cal CX0 P w K mg base 2 "_law_word" (sp_Lword K)) (c_Ltake : Cal CX0 P w K mg base 1 "_law_take" sp_Ltake) :
    FnOk P w K mg base CX0 3 f fd ["_law_pool_here", "_law_kind", "_law_relation"] (sp_Lsecond K) := by
  refine F.ok sc_Lsecond (fun vs H Q E h => ?_) (fun cdv A outer s H vs Q E hr h => ?_)
  · obtain ⟨p, a, r, y, s, n, rfl, _⟩ := h
    rfl
  · obtain ⟨p, a, r, y, s', n, rfl, hp, ha, hk, q⟩ := h
    refine ⟨_, (pss_cons (ps_set (i := 3) sc_Lsecond.nd rfl (Or.inl rfl) (pe_ix ix_tup (pv 1) pe_int (fun _ _ => rfl)))
      (pss_cons (ps_set (i := 4) sc_Lsecond.nd rfl (Or.inl rfl) (pe_ix ix_tup (pv 1) pe_int (fun _ _ => rfl)))
      (pss_cons (ps_set (i := 5) sc_Lsecond.nd rfl (Or.inl rfl) (pe_ix ix_tup (pv 1) pe_int (fun _ _ => rfl)))
      (C8.pss_cut (ps_if (PW.pt (pw_or (pt_cmpR op_eq (pv 2) pe_int (nomark _)) (pw_or1 (pt_cmpR op_eq (pv 2) pe_int (nomark _))))) (pss_one (ps_set (i := 3) sc_Lsecond.nd rfl (Or.inl rfl) (pc_c c_Lword hr (by decide) rfl pass0 (pa_cons (pv 0) (pa_cons (pe_op op_add pe_int (pc_c c_Ltake hr (by decide) rfl pass0 (pa_cons (pv 0) (pa_cons pe_int pa_nil)))) pa_nil))))) pss_nil)
      (C8.pss_cut (ps_if (pt_cmpR op_eq (pv 2) pe_int (nomark _)) (pss_one (ps_set (i := 4) sc_Lsecond.nd rfl (Or.inl rfl) (pe_op op_add (pv 5) (pc_c c_Ltake hr (by decide) rfl pass0 (pa_cons (pv 0) (pa_cons (pe_op op_sub pe_int (pv 5)) pa_nil)))))) (pss_one (ps_if (pt_cmpR op_eq (pv 2) pe_int (nomark _)) (pss_one (ps_set (i := 4) sc_Lsecond.nd rfl (Or.inl rfl) (pe_op op_add pe_int (pc_c c_Ltake hr (by decide) rfl pass0 (pa_cons (pv 0) (pa_cons pe_int pa_nil)))))) pss_nil)))
      (C8.pss_cut (ps_if (pt_cmpR op_gt (pv 2) pe_int (nomark _)) (pss_one (ps_set (i := 5) sc_Lsecond.nd rfl (Or.inl rfl) (pe_op op_add pe_int (pc_c c_Ltake hr (by decide) rfl pass0 (pa_cons (pv 0) (pa_cons (pv 4) pa_nil)))))) pss_nil)
      (pss_one (ps_ret (pe_tup (pa_cons (pv 3) (pa_cons (pv 4) (pa_cons (pv 5) pa_nil)))))))))))), ?_⟩
    obtain ⟨hn, w1, w2, w3, w4⟩ := wrongK_ok hk
    refine ⟨_, rfl, a, _, _, _, rfl, rfl, ha, ky, ?_⟩
    refine ⟨_, rfl, a, _, _, _, rfl, rfl, ha, ks, ?_⟩
    refine ⟨_, rfl, a, _, _, _, rfl, rfl, ha, kn, ?_⟩
    refine ⟨fun σ' H' => ∃ z : Str, σ' = [some (.ref p), some (.ref a), some (.int r), some (.str z), some (.int s'), some (.int n)] ∧ nameOk z = true ∧ Kp p H H' ∧ PoolAt H' p, ?_, ?_⟩
    · have dr : ∃ H' : Hp, True := ⟨H, trivial⟩
      refine ⟨_, rfl, rfl, _, rfl, iteB (fun h1 => ?dr) (fun h1 => ⟨_, rfl, rfl, _, rfl, iteB (fun h2 => ?dr2) (fun h2 => ⟨y, rfl, hn, Kp.refl, hp⟩)⟩)⟩
      all_goals
        refine ⟨_, rfl, _, rfl, p, 8, rfl, hp, by decide, by decide, fun H2 t k2 p2 t0 t1 => ⟨_, _, rfl, rfl, ?_⟩⟩
        refine ⟨p, (1 + t).toNat, by rw [Int.toNat_of_nonneg (by omega)]; rfl, p2, by omega, fun H3 z k3 p3 hz hall => ⟨z, rfl, ?_, k2.trans k3, p3⟩⟩
        unfold nameOk
        rw [hall, decide_eq_true (by omega)]
        rfl
    rintro σ' H1 ⟨z, rfl, hz, k1, p1⟩
    refine ⟨fun σ' H' => ∃ t : Int, σ' = [some (.ref p), some (.ref a), some (.int r), some (.str z), some (.int t), some (.int n)] ∧ 1 ≤ t ∧ t ≤ 4 ∧ (¬ r > 2 → n ≤ t) ∧ Kp p H H' ∧ PoolAt H' p, ?_, ?_⟩
    · refine ⟨_, rfl, rfl, _, rfl, iteB (fun h1 => ?_) (fun h1 => ⟨_, rfl, rfl, _, rfl, iteB (fun h2 => ?_) (fun h2 => ⟨s', rfl, w1, w2, fun _ => w4, k1, p1⟩)⟩)⟩
      · exact ⟨_, rfl, _, rfl, _, rfl, _, _, rfl, rfl, p, _, rfl, p1, by omega, by omega, fun H2 t k2 p2 t0 t1 => ⟨_, _, rfl, rfl, _, rfl, by omega, by omega, fun _ => by omega, k1.trans k2, p2⟩⟩
      · have r4 : r = 4 := V.int.inj (of_decide_eq_true h2)
        exact ⟨_, rfl, p, 4, rfl, p1, by decide, by decide, fun H2 t k2 p2 t0 t1 => ⟨_, _, rfl, rfl, _, rfl, by omega, by omega, fun _ => by omega, k1.trans k2, p2⟩⟩
    rintro σ' H2 ⟨t, rfl, t1, t4, tn, k2, p2⟩
    refine ⟨fun σ' H' => ∃ m : Int, σ' = [some (.ref p), some (.ref a), some (.int r), some (.str z), some (.int t), some (.int m)] ∧ 1 ≤ m ∧ m ≤ t ∧ Kp p H H' ∧ PoolAt H' p, ?_, ?_⟩
    · refine ⟨_, rfl, _, _, rfl, rfl, _, rfl, iteB (fun h1 => ?_) (fun h1 => ⟨n, rfl, w3, tn (of_decide_eq_false h1), k2, p2⟩)⟩
      exact ⟨_, rfl, _, rfl, p, _, rfl, p2, by omega, by omega, fun H3 m k3 p3 m0 m1 => ⟨_, _, rfl, rfl, _, rfl, by omega, by omega, k2.trans k3, p3⟩⟩
    rintro σ' H3 ⟨m, rfl, m1, mt, k3, p3⟩
    refine ⟨_, rfl, _, rfl, _, rfl, (by show 3 ≤ sizeLine; decide), fun w hw => ?_⟩
    exact q _ w z t m (fun b o nb e => same_upd hw _ _ (k3 _ _ nb e)) (none_kp k3 (pool_ne p3 hw) hw) upd_same (wrongK_none hz t1 t4 m1 mt)
def KR (K : PySem.W.Frag) (H : Hp) (x : V) : Prop := ∃ (a : Addr) (y : Str) (s n : Int), x = .ref a ∧ KT K H a y s n ∧ y.length ≤ 1000
theorem KR.same {K : PySem.W.Frag} {H H' : Hp} {x : V} (h : KR K H x) (e : Same H H') : KR K H' x := by
  obtain ⟨a, y, s, n, ex, hk, hl⟩ := h
  exact ⟨a, y, s, n, ex, sqt_same hk e, hl⟩
theorem KR.of {K : PySem.W.Frag} {H : Hp} {a : Addr} {y : Str} {s n : Int} (h : H a = some (.tup [.str y, .int s, .int n])) (hl : y.length ≤ 1000) : KR K H (.ref a) := ⟨a, y, s, n, rfl, SqT.of h, hl⟩
theorem own_eqK {C : Addr} {H : Hp} {Q : VK} {a b : Addr} {y z : Str} {s n t m : Int} (h : KindAt C H a y s n) (g : KindAt C H b z t m) (q : Q (.bl (decide (y = z ∧ s = t ∧ n = m))) H) : rOwn2 C (sp_Kind_eq C) E0 (.ref a) (.ref b) H Q := by
  obtain ⟨dx, e⟩ := id h
  obtain ⟨dy, e2⟩ := id g
  exact ⟨a, b, dx, dy, _, _, rfl, rfl, e, e2, a, b, y, z, s, n, t, m, rfl, h, g, q⟩
theorem ok_law {f : Addr} {fd : FuncData} (F : Fun K "law" "law" s_law f fd) (T : Txt P w K mg C_BadKind C_CableError C_Kind) (c_Lpool : Cal CX0 P w K mg base 1 "_law_pool" sp_Lpool) (c_Lcell : Cal CX0 P w K mg base 1 "_law_cell" (sp_Lcell K)) (c_Lname : Cal CX0 P w K mg base 3 "_law_name" sp_Lname) (c_Lnear : Cal CX0 P w K mg base 2 "_law_near" sp_Lnear) (c_Ltake : Cal CX0 P w K mg base 1 "_law_take" sp_Ltake) (c_Lmended : Cal CX0 P w K mg base 2 "_law_mended" (sp_Lmended K)) (c_Lasked : Cal CX0 P w K mg base 7 "_law_asked" (sp_Lasked K)) (c_Lsecond : Cal CX0 P w K mg base 3 "_law_second" (sp_Lsecond K)) (c_Kind : Mak (L2.CX P w) P w K mg base 2 "Kind" C_Kind (sp_Kind_init K C_Kind C_BadKind)) (c_Lsame : Cal CX0 P w K mg base 4 "_law_same" (sp_Lsame K 3)) (c_Kind_eq : Met CX0 P w K mg base 1 C_Kind "__eq__" (sp_Kind_eq C_Kind)) :
    FnOk P w K mg base CX0 8 f fd ["_law_script"] (sp_law K) := by
  refine F.ok sc_law (fun vs H Q E h => ?_) (fun cdv A outer s H vs Q E hr h => ?_)
  · obtain ⟨a, ns, rfl, _⟩ := h
    rfl
  · obtain ⟨a, ns, rfl, hS, hlen, q⟩ := h
    refine ⟨_, (pss_cons (ps_set (i := 1) sc_law.nd rfl (Or.inl rfl) (pc_c c_Lpool hr (by decide) rfl pass0 (pa_cons (pc_c c_Lcell hr (by decide) rfl pass0 (pa_cons (pv 0) (pa_cons pe_int pa_nil))) pa_nil)))
      (pss_cons (ps_set (i := 2) sc_law.nd rfl (Or.inl rfl) (pe_op op_mod (pe_callTy call_int1 (by rfl) T.n_int (by decide +kernel) (pa_cons (pc_c c_Lcell hr (by decide) rfl pass0 (pa_cons (pv 0) (pa_cons pe_int pa_nil))) pa_nil)) pe_int))
      (pss_cons (ps_set (i := 3) sc_law.nd rfl (Or.inl rfl) (pc_c c_Lname hr (by decide) rfl pass0 (pa_cons (pv 1) pa_nil)))
      (C8.pss_cut (ps_if (pt_cmpR op_eq (pv 2) pe_int (nomark _)) (pss_one (ps_set (i := 4) sc_law.nd rfl (Or.inl rfl) (pc_c c_Lnear hr (by decide) rfl pass0 (pa_cons (pv 1) pa_nil)))) (pss_one (ps_set (i := 4) sc_law.nd rfl (Or.inl rfl) (pe_op op_add pe_int (pc_c c_Ltake hr (by decide) rfl pass0 (pa_cons (pv 1) (pa_cons pe_int pa_nil)))))))
      (C8.pss_cut (ps_if (pt_cmpR op_eq (pv 2) pe_int (nomark _)) (pss_one (ps_set (i := 5) sc_law.nd rfl (Or.inl rfl) (pe_op op_add pe_int (pc_c c_Ltake hr (by decide) rfl pass0 (pa_cons (pv 1) (pa_cons (pv 4) pa_nil)))))) (pss_one (ps_set (i := 5) sc_law.nd rfl (Or.inl rfl) (pc_c c_Lnear hr (by decide) rfl pass0 (pa_cons (pv 1) pa_nil)))))
      (pss_cons (ps_set (i := 6) sc_law.nd rfl (Or.inl rfl) (pc_c c_Lmended hr (by decide) rfl pass0 (pa_cons (pe_tup (pa_cons (pv 3) (pa_cons (pv 4) (pa_cons (pv 5) pa_nil)))) pa_nil)))
      (pss_cons (ps_set (i := 7) sc_law.nd rfl (Or.inl rfl) (pe_lst (pa_cons (pe_tup (pa_cons (pv 3) (pa_cons (pv 4) (pa_cons (pv 5) pa_nil)))) (pa_cons (pv 6) (pa_cons (pe_tup (pa_cons (pe_ix ix_tup (pv 6) pe_int (fun _ _ => rfl)) (pa_cons (pe_ix ix_tup (pv 6) pe_int (fun _ _ => rfl)) (pa_cons (pe_op op_add (pe_ix ix_tup (pv 6) pe_int (fun _ _ => rfl)) pe_int) pa_nil)))) (pa_cons (pe_tup (pa_cons (pe_ix ix_tup (pv 6) pe_int (fun _ _ => rfl)) (pa_cons (pe_ix ix_tup (pv 6) pe_int (fun _ _ => rfl)) (pa_cons pe_int pa_nil)))) (pa_cons (pe_tup (pa_cons (pe_ix ix_tup (pv 6) pe_int (fun _ _ => rfl)) (pa_cons pe_int (pa_cons (pe_ix ix_tup (pv 6) pe_int (fun _ _ => rfl)) pa_nil)))) pa_nil)))))))
      (pss_cons (ps_set (i := 7) sc_law.nd rfl (Or.inl rfl) (pe_op op_cat (pv 7) (pe_lst (pa_cons (pe_tup (pa_cons (pe_ix ix_tup (pv 6) pe_int (fun _ _ => rfl)) (pa_cons pe_int (pa_cons pe_int pa_nil)))) (pa_cons (pe_tup (pa_cons pe_str (pa_cons pe_int (pa_cons pe_int pa_nil)))) (pa_cons (pe_tup (pa_cons (pe_op op_add_str (pe_ix ix_tup (pv 6) pe_int (fun _ _ => rfl)) pe_str) (pa_cons (pe_ix ix_tup (pv 6) pe_int (fun _ _ => rfl)) (pa_cons pe_int pa_nil)))) (pa_cons (pe_tup (pa_cons pe_str (pa_cons (pe_ix ix_tup (pv 6) pe_int (fun _ _ => rfl)) (pa_cons (pe_ix ix_tup (pv 6) pe_int (fun _ _ => rfl)) pa_nil)))) (pa_cons (pv 6) pa_nil))))))))
      (pss_cons (ps_for PassesOwn.never rfl (pi_list (pv 7)) (pg_name (i := 8) sc_law.nd rfl (Or.inl rfl))
        (pss_one (ps_if (pt_not (pt_val (pc_c c_Lasked hr (by decide) rfl pass0 (pa_cons (pv 8) pa_nil)))) (pss_one (ps_ret pe_bl)) pss_nil)))
      (pss_cons (ps_set (i := 9) sc_law.nd rfl (Or.inl rfl) (pc_c c_Lsecond hr (by decide) rfl pass0 (pa_cons (pc_c c_Lpool hr (by decide) rfl pass0 (pa_cons (pc_c c_Lcell hr (by decide) rfl pass0 (pa_cons (pv 0) (pa_cons pe_int pa_nil))) pa_nil)) (pa_cons (pv 6) (pa_cons (pe_op op_mod (pe_callTy call_int1 (by rfl) T.n_int (by decide +kernel) (pa_cons (pc_c c_Lcell hr (by decide) rfl pass0 (pa_cons (pv 0) (pa_cons pe_int pa_nil))) pa_nil)) pe_int) pa_nil)))))
      (pss_cons (ps_if (pt_not (pt_val (pc_c c_Lasked hr (by decide) rfl pass0 (pa_cons (pv 9) pa_nil)))) (pss_one (ps_ret pe_bl)) pss_nil)
      (pss_cons (ps_set (i := 10) sc_law.nd rfl (Or.inl rfl) (pc_mk c_Kind hr (by decide) rfl passL (pa_cons (pe_ix ix_tup (pv 6) pe_int (fun _ _ => rfl)) (pa_cons (pe_ix ix_tup (pv 6) pe_int (fun _ _ => rfl)) (pa_cons (pe_ix ix_tup (pv 6) pe_int (fun _ _ => rfl)) pa_nil)))))
      (pss_cons (ps_set (i := 11) sc_law.nd rfl (Or.inl rfl) (pc_mk c_Kind hr (by decide) rfl passL (pa_cons (pe_ix ix_tup (pv 9) pe_int (fun _ _ => rfl)) (pa_cons (pe_ix ix_tup (pv 9) pe_int (fun _ _ => rfl)) (pa_cons (pe_ix ix_tup (pv 9) pe_int (fun _ _ => rfl)) pa_nil)))))
      (pss_cons (ps_set (i := 12) sc_law.nd rfl (Or.inl rfl) (pc_mk c_Kind hr (by decide) rfl passL (pa_cons (pe_ix ix_tup (pv 6) pe_int (fun _ _ => rfl)) (pa_cons (pe_ix ix_tup (pv 6) pe_int (fun _ _ => rfl)) (pa_cons (pe_ix ix_tup (pv 6) pe_int (fun _ _ => rfl)) pa_nil)))))
      (pss_cons (ps_if (PW.pt (pw_or (pt_not (pt_val (pc_c c_Lsame hr (by decide) rfl pass0 (pa_cons (pe_cmpR (op_cmpO c_Kind_eq hr (by decide) pass0) (pv 10) (pv 11) (nomark _)) (pa_cons (pe_cmpR (op_eqK (Room.units hr)) (pv 6) (pv 9) (nomark _)) pa_nil))))) (pw_or1 (pt_not (pt_val (pc_c c_Lsame hr (by decide) rfl pass0 (pa_cons (pe_cmpR (op_cmpO c_Kind_eq hr (by decide) pass0) (pv 11) (pv 10) (nomark _)) (pa_cons (pe_cmpR (op_eqK (Room.units hr)) (pv 6) (pv 9) (nomark _)) pa_nil)))))))) (pss_one (ps_ret pe_bl)) pss_nil)
      (pss_one (ps_ret (pc_c c_Lsame hr (by decide) rfl pass0 (pa_cons (pe_cmpR (op_cmpO c_Kind_eq hr (by decide) pass0) (pv 10) (pv 12) (nomark _)) (pa_cons pe_bl pa_nil)))))))))))))))))))), ?_⟩
    refine ⟨_, rfl, a, ns, 0, rfl, hS, fun c0 _ => ⟨c0, rfl, fun p H1 np s1 hp => ?_⟩⟩
    refine ⟨_, rfl, a, ns, 1, rfl, s1.seq hS, fun c1 _ => .inl ⟨_, rfl, _, _, rfl, rfl, (by show (0 : Int) < 3; decide), ?_⟩⟩
    refine ⟨_, rfl, p, rfl, hp, fun H2 y k2 p2 hy => ?_⟩
    refine ⟨fun σ' H' => ∃ t : Int, σ' = [some (.ref a), some (.ref p), some (.int (c1 % 3)), some (.str y), some (.int t), none, none, none, none, none, none, none, none] ∧ (¬ c1 % 3 = 1 → 1 ≤ t ∧ t ≤ 4) ∧ Kp p H1 H' ∧ PoolAt H' p, ?_, ?_⟩
    · refine ⟨_, rfl, rfl, _, rfl, iteB (fun h1 => ?_) (fun h1 => ?_)⟩
      · have e1 : c1 % 3 = 1 := V.int.inj (of_decide_eq_true h1)
        exact ⟨_, rfl, p, rfl, p2, fun H3 t k3 p3 _ => ⟨t, rfl, fun n => absurd e1 n, k2.trans k3, p3⟩⟩
      · exact ⟨_, rfl, p, 4, rfl, p2, by decide, by decide, fun H3 t k3 p3 t0 t1 => ⟨_, _, rfl, rfl, _, rfl, fun _ => ⟨by omega, by omega⟩, k2.trans k3, p3⟩⟩
    rintro σ' H3 ⟨t, rfl, ht, k3, p3⟩
    refine ⟨fun σ' H' => ∃ m : Int, σ' = [some (.ref a), some (.ref p), some (.int (c1 % 3)), some (.str y), some (.int t), some (.int m), none, none, none, none, none, none, none] ∧ Kp p H1 H' ∧ PoolAt H' p, ?_, ?_⟩
    · refine ⟨_, rfl, rfl, _, rfl, iteB (fun h1 => ?_) (fun h1 => ?_)⟩
      · have e1 : c1 % 3 = 0 := V.int.inj (of_decide_eq_true h1)
        have tt := ht (by omega)
        exact ⟨_, rfl, _, rfl, p, _, rfl, p3, by omega, by omega, fun H4 m k4 p4 m0 m1 => ⟨_, _, rfl, rfl, _, rfl, k3.trans k4, p4⟩⟩
      · exact ⟨_, rfl, p, rfl, p3, fun H4 m k4 p4 _ => ⟨m, rfl, k3.trans k4, p4⟩⟩
    rintro σ' H4 ⟨m, rfl, k4, p4⟩
    have S4 : Same H H4 := Kp.same s1 k4 np
    refine ⟨_, rfl, _, rfl, _, rfl, (by show 3 ≤ sizeLine; decide), fun z0 hz0 => ?_⟩
    have v0 := same_upd (o := .tup [.str y, .int t, .int m]) hz0
    refine ⟨z0, y, t, m, rfl, SqT.of upd_same, by omega, fun H5 k ky1 ks1 kn1 s5 nk hk hw => ?_⟩
    have S5 := S4.trans (v0.trans s5)
    obtain ⟨hn, w1, w2, w3, w4⟩ := wrongK_ok hw
    have nl := name_len hn
    have T0 : Same H5 H5 := Same.of _
    refine ⟨_, rfl, _, rfl, _, rfl, (by show 3 ≤ sizeLine; decide), fun z1 hz1 => ?_⟩
    have v1 := same_upd (o := .tup [.str y, .int t, .int m]) hz1
    have T1 := T0.trans v1
    refine ⟨_, rfl, _, rfl, k, _, _, _, rfl, rfl, SqT.of (T1 _ _ hk), ky, _, rfl, k, _, _, _, rfl, rfl, SqT.of (T1 _ _ hk), ks, _, rfl, k, _, _, _, rfl, rfl, SqT.of (T1 _ _ hk), ks, _, _, rfl, rfl, (by show 3 ≤ sizeLine; decide), fun z2 hz2 => ?_⟩
    have v2 := same_upd (o := .tup [.str ky1, .int ks1, .int (ks1 + 1)]) hz2
    have T2 := T1.trans v2
    refine ⟨_, rfl, k, _, _, _, rfl, rfl, SqT.of (T2 _ _ hk), ky, _, rfl, k, _, _, _, rfl, rfl, SqT.of (T2 _ _ hk), ks, (by show 3 ≤ sizeLine; decide), fun z3 hz3 => ?_⟩
    have v3 := same_upd (o := .tup [.str ky1, .int ks1, .int 0]) hz3
    have T3 := T2.trans v3
    refine ⟨_, rfl, k, _, _, _, rfl, rfl, SqT.of (T3 _ _ hk), ky, _, rfl, k, _, _, _, rfl, rfl, SqT.of (T3 _ _ hk), kn, (by show 3 ≤ sizeLine; decide), fun z4 hz4 => ⟨(by show 5 ≤ sizeLine; decide), fun l1 hl1 => ?_⟩⟩
    have v4 := same_upd (o := .tup [.str ky1, .int 5, .int kn1]) hz4
    have T4 := T3.trans v4
    have vl := same_upd (o := .lst [.ref z1, .ref k, .ref z2, .ref z3, .ref z4]) hl1
    have T5 := T4.trans vl
    refine ⟨_, rfl, _, rfl, k, _, _, _, rfl, rfl, SqT.of (T5 _ _ hk), ky, (by show 3 ≤ sizeLine; decide), fun z5 hz5 => ⟨(by show 3 ≤ sizeLine; decide), fun z6 hz6 => ?_⟩⟩
    have v5 := same_upd (o := .tup [.str ky1, .int 0, .int 0]) hz5
    have v6 := same_upd (o := .tup [.str "", .int 0, .int 0]) hz6
    have T7 := (T5.trans v5).trans v6
    have eA : ("A" : Str).length = 1 := by decide +kernel
    refine ⟨_, rfl, k, _, _, _, rfl, rfl, SqT.of (T7 _ _ hk), ky, _, _, rfl, rfl, by rw [sizeLine_eq]; omega, _, rfl, k, _, _, _, rfl, rfl, SqT.of (T7 _ _ hk), ks, (by show 3 ≤ sizeLine; decide), fun z7 hz7 => ?_⟩
    have v7 := same_upd (o := .tup [.str (ky1 ++ "A"), .int ks1, .int 9]) hz7
    have T8 := T7.trans v7
    refine ⟨_, rfl, k, _, _, _, rfl, rfl, SqT.of (T8 _ _ hk), ks, _, rfl, k, _, _, _, rfl, rfl, SqT.of (T8 _ _ hk), kn, (by show 3 ≤ sizeLine; decide), fun z8 hz8 => ⟨_, rfl, (by show 5 ≤ sizeLine; decide), fun l2 hl2 => ?_⟩⟩
    have v8 := same_upd (o := .tup [.str "", .int ks1, .int kn1]) hz8
    have vm := same_upd (o := .lst [.ref z5, .ref z6, .ref z7, .ref z8, .ref k]) hl2
    have T9 := (T8.trans v8).trans vm
    refine ⟨l1, l2, _, _, rfl, rfl, (((((v5.trans v6).trans v7).trans v8).trans vm)) _ _ upd_same, upd_same, (by show 10 ≤ sizeLine; decide), fun l3 hl3 => ?_⟩
    have vn := same_upd (o := .lst [.ref z1, .ref k, .ref z2, .ref z3, .ref z4, .ref z5, .ref z6, .ref z7, .ref z8, .ref k]) hl3
    have TA := T9.trans vn
    have mn := vm
    have r8 : KR K _ (.ref z8) := KR.same (KR.of upd_same (by rw [empty_len]; omega)) (mn)
    have r7 : KR K _ (.ref z7) := KR.same (KR.of upd_same (by rw [alen, eA]; omega)) ((v8.trans mn))
    have r6 : KR K _ (.ref z6) := KR.same (KR.of upd_same (by rw [empty_len]; omega)) (((v7.trans v8).trans mn))
    have r5 : KR K _ (.ref z5) := KR.same (KR.of upd_same (by omega)) (((v6.trans (v7.trans v8)).trans mn))
    have x5 := (v5.trans (v6.trans (v7.trans v8))).trans mn
    have r4 : KR K _ (.ref z4) := KR.same (KR.of upd_same (by omega)) ((vl.trans x5))
    have r3 : KR K _ (.ref z3) := KR.same (KR.of upd_same (by omega)) ((v4.trans (vl.trans x5)))
    have r2 : KR K _ (.ref z2) := KR.same (KR.of upd_same (by omega)) ((v3.trans (v4.trans (vl.trans x5))))
    have r1 : KR K _ (.ref z1) := KR.same (KR.of upd_same (by omega)) ((v2.trans (v3.trans (v4.trans (vl.trans x5)))))
    have hkA := TA _ _ hk
    refine ⟨_, rfl, l3, rfl, ⟨_, SqL.of upd_same⟩, for_list (K := K) (a := l3) (xs := [V.ref z1, .ref k, .ref z2, .ref z3, .ref z4, .ref z5, .ref z6, .ref z7, .ref z8, .ref k]) (fun i σ H' => ∃ v8 : Option V, σ = [some (.ref a), some (.ref p), some (.int (c1 % 3)), some (.str y), some (.int t), some (.int m), some (.ref k), some (.ref l3), v8, none, none, none, none] ∧ Same H5 H' ∧ H' l3 = some (.lst [V.ref z1, .ref k, .ref z2, .ref z3, .ref z4, .ref z5, .ref z6, .ref z7, .ref z8, .ref k]) ∧ ∀ x ∈ [V.ref z1, .ref k, .ref z2, .ref z3, .ref z4, .ref z5, .ref z6, .ref z7, .ref z8, .ref k], KR K H' x)
      ⟨none, rfl, TA, upd_same, fun x hx => ?_⟩ (fun i σ H' _ ⟨_, _, _, h, _⟩ => SqL.of h) ?_ ?_⟩
    · simp only [List.mem_cons, List.not_mem_nil, or_false] at hx
      rcases hx with rfl | rfl | rfl | rfl | rfl | rfl | rfl | rfl | rfl | rfl
      · exact r1.same vn
      · exact KR.of hkA (by omega)
      · exact r2.same vn
      · exact r3.same vn
      · exact r4.same vn
      · exact r5.same vn
      · exact r6.same vn
      · exact r7.same vn
      · exact r8.same vn
      · exact KR.of hkA (by omega)
    · rintro i x σ H' hx ⟨v8, rfl, s, hl, all⟩
      obtain ⟨b, y1, s1', n1, rfl, hb, hl1⟩ := all x (List.mem_of_getElem? hx)
      exact ⟨_, rfl, b, y1, s1', n1, rfl, hb, hl1, fun H2 s2 => ⟨true, rfl, iteF ⟨_, rfl, s.trans s2, s2 _ _ hl, fun x hx => (all x hx).same s2⟩⟩⟩
    rintro σ HB ⟨v8, rfl, sB, _⟩
    have SB := S5.trans sB
    have hkB := sB _ _ hk
    refine ⟨_, rfl, a, ns, 2, rfl, SB.seq hS, fun c2 _ => ⟨c2, rfl, fun p' HC np' sC hp' => ?_⟩⟩
    refine ⟨_, rfl, _, rfl, a, ns, 3, rfl, (SB.trans sC).seq hS, fun c3 _ => .inl ⟨_, rfl, _, _, rfl, rfl, (by show (0 : Int) < 5; decide), ?_⟩⟩
    refine ⟨p', k, _, ky1, ks1, kn1, rfl, hp', SqT.of (sC _ _ hkB), hw, fun HD g z t' m' kD ng hg hw2 => ?_⟩
    have SD : Same HB HD := Kp.same sC kD np'
    obtain ⟨hn2, _, _, _, _⟩ := wrongK_ok hw2
    have nl2 := name_len hn2
    refine ⟨_, rfl, g, z, t', m', rfl, SqT.of hg, by omega, fun HE sE => ⟨true, rfl, iteF ?_⟩⟩
    have hkE := sE _ _ (SD _ _ hkB)
    have hgE := sE _ _ hg
    refine ⟨_, rfl, k, _, _, _, rfl, rfl, SqT.of hkE, ky, _, rfl, k, _, _, _, rfl, rfl, SqT.of hkE, ks, _, rfl, k, _, _, _, rfl, rfl, SqT.of hkE, kn, fun x1 d1 nx1 nd1 ne1 => ?_⟩
    refine ⟨x1, d1, _, _, _, rfl, upd_same, by omega, .inr ⟨hw, fun HF kF hx1 => ⟨rfl, ?_⟩⟩⟩
    have sF : Same HE HF := mk_same nx1 nd1 kF
    refine ⟨_, rfl, g, _, _, _, rfl, rfl, SqT.of (sF _ _ hgE), ky, _, rfl, g, _, _, _, rfl, rfl, SqT.of (sF _ _ hgE), ks, _, rfl, g, _, _, _, rfl, rfl, SqT.of (sF _ _ hgE), kn, fun x2 d2 nx2 nd2 ne2 => ?_⟩
    refine ⟨x2, d2, _, _, _, rfl, upd_same, by omega, .inr ⟨hw2, fun HG kG hx2 => ⟨rfl, ?_⟩⟩⟩
    have sG : Same HF HG := mk_same nx2 nd2 kG
    have hkG := sG _ _ (sF _ _ hkE)
    have hgG := sG _ _ (sF _ _ hgE)
    refine ⟨_, rfl, k, _, _, _, rfl, rfl, SqT.of hkG, ky, _, rfl, k, _, _, _, rfl, rfl, SqT.of hkG, ks, _, rfl, k, _, _, _, rfl, rfl, SqT.of hkG, kn, fun x3 d3 nx3 nd3 ne3 => ?_⟩
    refine ⟨x3, d3, _, _, _, rfl, upd_same, by omega, .inr ⟨hw, fun HI kI hx3 => ⟨rfl, ?_⟩⟩⟩
    have sI : Same HG HI := mk_same nx3 nd3 kI
    have y1 := hx1.same (sG.trans sI)
    have y2 := hx2.same sI
    have hkI := sI _ _ hkG
    have hgI := sI _ _ hgG
    have ec : decide (z = ky1 ∧ t' = ks1 ∧ m' = kn1) = decide (ky1 = z ∧ ks1 = t' ∧ kn1 = m') := by
      rw [decide_eq_decide]
      constructor
      · rintro ⟨rfl, rfl, rfl⟩; exact ⟨rfl, rfl, rfl⟩
      · rintro ⟨rfl, rfl, rfl⟩; exact ⟨rfl, rfl, rfl⟩
    refine ⟨_, rfl, _, rfl, own_eqK y1 y2 ⟨_, rfl, _, rfl, k, g, _, _, _, _, _, _, rfl, rfl, SqT.of hkI, SqT.of hgI, hn, hn2, _, _, rfl, SameV.flat rfl, true, rfl, iteF ?_⟩⟩
    refine ⟨_, rfl, _, rfl, own_eqK y2 y1 ⟨_, rfl, _, rfl, k, g, _, _, _, _, _, _, rfl, rfl, SqT.of hkI, SqT.of hgI, hn, hn2, _, _, rfl, by rw [ec]; exact SameV.flat rfl, true, rfl, iteF ?_⟩⟩
    refine ⟨_, rfl, _, rfl, own_eqK y1 hx3 ⟨_, _, rfl, by rw [decide_eq_true (show ky1 = ky1 ∧ ks1 = ks1 ∧ kn1 = kn1 from ⟨rfl, rfl, rfl⟩)]; exact SameV.flat rfl, q _⟩⟩
end
theorem all_mk {l : PySem.W.OpenLaw} {w : World} {K : PySem.W.Frag} {h : Heap} {mg : Str → Option Value} {fa C_BadKind C_CableError C_Kind : Addr} {nmBadKind qqBadKind msBadKind mtBadKind flBadKind : Str} {NBadKind fIBadKind caBadKind ccBadKind : Addr} {bsBadKind bmBadKind sbBadKind : List Value} {snBadKind : List Str} {abBadKind : Bool} {coBadKind : Option Bool} {daBadKind odBadKind anBadKind cdBadKind clBadKind : Option Addr} {k0BadKind k1BadKind k2BadKind k3BadKind k5BadKind : Option Value} {ocBadKind doBadKind pmBadKind ctBadKind cvBadKind ceBadKind : Value} {osBadKind csBadKind cxBadKind : Array (Option Value)} {vsBadKind : Array Value} {tfBadKind : Tok} {c1BadKind p1BadKind p2BadKind a1BadKind a2BadKind a3BadKind a4BadKind a5BadKind a6BadKind a7BadKind a8BadKind a9BadKind b1BadKind b2BadKind b3BadKind b4BadKind : Pos} {ti_MOST_LETTERS : Tok} {ti_MOST_STAY : Tok} {f_is_name : Addr} {od_is_name an_is_name : Option Addr} {sl_is_name : Array (Option Value)} {oc_is_name kV_is_name dc_is_name pm_is_name cd_is_name ct_is_name : Value} {f_Kind_init : Addr} {od_Kind_init an_Kind_init : Option Addr} {sl_Kind_init : Array (Option Value)} {oc_Kind_init kV_Kind_init dc_Kind_init pm_Kind_init cd_Kind_init ct_Kind_init : Value} {f_Kind_slack : Addr} {od_Kind_slack an_Kind_slack : Option Addr} {sl_Kind_slack : Array (Option Value)} {oc_Kind_slack kV_Kind_slack dc_Kind_slack pm_Kind_slack cd_Kind_slack ct_Kind_slack : Value} {p_Kind_slack : Addr} {rp_Kind_slack : List Value} {f_Kind_car : Addr} {od_Kind_car an_Kind_car : Option Addr} {sl_Kind_car : Array (Option Value)} {oc_Kind_car kV_Kind_car dc_Kind_car pm_Kind_car cd_Kind_car ct_Kind_car : Value} {f_Kind_str : Addr} {od_Kind_str an_Kind_str : Option Addr} {sl_Kind_str : Array (Option Value)} {oc_Kind_str kV_Kind_str dc_Kind_str pm_Kind_str cd_Kind_str ct_Kind_str : Value} {f_Kind_eq : Addr} {od_Kind_eq an_Kind_eq : Option Addr} {sl_Kind_eq : Array (Option Value)} {oc_Kind_eq kV_Kind_eq dc_Kind_eq pm_Kind_eq cd_Kind_eq ct_Kind_eq : Value} {f_Lcell : Addr} {od_Lcell an_Lcell : Option Addr} {sl_Lcell : Array (Option Value)} {oc_Lcell kV_Lcell dc_Lcell pm_Lcell cd_Lcell ct_Lcell : Value} {f_Lpool : Addr} {od_Lpool an_Lpool : Option Addr} {sl_Lpool : Array (Option Value)} {oc_Lpool kV_Lpool dc_Lpool pm_Lpool cd_Lpool ct_Lpool : Value} {f_Ltake : Addr} {od_Ltake an_Ltake : Option Addr} {sl_Ltake : Array (Option Value)} {oc_Ltake kV_Ltake dc_Ltake pm_Ltake cd_Ltake ct_Ltake : Value} {f_Lsame : Addr} {od_Lsame an_Lsame : Option Addr} {sl_Lsame : Array (Option Value)} {oc_Lsame kV_Lsame dc_Lsame pm_Lsame cd_Lsame ct_Lsame : Value} {f_Lsigns : Addr} {od_Lsigns an_Lsigns : Option Addr} {sl_Lsigns : Array (Option Value)} {oc_Lsigns kV_Lsigns dc_Lsigns pm_Lsigns cd_Lsigns ct_Lsigns : Value} {f_Lbent : Addr} {od_Lbent an_Lbent : Option Addr} {sl_Lbent : Array (Option Value)} {oc_Lbent kV_Lbent dc_Lbent pm_Lbent cd_Lbent ct_Lbent : Value} {f_Lword : Addr} {od_Lword an_Lword : Option Addr} {sl_Lword : Array (Option Value)} {oc_Lword kV_Lword dc_Lword pm_Lword cd_Lword ct_Lword : Value} {f_Lname : Addr} {od_Lname an_Lname : Option Addr} {sl_Lname : Array (Option Value)} {oc_Lname kV_Lname dc_Lname pm_Lname cd_Lname ct_Lname : Value} {f_Lnear : Addr} {od_Lnear an_Lnear : Option Addr} {sl_Lnear : Array (Option Value)} {oc_Lnear kV_Lnear dc_Lnear pm_Lnear cd_Lnear ct_Lnear : Value} {f_Lis_name : Addr} {od_Lis_name an_Lis_name : Option Addr} {sl_Lis_name : Array (Option Value)} {oc_Lis_name kV_Lis_name dc_Lis_name pm_Lis_name cd_Lis_name ct_Lis_name : Value} {f_Lwrong : Addr} {od_Lwrong an_Lwrong : Option Addr} {sl_Lwrong : Array (Option Value)} {oc_Lwrong kV_Lwrong dc_Lwrong pm_Lwrong cd_Lwrong ct_Lwrong : Value} {f_Lmended : Addr} {od_Lmended an_Lmended : Option Addr} {sl_Lmended : Array (Option Value)} {oc_Lmended kV_Lmended dc_Lmended pm_Lmended cd_Lmended ct_Lmended : Value} {f_Lasked : Addr} {od_Lasked an_Lasked : Option Addr} {sl_Lasked : Array (Option Value)} {oc_Lasked kV_Lasked dc_Lasked pm_Lasked cd_Lasked ct_Lasked : Value} {f_Lsecond : Addr} {od_Lsecond an_Lsecond : Option Addr} {sl_Lsecond : Array (Option Value)} {oc_Lsecond kV_Lsecond dc_Lsecond pm_Lsecond cd_Lsecond ct_Lsecond : Value} {f_law : Addr} {od_law an_law : Option Addr} {sl_law : Array (Option Value)} {oc_law kV_law dc_law pm_law cd_law ct_law : Value}
    (X : K.In h) (G : h.Ns mainGlobals mg) (hfa : mg "law" = some (.ref fa))
    (g_BadKind : PySem.W.nsIn K mainGlobals "BadKind" = some (some (.ref C_BadKind)))
    (xl_BadKind : K.lookup C_BadKind = some (excClassObj nmBadKind qqBadKind C_BadKind NBadKind bsBadKind bmBadKind true snBadKind sbBadKind abBadKind coBadKind daBadKind k0BadKind k1BadKind k2BadKind k3BadKind k5BadKind "ValueError.__new__"))
    (rf_BadKind : PySem.HandSPX.refsVE bmBadKind = true)
    (su_BadKind : PySem.W.ks_superIn K C_BadKind C_BadKind "__init__" = some (some (.builtin "ValueError.__init__")))
    (xa_BadKind : PySem.W.findIn K (.ref C_BadKind) "__setattr__" = some (some (.builtin "object.__setattr__")))
    (xg_BadKind : PySem.W.findIn K (.ref C_BadKind) "__getattribute__" = some (some (.builtin "BaseException.__getattribute__")))
    (xh_BadKind : PySem.W.findIn K (.ref C_BadKind) "__getattr__" = some none)
    (xp_BadKind : PySem.W.findIn K (.ref C_BadKind) "part" = some none)
    (xi_BadKind : PySem.W.findIn K (.ref C_BadKind) "__init__" = some (some (.ref fIBadKind)))
    (xf_BadKind : PySem.W.typeIn K (.ref fIBadKind) = some (.type "function"))
    (xk_BadKind : PySem.W.keepIn K (.ref C_BadKind) = true)
    (xb_BadKind : PySem.W.subIn K (.ref C_BadKind) (.type "BaseException") = some true)
    (xv_BadKind : PySem.W.subIn K (.ref C_BadKind) (.type "ValueError") = some true)
    (xm_BadKind : PySem.W.mroIn K C_BadKind (.ref C_BadKind) = some true)
    (xt_BadKind : PySem.W.typeIn K (.ref C_BadKind) = some (.type "type"))
    (xd_BadKind : PySem.W.hasDictIn K C_BadKind = true)
    (xo_BadKind : PySem.W.nsIn K PySem.cStatics "thirdparty.any" = some none)
    (xs_BadKind : PySem.W.nsIn K mainGlobals "super" = some none)
    (hx_BadKind : (l.prog.main.scope.names.lookup ("super" : Str)).isSome = false)
    (lf_BadKind : K.lookup fIBadKind = some ⟨ocBadKind, odBadKind, .func (PySem.W.ksFn "__init__" "BadKind.__init__" (PySem.ErrX_part_CFC_str.eA p1BadKind p2BadKind) (PySem.ErrX_part_CFC_str.eB msBadKind mtBadKind c1BadKind a1BadKind a2BadKind a3BadKind a4BadKind a5BadKind a6BadKind a7BadKind a8BadKind a9BadKind b1BadKind b2BadKind b3BadKind b4BadKind) PySem.ErrX_part_CFC_str.eS .none .none doBadKind pmBadKind anBadKind (.ref caBadKind) ctBadKind ccBadKind), osBadKind⟩)
    (lc_BadKind : PySem.W.codeIn K (.ref caBadKind) "BadKind.__init__" = true)
    (hl_BadKind : msBadKind.length ≤ 1000)
    (hl2_BadKind : mtBadKind.length ≤ 1000)
    (lo_BadKind : K.lookup caBadKind = some ⟨cvBadKind, cdBadKind, .fields vsBadKind, csBadKind⟩)
    (hv_BadKind : vsBadKind[2]? = some (.str flBadKind tfBadKind))
    (hf_BadKind : ((l.prog.main.file : Str) == flBadKind) = true)
    (le_BadKind : K.lookup ccBadKind = some ⟨ceBadKind, clBadKind, .cell (some (.ref C_BadKind)), cxBadKind⟩)
    (he_BadKind : ∃ pl : Env → Sem Bool, ∀ env : Env, eval (PySem.ErrX_part_CFC_str.eC msBadKind mtBadKind c1BadKind a1BadKind a2BadKind a3BadKind a4BadKind a5BadKind a6BadKind a7BadKind a8BadKind) env = (do let ov ← attributeBase (.Call (.Name "super" a1BadKind) [] [] a2BadKind) "__init__" env (eval (.Call (.Name "super" a1BadKind) [] [] a2BadKind) env); standAt a3BadKind.atName; let (f, first) ← holding [ov] (getMethod ov "__init__" (pl env)); callWith a8BadKind f first (backTo a8BadKind (starEach [.JoinedStr [.Constant (.str msBadKind) 0 a4BadKind, .FormattedValue (.Name "part" a5BadKind) (-1) none a6BadKind, .Constant (.str mtBadKind) 0 c1BadKind] a7BadKind] env)) []))
    (k_BadKind : PySem.W.keepIn K (.ref C_BadKind) = true)
    (b_BadKind : PySem.W.subIn K (.ref C_BadKind) (.type "BaseException") = some true)
    (t_BadKind : PySem.W.typeIn K (.ref C_BadKind) = some (.type "type"))
    (ic_BadKind : PySem.W.isClsIn K C_BadKind = true)
    (s_BadKind : PySem.W.subIn K (.ref C_BadKind) (.ref C_BadKind) = some true)
    (eg_BadKind : PySem.W.findIn K (.ref C_BadKind) "__getattribute__" = some (some (.builtin "BaseException.__getattribute__")))
    (ek_BadKind : PySem.W.findIn K (.ref C_BadKind) "__getattr__" = some none)
    (ed_BadKind : PySem.W.hasDictIn K C_BadKind = true)
    (ea_BadKind : PySem.W.findIn K (.ref C_BadKind) "__class__" = some (some (.builtin "object.__class__")))
    (en_BadKind : PySem.W.specialIn K (.builtin "object.__class__") "__get__" = some (some (.builtin "getset_descriptor.__get__")))
    (et_BadKind : PySem.W.takesIn K (.builtin "object.__class__") = some true)
    (em_BadKind : PySem.W.mroIn K C_BadKind (.type "object") = some true)
    (g_CableError : PySem.W.nsIn K mainGlobals "CableError" = some (some (.ref C_CableError)))
    (g_Kind : PySem.W.nsIn K mainGlobals "Kind" = some (some (.ref C_Kind)))
    (pg_Kind : PySem.W.plainGet K C_Kind Str.empty = true)
    (hd_Kind : PySem.W.hasDictIn K C_Kind = true)
    (po_Kind : PySem.W.plainOver K C_Kind = true)
    (sa_Kind : PySem.W.findIn K (.ref C_Kind) "__setattr__" = some (some (.builtin "object.__setattr__")))
    (nf_Kind_name : PySem.W.findIn K (.ref C_Kind) "name" = some none)
    (nf_Kind_stay : PySem.W.findIn K (.ref C_Kind) "stay" = some none)
    (nf_Kind_need : PySem.W.findIn K (.ref C_Kind) "need" = some none)
    (ha_Kind : PySem.W.findIn K (.ref C_Kind) "__class__" = some (some (.builtin "object.__class__")))
    (hn_Kind : PySem.W.specialIn K (.builtin "object.__class__") "__get__" = some (some (.builtin "getset_descriptor.__get__")))
    (ht_Kind : PySem.W.takesIn K (.builtin "object.__class__") = some true)
    (hm_Kind : PySem.W.mroIn K C_Kind (.type "object") = some true)
    (me_Kind : PySem.W.kitOne K (.ref C_Kind) (.ref C_Kind) = some true)
    (ci_MOST_LETTERS : PySem.W.nsIn K mainGlobals "MOST_LETTERS" = some (some (.int 8 ti_MOST_LETTERS)))
    (ci_MOST_STAY : PySem.W.nsIn K mainGlobals "MOST_STAY" = some (some (.int 4 ti_MOST_STAY)))
    (n_len : PySem.W.nsIn K mainGlobals "len" = some none)
    (n_isinstance : PySem.W.nsIn K mainGlobals "isinstance" = some none)
    (n_int : PySem.W.nsIn K mainGlobals "int" = some none)
    (n_abs : PySem.W.nsIn K mainGlobals "abs" = some none)
    (n_bool : PySem.W.nsIn K mainGlobals "bool" = some none)
    (n_str : PySem.W.nsIn K mainGlobals "str" = some none)
    (n_tuple : PySem.W.nsIn K mainGlobals "tuple" = some none)
    (n_list : PySem.W.nsIn K mainGlobals "list" = some none)
    (n_range : PySem.W.nsIn K mainGlobals "range" = some none)
    (n_ValueError : PySem.W.nsIn K mainGlobals "ValueError" = some none)
    (kt_cable : PySem.W.kitOne K (.ref C_BadKind) (.ref C_CableError) = some true)
    (kt_value : PySem.W.kitOne K (.ref C_BadKind) (.type "ValueError") = some true)
    (mk_Kind : PySem.W.makesIn K C_Kind = true)
    (mkk_Kind : PySem.W.keepIn K (.ref C_Kind) = true)
    (a_is_name : PySem.W.nsIn K mainGlobals "is_name" = some (some (.ref f_is_name)))
    (l_is_name : K.lookup f_is_name = some ⟨oc_is_name, od_is_name, .func (PySem.W.fnOf "is_name" "is_name" (defArgs s_is_name) (defBody s_is_name) (defScope s_is_name) .none kV_is_name dc_is_name pm_is_name an_is_name cd_is_name ct_is_name), sl_is_name⟩)
    (q_is_name : PySem.W.codeIn K cd_is_name "is_name" = true)
    (k_is_name : PySem.W.keepIn K (.ref f_is_name) = true)
    (a_Kind_init : PySem.W.findIn K (.ref C_Kind) "__init__" = some (some (.ref f_Kind_init)))
    (j_Kind_init : PySem.W.isFn K (.ref f_Kind_init) = true)
    (l_Kind_init : K.lookup f_Kind_init = some ⟨oc_Kind_init, od_Kind_init, .func (PySem.W.fnOf "__init__" "Kind.__init__" (defArgs s_Kind_init) (defBody s_Kind_init) (defScope s_Kind_init) .none kV_Kind_init dc_Kind_init pm_Kind_init an_Kind_init cd_Kind_init ct_Kind_init), sl_Kind_init⟩)
    (q_Kind_init : PySem.W.codeIn K cd_Kind_init "Kind.__init__" = true)
    (k_Kind_init : PySem.W.keepIn K (.ref f_Kind_init) = true)
    (pa_Kind_slack : PySem.W.findIn K (.ref C_Kind) "slack" = some (some (.ref p_Kind_slack)))
    (pgt_Kind_slack : PySem.W.specialIn K (.ref p_Kind_slack) "__get__" = some (some (.builtin "property.__get__")))
    (ptk_Kind_slack : PySem.W.takesIn K (.ref p_Kind_slack) = some true)
    (prc_Kind_slack : PySem.W.recIn K p_Kind_slack "property" = some (.ref f_Kind_slack :: rp_Kind_slack))
    (l_Kind_slack : K.lookup f_Kind_slack = some ⟨oc_Kind_slack, od_Kind_slack, .func (PySem.W.fnOf "slack" "Kind.slack" (defArgs s_Kind_slack) (defBody s_Kind_slack) (defScope s_Kind_slack) .none kV_Kind_slack dc_Kind_slack pm_Kind_slack an_Kind_slack cd_Kind_slack ct_Kind_slack), sl_Kind_slack⟩)
    (q_Kind_slack : PySem.W.codeIn K cd_Kind_slack "Kind.slack" = true)
    (k_Kind_slack : PySem.W.keepIn K (.ref f_Kind_slack) = true)
    (a_Kind_car : PySem.W.findIn K (.ref C_Kind) "car" = some (some (.ref f_Kind_car)))
    (j_Kind_car : PySem.W.isFn K (.ref f_Kind_car) = true)
    (l_Kind_car : K.lookup f_Kind_car = some ⟨oc_Kind_car, od_Kind_car, .func (PySem.W.fnOf "car" "Kind.car" (defArgs s_Kind_car) (defBody s_Kind_car) (defScope s_Kind_car) .none kV_Kind_car dc_Kind_car pm_Kind_car an_Kind_car cd_Kind_car ct_Kind_car), sl_Kind_car⟩)
    (q_Kind_car : PySem.W.codeIn K cd_Kind_car "Kind.car" = true)
    (k_Kind_car : PySem.W.keepIn K (.ref f_Kind_car) = true)
    (a_Kind_str : PySem.W.findIn K (.ref C_Kind) "__str__" = some (some (.ref f_Kind_str)))
    (j_Kind_str : PySem.W.isFn K (.ref f_Kind_str) = true)
    (l_Kind_str : K.lookup f_Kind_str = some ⟨oc_Kind_str, od_Kind_str, .func (PySem.W.fnOf "__str__" "Kind.__str__" (defArgs s_Kind_str) (defBody s_Kind_str) (defScope s_Kind_str) .none kV_Kind_str dc_Kind_str pm_Kind_str an_Kind_str cd_Kind_str ct_Kind_str), sl_Kind_str⟩)
    (q_Kind_str : PySem.W.codeIn K cd_Kind_str "Kind.__str__" = true)
    (k_Kind_str : PySem.W.keepIn K (.ref f_Kind_str) = true)
    (a_Kind_eq : PySem.W.findIn K (.ref C_Kind) "__eq__" = some (some (.ref f_Kind_eq)))
    (j_Kind_eq : PySem.W.isFn K (.ref f_Kind_eq) = true)
    (l_Kind_eq : K.lookup f_Kind_eq = some ⟨oc_Kind_eq, od_Kind_eq, .func (PySem.W.fnOf "__eq__" "Kind.__eq__" (defArgs s_Kind_eq) (defBody s_Kind_eq) (defScope s_Kind_eq) .none kV_Kind_eq dc_Kind_eq pm_Kind_eq an_Kind_eq cd_Kind_eq ct_Kind_eq), sl_Kind_eq⟩)
    (q_Kind_eq : PySem.W.codeIn K cd_Kind_eq "Kind.__eq__" = true)
    (k_Kind_eq : PySem.W.keepIn K (.ref f_Kind_eq) = true)
    (a_Lcell : PySem.W.nsIn K mainGlobals "_law_cell" = some (some (.ref f_Lcell)))
    (l_Lcell : K.lookup f_Lcell = some ⟨oc_Lcell, od_Lcell, .func (PySem.W.fnOf "_law_cell" "_law_cell" (defArgs s_Lcell) (defBody s_Lcell) (defScope s_Lcell) .none kV_Lcell dc_Lcell pm_Lcell an_Lcell cd_Lcell ct_Lcell), sl_Lcell⟩)
    (q_Lcell : PySem.W.codeIn K cd_Lcell "_law_cell" = true)
    (k_Lcell : PySem.W.keepIn K (.ref f_Lcell) = true)
    (a_Lpool : PySem.W.nsIn K mainGlobals "_law_pool" = some (some (.ref f_Lpool)))
    (l_Lpool : K.lookup f_Lpool = some ⟨oc_Lpool, od_Lpool, .func (PySem.W.fnOf "_law_pool" "_law_pool" (defArgs s_Lpool) (defBody s_Lpool) (defScope s_Lpool) .none kV_Lpool dc_Lpool pm_Lpool an_Lpool cd_Lpool ct_Lpool), sl_Lpool⟩)
    (q_Lpool : PySem.W.codeIn K cd_Lpool "_law_pool" = true)
    (k_Lpool : PySem.W.keepIn K (.ref f_Lpool) = true)
    (a_Ltake : PySem.W.nsIn K mainGlobals "_law_take" = some (some (.ref f_Ltake)))
    (l_Ltake : K.lookup f_Ltake = some ⟨oc_Ltake, od_Ltake, .func (PySem.W.fnOf "_law_take" "_law_take" (defArgs s_Ltake) (defBody s_Ltake) (defScope s_Ltake) .none kV_Ltake dc_Ltake pm_Ltake an_Ltake cd_Ltake ct_Ltake), sl_Ltake⟩)
    (q_Ltake : PySem.W.codeIn K cd_Ltake "_law_take" = true)
    (k_Ltake : PySem.W.keepIn K (.ref f_Ltake) = true)
    (a_Lsame : PySem.W.nsIn K mainGlobals "_law_same" = some (some (.ref f_Lsame)))
    (l_Lsame : K.lookup f_Lsame = some ⟨oc_Lsame, od_Lsame, .func (PySem.W.fnOf "_law_same" "_law_same" (defArgs s_Lsame) (defBody s_Lsame) (defScope s_Lsame) .none kV_Lsame dc_Lsame pm_Lsame an_Lsame cd_Lsame ct_Lsame), sl_Lsame⟩)
    (q_Lsame : PySem.W.codeIn K cd_Lsame "_law_same" = true)
    (k_Lsame : PySem.W.keepIn K (.ref f_Lsame) = true)
    (a_Lsigns : PySem.W.nsIn K mainGlobals "_law_signs" = some (some (.ref f_Lsigns)))
    (l_Lsigns : K.lookup f_Lsigns = some ⟨oc_Lsigns, od_Lsigns, .func (PySem.W.fnOf "_law_signs" "_law_signs" (defArgs s_Lsigns) (defBody s_Lsigns) (defScope s_Lsigns) .none kV_Lsigns dc_Lsigns pm_Lsigns an_Lsigns cd_Lsigns ct_Lsigns), sl_Lsigns⟩)
    (q_Lsigns : PySem.W.codeIn K cd_Lsigns "_law_signs" = true)
    (k_Lsigns : PySem.W.keepIn K (.ref f_Lsigns) = true)
    (a_Lbent : PySem.W.nsIn K mainGlobals "_law_bent" = some (some (.ref f_Lbent)))
    (l_Lbent : K.lookup f_Lbent = some ⟨oc_Lbent, od_Lbent, .func (PySem.W.fnOf "_law_bent" "_law_bent" (defArgs s_Lbent) (defBody s_Lbent) (defScope s_Lbent) .none kV_Lbent dc_Lbent pm_Lbent an_Lbent cd_Lbent ct_Lbent), sl_Lbent⟩)
    (q_Lbent : PySem.W.codeIn K cd_Lbent "_law_bent" = true)
    (k_Lbent : PySem.W.keepIn K (.ref f_Lbent) = true)
    (a_Lword : PySem.W.nsIn K mainGlobals "_law_word" = some (some (.ref f_Lword)))
    (l_Lword : K.lookup f_Lword = some ⟨oc_Lword, od_Lword, .func (PySem.W.fnOf "_law_word" "_law_word" (defArgs s_Lword) (defBody s_Lword) (defScope s_Lword) .none kV_Lword dc_Lword pm_Lword an_Lword cd_Lword ct_Lword), sl_Lword⟩)
    (q_Lword : PySem.W.codeIn K cd_Lword "_law_word" = true)
    (k_Lword : PySem.W.keepIn K (.ref f_Lword) = true)
    (a_Lname : PySem.W.nsIn K mainGlobals "_law_name" = some (some (.ref f_Lname)))
    (l_Lname : K.lookup f_Lname = some ⟨oc_Lname, od_Lname, .func (PySem.W.fnOf "_law_name" "_law_name" (defArgs s_Lname) (defBody s_Lname) (defScope s_Lname) .none kV_Lname dc_Lname pm_Lname an_Lname cd_Lname ct_Lname), sl_Lname⟩)
    (q_Lname : PySem.W.codeIn K cd_Lname "_law_name" = true)
    (k_Lname : PySem.W.keepIn K (.ref f_Lname) = true)
    (a_Lnear : PySem.W.nsIn K mainGlobals "_law_near" = some (some (.ref f_Lnear)))
    (l_Lnear : K.lookup f_Lnear = some ⟨oc_Lnear, od_Lnear, .func (PySem.W.fnOf "_law_near" "_law_near" (defArgs s_Lnear) (defBody s_Lnear) (defScope s_Lnear) .none kV_Lnear dc_Lnear pm_Lnear an_Lnear cd_Lnear ct_Lnear), sl_Lnear⟩)
    (q_Lnear : PySem.W.codeIn K cd_Lnear "_law_near" = true)
    (k_Lnear : PySem.W.keepIn K (.ref f_Lnear) = true)
    (a_Lis_name : PySem.W.nsIn K mainGlobals "_law_is_name" = some (some (.ref f_Lis_name)))
    (l_Lis_name : K.lookup f_Lis_name = some ⟨oc_Lis_name, od_Lis_name, .func (PySem.W.fnOf "_law_is_name" "_law_is_name" (defArgs s_Lis_name) (defBody s_Lis_name) (defScope s_Lis_name) .none kV_Lis_name dc_Lis_name pm_Lis_name an_Lis_name cd_Lis_name ct_Lis_name), sl_Lis_name⟩)
    (q_Lis_name : PySem.W.codeIn K cd_Lis_name "_law_is_name" = true)
    (k_Lis_name : PySem.W.keepIn K (.ref f_Lis_name) = true)
    (a_Lwrong : PySem.W.nsIn K mainGlobals "_law_wrong" = some (some (.ref f_Lwrong)))
    (l_Lwrong : K.lookup f_Lwrong = some ⟨oc_Lwrong, od_Lwrong, .func (PySem.W.fnOf "_law_wrong" "_law_wrong" (defArgs s_Lwrong) (defBody s_Lwrong) (defScope s_Lwrong) .none kV_Lwrong dc_Lwrong pm_Lwrong an_Lwrong cd_Lwrong ct_Lwrong), sl_Lwrong⟩)
    (q_Lwrong : PySem.W.codeIn K cd_Lwrong "_law_wrong" = true)
    (k_Lwrong : PySem.W.keepIn K (.ref f_Lwrong) = true)
    (a_Lmended : PySem.W.nsIn K mainGlobals "_law_mended" = some (some (.ref f_Lmended)))
    (l_Lmended : K.lookup f_Lmended = some ⟨oc_Lmended, od_Lmended, .func (PySem.W.fnOf "_law_mended" "_law_mended" (defArgs s_Lmended) (defBody s_Lmended) (defScope s_Lmended) .none kV_Lmended dc_Lmended pm_Lmended an_Lmended cd_Lmended ct_Lmended), sl_Lmended⟩)
    (q_Lmended : PySem.W.codeIn K cd_Lmended "_law_mended" = true)
    (k_Lmended : PySem.W.keepIn K (.ref f_Lmended) = true)
    (a_Lasked : PySem.W.nsIn K mainGlobals "_law_asked" = some (some (.ref f_Lasked)))
    (l_Lasked : K.lookup f_Lasked = some ⟨oc_Lasked, od_Lasked, .func (PySem.W.fnOf "_law_asked" "_law_asked" (defArgs s_Lasked) (defBody s_Lasked) (defScope s_Lasked) .none kV_Lasked dc_Lasked pm_Lasked an_Lasked cd_Lasked ct_Lasked), sl_Lasked⟩)
    (q_Lasked : PySem.W.codeIn K cd_Lasked "_law_asked" = true)
    (k_Lasked : PySem.W.keepIn K (.ref f_Lasked) = true)
    (a_Lsecond : PySem.W.nsIn K mainGlobals "_law_second" = some (some (.ref f_Lsecond)))
    (l_Lsecond : K.lookup f_Lsecond = some ⟨oc_Lsecond, od_Lsecond, .func (PySem.W.fnOf "_law_second" "_law_second" (defArgs s_Lsecond) (defBody s_Lsecond) (defScope s_Lsecond) .none kV_Lsecond dc_Lsecond pm_Lsecond an_Lsecond cd_Lsecond ct_Lsecond), sl_Lsecond⟩)
    (q_Lsecond : PySem.W.codeIn K cd_Lsecond "_law_second" = true)
    (k_Lsecond : PySem.W.keepIn K (.ref f_Lsecond) = true)
    (a_law : PySem.W.nsIn K mainGlobals "law" = some (some (.ref f_law)))
    (l_law : K.lookup f_law = some ⟨oc_law, od_law, .func (PySem.W.fnOf "law" "law" (defArgs s_law) (defBody s_law) (defScope s_law) .none kV_law dc_law pm_law an_law cd_law ct_law), sl_law⟩)
    (q_law : PySem.W.codeIn K cd_law "law" = true)
    (k_law : PySem.W.keepIn K (.ref f_law) = true) :
    ∃ fd : FuncData, (∀ (s : Shared) (v : Value), BindsTo s fd ⟨[v], []⟩ [("_law_script", v)]) ∧ ∀ base : Heap, K.In base → base.Ns mainGlobals mg → FnOk l.prog w K mg base CX0 8 fa fd ["_law_script"] (sp_law K) := by
  have e := hfa.symm.trans (PySem.W.mg_of X G a_law)
  cases e
  have T : Txt l.prog w K mg C_BadKind C_CableError C_Kind := ⟨PySem.W.mg_of X G g_BadKind, ⟨_, ⟨_, _, _, _, _, _, _, _, _, _, _, _, _, _, _, xl_BadKind, rf_BadKind⟩, su_BadKind, xa_BadKind, xg_BadKind, xh_BadKind, xp_BadKind, xi_BadKind, xf_BadKind, xk_BadKind, xb_BadKind, xv_BadKind, xm_BadKind, xt_BadKind, xd_BadKind, xo_BadKind, PySem.W.mg_none_of X G xs_BadKind, hx_BadKind, ⟨_, _, _, _, _, _, _, _, _, _, _, _, _, _, _, _, _, _, _, _, _, _, _, _, _, _, _, _, lf_BadKind, lc_BadKind, hl_BadKind, hl2_BadKind, ⟨_, _, _, _, _, _, lo_BadKind, hv_BadKind, hf_BadKind⟩, ⟨_, _, _, le_BadKind⟩, he_BadKind⟩⟩, k_BadKind, b_BadKind, t_BadKind, ic_BadKind, s_BadKind, ⟨eg_BadKind, ek_BadKind, b_BadKind, ed_BadKind, ea_BadKind, en_BadKind, et_BadKind, em_BadKind⟩, PySem.W.mg_of X G g_CableError, PySem.W.mg_of X G g_Kind, ⟨pg_Kind, hd_Kind, po_Kind, sa_Kind⟩, nf_Kind_name, nf_Kind_stay, nf_Kind_need, ⟨⟨pg_Kind, hd_Kind, po_Kind, sa_Kind⟩, ha_Kind, hn_Kind, ht_Kind, hm_Kind, me_Kind⟩, ⟨_, PySem.W.mg_of X G ci_MOST_LETTERS⟩, ⟨_, PySem.W.mg_of X G ci_MOST_STAY⟩, PySem.W.mg_none_of X G n_len, PySem.W.mg_none_of X G n_isinstance, PySem.W.mg_none_of X G n_int, PySem.W.mg_none_of X G n_abs, PySem.W.mg_none_of X G n_bool, PySem.W.mg_none_of X G n_str, PySem.W.mg_none_of X G n_tuple, PySem.W.mg_none_of X G n_list, PySem.W.mg_none_of X G n_range, PySem.W.mg_none_of X G n_ValueError, kt_cable, kt_value⟩
  have F_is_name := fun_mk (st := s_is_name) l_is_name q_is_name k_is_name
  have b_is_name := F_is_name.binds (ps := ["text"]) fun _ _ _ _ _ _ us hl => match us, hl with | [_], _ => rfl
  have F_Kind_init := fun_mk (st := s_Kind_init) l_Kind_init q_Kind_init k_Kind_init
  have b_Kind_init := F_Kind_init.binds (ps := ["self", "name", "stay", "need"]) fun _ _ _ _ _ _ us hl => match us, hl with | [_, _, _, _], _ => rfl
  have F_Kind_slack := fun_mk (st := s_Kind_slack) l_Kind_slack q_Kind_slack k_Kind_slack
  have b_Kind_slack := F_Kind_slack.binds (ps := ["self"]) fun _ _ _ _ _ _ us hl => match us, hl with | [_], _ => rfl
  have F_Kind_car := fun_mk (st := s_Kind_car) l_Kind_car q_Kind_car k_Kind_car
  have b_Kind_car := F_Kind_car.binds (ps := ["self"]) fun _ _ _ _ _ _ us hl => match us, hl with | [_], _ => rfl
  have F_Kind_str := fun_mk (st := s_Kind_str) l_Kind_str q_Kind_str k_Kind_str
  have b_Kind_str := F_Kind_str.binds (ps := ["self"]) fun _ _ _ _ _ _ us hl => match us, hl with | [_], _ => rfl
  have F_Kind_eq := fun_mk (st := s_Kind_eq) l_Kind_eq q_Kind_eq k_Kind_eq
  have b_Kind_eq := F_Kind_eq.binds (ps := ["self", "other"]) fun _ _ _ _ _ _ us hl => match us, hl with | [_, _], _ => rfl
  have F_Lcell := fun_mk (st := s_Lcell) l_Lcell q_Lcell k_Lcell
  have b_Lcell := F_Lcell.binds (ps := ["_law_script", "_law_at"]) fun _ _ _ _ _ _ us hl => match us, hl with | [_, _], _ => rfl
  have F_Lpool := fun_mk (st := s_Lpool) l_Lpool q_Lpool k_Lpool
  have b_Lpool := F_Lpool.binds (ps := ["_law_cell_here"]) fun _ _ _ _ _ _ us hl => match us, hl with | [_], _ => rfl
  have F_Ltake := fun_mk (st := s_Ltake) l_Ltake q_Ltake k_Ltake
  have b_Ltake := F_Ltake.binds (ps := ["_law_pool_here", "_law_many"]) fun _ _ _ _ _ _ us hl => match us, hl with | [_, _], _ => rfl
  have F_Lsame := fun_mk (st := s_Lsame) l_Lsame q_Lsame k_Lsame
  have b_Lsame := F_Lsame.binds (ps := ["_law_told", "_law_due"]) fun _ _ _ _ _ _ us hl => match us, hl with | [_, _], _ => rfl
  have F_Lsigns := fun_mk (st := s_Lsigns) l_Lsigns q_Lsigns k_Lsigns
  have b_Lsigns := F_Lsigns.binds (ps := []) fun _ _ _ _ _ _ us hl => match us, hl with | [], _ => rfl
  have F_Lbent := fun_mk (st := s_Lbent) l_Lbent q_Lbent k_Lbent
  have b_Lbent := F_Lbent.binds (ps := ["_law_pool_here", "_law_text", "_law_signs_here"]) fun _ _ _ _ _ _ us hl => match us, hl with | [_, _, _], _ => rfl
  have F_Lword := fun_mk (st := s_Lword) l_Lword q_Lword k_Lword
  have b_Lword := F_Lword.binds (ps := ["_law_pool_here", "_law_size"]) fun _ _ _ _ _ _ us hl => match us, hl with | [_, _], _ => rfl
  have F_Lname := fun_mk (st := s_Lname) l_Lname q_Lname k_Lname
  have b_Lname := F_Lname.binds (ps := ["_law_pool_here"]) fun _ _ _ _ _ _ us hl => match us, hl with | [_], _ => rfl
  have F_Lnear := fun_mk (st := s_Lnear) l_Lnear q_Lnear k_Lnear
  have b_Lnear := F_Lnear.binds (ps := ["_law_pool_here"]) fun _ _ _ _ _ _ us hl => match us, hl with | [_], _ => rfl
  have F_Lis_name := fun_mk (st := s_Lis_name) l_Lis_name q_Lis_name k_Lis_name
  have b_Lis_name := F_Lis_name.binds (ps := ["_law_name_here"]) fun _ _ _ _ _ _ us hl => match us, hl with | [_], _ => rfl
  have F_Lwrong := fun_mk (st := s_Lwrong) l_Lwrong q_Lwrong k_Lwrong
  have b_Lwrong := F_Lwrong.binds (ps := ["_law_kind"]) fun _ _ _ _ _ _ us hl => match us, hl with | [_], _ => rfl
  have F_Lmended := fun_mk (st := s_Lmended) l_Lmended q_Lmended k_Lmended
  have b_Lmended := F_Lmended.binds (ps := ["_law_kind"]) fun _ _ _ _ _ _ us hl => match us, hl with | [_], _ => rfl
  have F_Lasked := fun_mk (st := s_Lasked) l_Lasked q_Lasked k_Lasked
  have b_Lasked := F_Lasked.binds (ps := ["_law_kind"]) fun _ _ _ _ _ _ us hl => match us, hl with | [_], _ => rfl
  have F_Lsecond := fun_mk (st := s_Lsecond) l_Lsecond q_Lsecond k_Lsecond
  have b_Lsecond := F_Lsecond.binds (ps := ["_law_pool_here", "_law_kind", "_law_relation"]) fun _ _ _ _ _ _ us hl => match us, hl with | [_, _, _], _ => rfl
  refine ⟨PySem.W.fnOf "law" "law" (defArgs s_law) (defBody s_law) (defScope s_law) .none kV_law dc_law pm_law an_law cd_law ct_law, fun s v => .of_eq rfl, fun base _ _ => ?_⟩
  have c_is_name := cal_mk (ok_is_name (P := l.prog) (w := w) (base := base) F_is_name T ) (PySem.W.mg_of X G a_is_name) k_is_name b_is_name
  have c_Kind := mak_mk (ok_Kind_init (P := l.prog) (w := w) (base := base) F_Kind_init T c_is_name) (T.g_Kind) ⟨mk_Kind, a_Kind_init, j_Kind_init, mkk_Kind⟩ b_Kind_init
  have c_Kind_slack := prp_mk (ok_Kind_slack (P := l.prog) (w := w) (base := base) F_Kind_slack T ) T.cl_Kind ⟨pa_Kind_slack, pgt_Kind_slack, ptk_Kind_slack, ⟨_, prc_Kind_slack⟩⟩ b_Kind_slack
  have c_Kind_car := met_mk (ok_Kind_car (P := l.prog) (w := w) (base := base) F_Kind_car T ) T.cl_Kind ⟨a_Kind_car, j_Kind_car, k_Kind_car⟩ b_Kind_car (fn_in l_Kind_car)
  have c_Kind_str := met_mk (ok_Kind_str (P := l.prog) (w := w) (base := base) F_Kind_str T ) T.cl_Kind ⟨a_Kind_str, j_Kind_str, k_Kind_str⟩ b_Kind_str (fn_in l_Kind_str)
  have c_Kind_eq := met_mk (ok_Kind_eq (P := l.prog) (w := w) (base := base) F_Kind_eq T ) T.cl_Kind ⟨a_Kind_eq, j_Kind_eq, k_Kind_eq⟩ b_Kind_eq (fn_in l_Kind_eq)
  have c_Lcell := cal_mk (ok_Lcell (P := l.prog) (w := w) (base := base) F_Lcell T ) (PySem.W.mg_of X G a_Lcell) k_Lcell b_Lcell
  have c_Lpool := cal_mk (ok_Lpool (P := l.prog) (w := w) (base := base) F_Lpool T ) (PySem.W.mg_of X G a_Lpool) k_Lpool b_Lpool
  have c_Ltake := cal_mk (ok_Ltake (P := l.prog) (w := w) (base := base) F_Ltake T ) (PySem.W.mg_of X G a_Ltake) k_Ltake b_Ltake
  have c_Lsame := cal_mk (ok_Lsame (P := l.prog) (w := w) (base := base) F_Lsame T (PySem.W.mg_of X G a_Lsame) k_Lsame b_Lsame 3) (PySem.W.mg_of X G a_Lsame) k_Lsame b_Lsame
  have c_Lsigns := cal_mk (ok_Lsigns (P := l.prog) (w := w) (base := base) F_Lsigns T ) (PySem.W.mg_of X G a_Lsigns) k_Lsigns b_Lsigns
  have c_Lbent := cal_mk (ok_Lbent (P := l.prog) (w := w) (base := base) F_Lbent T c_Ltake) (PySem.W.mg_of X G a_Lbent) k_Lbent b_Lbent
  have c_Lword := cal_mk (ok_Lword (P := l.prog) (w := w) (base := base) F_Lword T c_Ltake) (PySem.W.mg_of X G a_Lword) k_Lword b_Lword
  have c_Lname := cal_mk (ok_Lname (P := l.prog) (w := w) (base := base) F_Lname T c_Ltake c_Lbent c_Lword c_Lsigns) (PySem.W.mg_of X G a_Lname) k_Lname b_Lname
  have c_Lnear := cal_mk (ok_Lnear (P := l.prog) (w := w) (base := base) F_Lnear T c_Ltake) (PySem.W.mg_of X G a_Lnear) k_Lnear b_Lnear
  have c_Lis_name := cal_mk (ok_Lis_name (P := l.prog) (w := w) (base := base) F_Lis_name T ) (PySem.W.mg_of X G a_Lis_name) k_Lis_name b_Lis_name
  have c_Lwrong := cal_mk (ok_Lwrong (P := l.prog) (w := w) (base := base) F_Lwrong T c_Lis_name) (PySem.W.mg_of X G a_Lwrong) k_Lwrong b_Lwrong
  have c_Lmended := cal_mk (ok_Lmended (P := l.prog) (w := w) (base := base) F_Lmended T c_Lis_name) (PySem.W.mg_of X G a_Lmended) k_Lmended b_Lmended
  have c_Lasked := cal_mk (ok_Lasked (P := l.prog) (w := w) (base := base) F_Lasked T c_Lwrong c_Kind c_Lsame c_Kind_slack c_Kind_car c_Kind_str) (PySem.W.mg_of X G a_Lasked) k_Lasked b_Lasked
  have c_Lsecond := cal_mk (ok_Lsecond (P := l.prog) (w := w) (base := base) F_Lsecond T c_Lword c_Ltake) (PySem.W.mg_of X G a_Lsecond) k_Lsecond b_Lsecond
  exact ok_law (fun_mk (st := s_law) l_law q_law k_law) T c_Lpool c_Lcell c_Lname c_Lnear c_Ltake c_Lmended c_Lasked c_Lsecond c_Kind c_Lsame c_Kind_eq

theorem walk {l : PySem.W.OpenLaw} {q : Program} {loose : List Str} {XP : (Str → Option Value) → Heap → Prop} {YP : World → Heap → Prop} {d : DefRec} {K : Params → PySem.W.Frag} (hn : l.most = some 63) (hdf : d.params.defaults = [])
    (hY : ∀ (w : World) (h : Heap), YP w h → (K w.params).In h)
    (F : ∀ (w : World) (mg : Str → Option Value) (fa : Addr) (h : Heap), (K w.params).In h → h.Ns mainGlobals mg → mg d.name = some (.ref fa) →
      ∃ fd : FuncData, (∀ (s : Shared) (u : Value), BindsTo s fd ⟨[u], []⟩ [("_law_script", u)]) ∧ ∀ base : Heap, (K w.params).In base → base.Ns mainGlobals mg → FnOk l.prog w (K w.params) mg base CX0 8 fa fd ["_law_script"] (sp_law (K w.params))) :
    PySem.W.WalkO q loose XP YP l.row.toRowW d [] (fun f vs => PySem.call f vs) :=
  L2.walk_of (n := 63) (k := 8) (x := "_law_script") (CX := fun _ => CX0) (sp := fun w => sp_law (K w.params)) hn (by decide) hdf ⟨rfl, by decide, by decide⟩ hY F (fun _ _ a ns hl _ hS => ⟨a, ns, rfl, hS, hl, fun _ => rfl⟩) fun _ _ _ _ _ z => z
end My

open PySem PySem.W PyProof.Rows in
set_option maxRecDepth 100000 in
set_option maxHeartbeats 0 in
theorem PySem.Challenge.cw_onecable_k15_kinds_holds : PySem.Challenge.rw_onecable_k15_kinds.Holds := by
  w_on; o_law; k_head; (case hw => w_witness2)
  k_fill
  refine My.walk (l := PySem.Challenge.rw_onecable_k15_kinds) rfl rfl (fun w h Y => PySem.W.kIn_of Y) ?F
  case F =>
    intro w mg fa h KX G hmg
    refine' My.all_mk KX G hmg ?g_BadKind ?xl_BadKind ?rf_BadKind ?su_BadKind ?xa_BadKind ?xg_BadKind ?xh_BadKind ?xp_BadKind ?xi_BadKind ?xf_BadKind ?xk_BadKind ?xb_BadKind ?xv_BadKind ?xm_BadKind ?xt_BadKind ?xd_BadKind ?xo_BadKind ?xs_BadKind ?hx_BadKind ?lf_BadKind ?lc_BadKind ?hl_BadKind ?hl2_BadKind ?lo_BadKind ?hv_BadKind ?hf_BadKind ?le_BadKind ?he_BadKind ?k_BadKind ?b_BadKind ?t_BadKind ?ic_BadKind ?s_BadKind ?eg_BadKind ?ek_BadKind ?ed_BadKind ?ea_BadKind ?en_BadKind ?et_BadKind ?em_BadKind ?g_CableError ?g_Kind ?pg_Kind ?hd_Kind ?po_Kind ?sa_Kind ?nf_Kind_name ?nf_Kind_stay ?nf_Kind_need ?ha_Kind ?hn_Kind ?ht_Kind ?hm_Kind ?me_Kind ?ci_MOST_LETTERS ?ci_MOST_STAY ?n_len ?n_isinstance ?n_int ?n_abs ?n_bool ?n_str ?n_tuple ?n_list ?n_range ?n_ValueError ?kt_cable ?kt_value ?mk_Kind ?mkk_Kind ?a_is_name ?l_is_name ?q_is_name ?k_is_name ?a_Kind_init ?j_Kind_init ?l_Kind_init ?q_Kind_init ?k_Kind_init ?pa_Kind_slack ?pgt_Kind_slack ?ptk_Kind_slack ?prc_Kind_slack ?l_Kind_slack ?q_Kind_slack ?k_Kind_slack ?a_Kind_car ?j_Kind_car ?l_Kind_car ?q_Kind_car ?k_Kind_car ?a_Kind_str ?j_Kind_str ?l_Kind_str ?q_Kind_str ?k_Kind_str ?a_Kind_eq ?j_Kind_eq ?l_Kind_eq ?q_Kind_eq ?k_Kind_eq ?a_Lcell ?l_Lcell ?q_Lcell ?k_Lcell ?a_Lpool ?l_Lpool ?q_Lpool ?k_Lpool ?a_Ltake ?l_Ltake ?q_Ltake ?k_Ltake ?a_Lsame ?l_Lsame ?q_Lsame ?k_Lsame ?a_Lsigns ?l_Lsigns ?q_Lsigns ?k_Lsigns ?a_Lbent ?l_Lbent ?q_Lbent ?k_Lbent ?a_Lword ?l_Lword ?q_Lword ?k_Lword ?a_Lname ?l_Lname ?q_Lname ?k_Lname ?a_Lnear ?l_Lnear ?q_Lnear ?k_Lnear ?a_Lis_name ?l_Lis_name ?q_Lis_name ?k_Lis_name ?a_Lwrong ?l_Lwrong ?q_Lwrong ?k_Lwrong ?a_Lmended ?l_Lmended ?q_Lmended ?k_Lmended ?a_Lasked ?l_Lasked ?q_Lasked ?k_Lasked ?a_Lsecond ?l_Lsecond ?q_Lsecond ?k_Lsecond ?a_law ?l_law ?q_law ?k_law
    (case g_BadKind => k_is)
    (case xl_BadKind => k_is)
    (case rf_BadKind => first | rfl | decide | kernel_rfl | decide +kernel)
    (case su_BadKind => ks_is)
    (case xa_BadKind => k_is)
    (case xg_BadKind => k_is)
    (case xh_BadKind => k_is)
    (case xp_BadKind => k_is)
    (case xi_BadKind => k_is)
    (case xf_BadKind => k_is)
    (case xk_BadKind => k_is)
    (case xb_BadKind => k_is)
    (case xv_BadKind => k_is)
    (case xm_BadKind => k_is)
    (case xt_BadKind => k_is)
    (case xd_BadKind => k_is)
    (case xo_BadKind => k_is)
    (case xs_BadKind => k_is)
    (case hx_BadKind => first | rfl | decide | kernel_rfl | decide +kernel)
    (case lf_BadKind => k_is)
    (case lc_BadKind => k_is)
    (case hl_BadKind => first | rfl | decide | kernel_rfl | decide +kernel)
    (case hl2_BadKind => first | rfl | decide | kernel_rfl | decide +kernel)
    (case lo_BadKind => k_is)
    (case hv_BadKind => first | rfl | decide | kernel_rfl | decide +kernel)
    (case hf_BadKind => first | rfl | decide | kernel_rfl | decide +kernel)
    (case le_BadKind => k_is)
    (case he_BadKind => exact ⟨_, fun env => rfl⟩)
    (case k_BadKind => k_is)
    (case b_BadKind => k_is)
    (case t_BadKind => k_is)
    (case ic_BadKind => k_is)
    (case s_BadKind => first | rfl | decide | k_is)
    (case eg_BadKind => k_is)
    (case ek_BadKind => k_is)
    (case ed_BadKind => k_is)
    (case ea_BadKind => k_is)
    (case en_BadKind => k_is)
    (case et_BadKind => k_is)
    (case em_BadKind => k_is)
    (case g_CableError => k_is)
    (case g_Kind => k_is)
    (case pg_Kind => k_is)
    (case hd_Kind => k_is)
    (case po_Kind => k_is)
    (case sa_Kind => k_is)
    (case nf_Kind_name => k_is)
    (case nf_Kind_stay => k_is)
    (case nf_Kind_need => k_is)
    (case ha_Kind => k_is)
    (case hn_Kind => k_is)
    (case ht_Kind => k_is)
    (case hm_Kind => k_is)
    (case me_Kind => kit_is)
    (case ci_MOST_LETTERS => k_is)
    (case ci_MOST_STAY => k_is)
    (case n_len => k_is)
    (case n_isinstance => k_is)
    (case n_int => k_is)
    (case n_abs => k_is)
    (case n_bool => k_is)
    (case n_str => k_is)
    (case n_tuple => k_is)
    (case n_list => k_is)
    (case n_range => k_is)
    (case n_ValueError => k_is)
    (case kt_cable => kit_is)
    (case kt_value => kit_is)
    (case mk_Kind => k_is)
    (case mkk_Kind => k_is)
    (case a_is_name => k_is)
    (case l_is_name => k_is)
    (case q_is_name => k_is)
    (case k_is_name => k_is)
    (case a_Kind_init => k_is)
    (case j_Kind_init => k_is)
    (case l_Kind_init => k_is)
    (case q_Kind_init => k_is)
    (case k_Kind_init => k_is)
    (case pa_Kind_slack => k_is)
    (case pgt_Kind_slack => k_is)
    (case ptk_Kind_slack => k_is)
    (case prc_Kind_slack => k_is)
    (case l_Kind_slack => k_is)
    (case q_Kind_slack => k_is)
    (case k_Kind_slack => k_is)
    (case a_Kind_car => k_is)
    (case j_Kind_car => k_is)
    (case l_Kind_car => k_is)
    (case q_Kind_car => k_is)
    (case k_Kind_car => k_is)
    (case a_Kind_str => k_is)
    (case j_Kind_str => k_is)
    (case l_Kind_str => k_is)
    (case q_Kind_str => k_is)
    (case k_Kind_str => k_is)
    (case a_Kind_eq => k_is)
    (case j_Kind_eq => k_is)
    (case l_Kind_eq => k_is)
    (case q_Kind_eq => k_is)
    (case k_Kind_eq => k_is)
    (case a_Lcell => k_is)
    (case l_Lcell => k_is)
    (case q_Lcell => k_is)
    (case k_Lcell => k_is)
    (case a_Lpool => k_is)
    (case l_Lpool => k_is)
    (case q_Lpool => k_is)
    (case k_Lpool => k_is)
    (case a_Ltake => k_is)
    (case l_Ltake => k_is)
    (case q_Ltake => k_is)
    (case k_Ltake => k_is)
    (case a_Lsame => k_is)
    (case l_Lsame => k_is)
    (case q_Lsame => k_is)
    (case k_Lsame => k_is)
    (case a_Lsigns => k_is)
    (case l_Lsigns => k_is)
    (case q_Lsigns => k_is)
    (case k_Lsigns => k_is)
    (case a_Lbent => k_is)
    (case l_Lbent => k_is)
    (case q_Lbent => k_is)
    (case k_Lbent => k_is)
    (case a_Lword => k_is)
    (case l_Lword => k_is)
    (case q_Lword => k_is)
    (case k_Lword => k_is)
    (case a_Lname => k_is)
    (case l_Lname => k_is)
    (case q_Lname => k_is)
    (case k_Lname => k_is)
    (case a_Lnear => k_is)
    (case l_Lnear => k_is)
    (case q_Lnear => k_is)
    (case k_Lnear => k_is)
    (case a_Lis_name => k_is)
    (case l_Lis_name => k_is)
    (case q_Lis_name => k_is)
    (case k_Lis_name => k_is)
    (case a_Lwrong => k_is)
    (case l_Lwrong => k_is)
    (case q_Lwrong => k_is)
    (case k_Lwrong => k_is)
    (case a_Lmended => k_is)
    (case l_Lmended => k_is)
    (case q_Lmended => k_is)
    (case k_Lmended => k_is)
    (case a_Lasked => k_is)
    (case l_Lasked => k_is)
    (case q_Lasked => k_is)
    (case k_Lasked => k_is)
    (case a_Lsecond => k_is)
    (case l_Lsecond => k_is)
    (case q_Lsecond => k_is)
    (case k_Lsecond => k_is)
    (case a_law => k_is)
    (case l_law => k_is)
    (case q_law => k_is)
    (case k_law => k_is)

