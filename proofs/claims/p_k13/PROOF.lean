import PyProof.Rows.All
import Wide.All
import OpenK.AllK
import Wide.FinOn
import HandS.ForExc
import HandS.ForMost
import HandS.Exc
import HandS.TryOnly
import HandS.ExcOwn
import HandS.WordsExc
import HandS.Wide
import HandS.Codes
import HandS.IsInst
import HandS.ExcIs
import HandS.More
import HandS.Star
import KE.RegKIsAll
import HandS.OwnEq
import KE.GoesEnum
import HandS.ExcSuper
import KE.KExcSuper
import HandS.FStr
import HandS.ExcField
import KE.RegKSuper
import HandS.Zip
import HandS.Style
import HandS.NamedTupSort
import HandS.Set
import KE.KCallOwn
import HandS.Text
import HandS.OwnIter
import HandS.ClsMeth
import PySem.Challenge.RW_onecable_k13_rule_text_there_and_back
set_option Elab.async false
set_option maxRecDepth 100000
set_option maxHeartbeats 4000000
set_option linter.all false
/-! ### an own error over others over ValueError whose __init__ says super().__init__(f"..{place}") and self.place = place -/
namespace PySem
namespace ErrX
open PySem.W PySem.Calls PyProof.Rows PySem.HandSPX
def eA (p1 p2 : Pos) : Arguments := { posonlyargs := [], args := [{ arg := "self", annotation := none, pos := p1 }, { arg := "place", annotation := none, pos := p2 }], vararg := none, kwonlyargs := [], kw_defaults := [], kwarg := none, defaults := [] }
def eC (msg : Str) (a1 a2 a3 a4 a5 a6 a7 a8 : Pos) : Expr := .Call (.Attribute (.Call (.Name "super" a1) [] [] a2) "__init__" a3) [.JoinedStr [.Constant (.str msg) 0 a4, .FormattedValue (.Name "place" a5) (-1) none a6] a7] [] a8
def eB (msg : Str) (a1 a2 a3 a4 a5 a6 a7 a8 a9 b1 b2 b3 b4 : Pos) : List Stmt := [.Expr (eC msg a1 a2 a3 a4 a5 a6 a7 a8) a9,
  .Assign [.Attribute (.Name "self" b1) "place" b2] (.Name "place" b3) b4]
def eS : Scope := { kind := .function, names := [(PySem.Str.ofString "self", .local), (PySem.Str.ofString "place", .local), (PySem.Str.ofString "__class__", .free), (PySem.Str.ofString "super", .globalImplicit)], isGenerator := false, isCoroutine := false, more := [] }
/-- what the written part says of the class at C and of its __init__ at fI -/
structure ErrTxt (P : Program) (K : Frag) (mg : Str → Option Value) (C fI : Addr) : Prop where
  cls : ∃ nm q N bs bm sn sub ab col dd k0 k1 k2 k3 k5, K.lookup C = some (excClassObj nm q C N bs bm true sn sub ab col dd k0 k1 k2 k3 k5 "ValueError.__new__") ∧ refsVE bm = true
  su : ks_superIn K C C "__init__" = some (some (.builtin "ValueError.__init__"))
  sa : findIn K (.ref C) "__setattr__" = some (some (.builtin "object.__setattr__"))
  ga : findIn K (.ref C) "__getattribute__" = some (some (.builtin "BaseException.__getattribute__"))
  gg : findIn K (.ref C) "__getattr__" = some none
  noN : findIn K (.ref C) "place" = some none
  iC : findIn K (.ref C) "__init__" = some (some (.ref fI))
  tC : typeIn K (.ref fI) = some (.type "function")
  kC : keepIn K (.ref C) = true
  exC : subIn K (.ref C) (.type "BaseException") = some true
  veC : subIn K (.ref C) (.type "ValueError") = some true
  slC : mroIn K C (.ref C) = some true
  tyC : typeIn K (.ref C) = some (.type "type")
  hdC : hasDictIn K C = true
  opq : nsIn K cStatics "thirdparty.any" = some none
  sup : mg "super" = none
  top : (P.main.scope.names.lookup ("super" : Str)).isSome = false
  fn : ∃ (qn msg : Str) (oc : Value) (od : Option Addr) (doc pm : Value) (an : Option Addr) (cda : Addr) (ct : Value) (osl : Array (Option Value)) (cc : Addr) (p1 p2 a1 a2 a3 a4 a5 a6 a7 a8 a9 b1 b2 b3 b4 : Pos),
    K.lookup fI = some ⟨oc, od, .func (ksFn "__init__" qn (eA p1 p2) (eB msg a1 a2 a3 a4 a5 a6 a7 a8 a9 b1 b2 b3 b4) eS .none .none doc pm an (.ref cda) ct cc), osl⟩ ∧ codeIn K (.ref cda) qn = true ∧ msg.length ≤ 1000 ∧
    (∃ ccl cdd vs ccs file tf, K.lookup cda = some ⟨ccl, cdd, .fields vs, ccs⟩ ∧ vs[2]? = some (.str file tf) ∧ ((P.main.file : Str) == file) = true) ∧ (∃ cl cld csl, K.lookup cc = some ⟨cl, cld, .cell (some (.ref C)), csl⟩) ∧
    ∃ pl : Env → Sem Bool, ∀ env : Env, eval (eC msg a1 a2 a3 a4 a5 a6 a7 a8) env = (do
      let ov ← attributeBase (.Call (.Name "super" a1) [] [] a2) "__init__" env (eval (.Call (.Name "super" a1) [] [] a2) env)
      standAt a3.atName
      let (f, first) ← holding [ov] (getMethod ov "__init__" (pl env))
      callWith a8 f first (backTo a8 (starEach [.JoinedStr [.Constant (.str msg) 0 a4, .FormattedValue (.Name "place" a5) (-1) none a6] a7] env)) [])
section
variable {prog : Program} {w : World} {M : Model} {A : Around} {E : Value → Shared → Prop} {h : Heap} {g : Array GenState} {d : Drawn} {t : Nat} {os : OsState} {K : Frag} {mg : Str → Option Value}
theorem call_mw {nm q : Str} {C N : Addr} {bs bm : List Value} {hdct : Bool} {sn : List Str} {sub : List Value} {ab : Bool} {col : Option Bool} {dd : Option Addr} {k0 k1 k2 k3 k5 : Option Value} {u e t0 : Addr} {rest : List Value} {Q : Value → Shared → Prop}
    (hC : h.get? C = some (excClassObj nm q C N bs bm hdct sn sub ab col dd k0 k1 k2 k3 k5 "ValueError.__new__")) (he : h.get? e = some (excO C t0)) (hu : h.get? u = some (kxs_mw "ValueError.__init__" e)) (hrest : rest.length ≤ sizeLine)
    (hq : ∀ h' t1, (∀ b o, b ≠ e → h.get? b = some o → h'.get? b = some o) → h'.get? e = some (excO C t1) → Q .none ⟨h', g, d, t, os⟩) :
    wpAny (model prog w) A (call (.ref u) rest) Q E ⟨h, g, d, t, os⟩ := by
  refine wpAny_call (codeAny_of_tree ?_)
  show wpAny _ A.in1 (callAny (.ref u) ⟨rest, []⟩) _ _ _
  simp only [callAny]
  refine wpAny_bind (wpAny_load hu ?_)
  simp only [kxs_mw, show (Value.type "method-wrapper" == Value.type "method" || Value.type "method-wrapper" == Value.type "builtin_function_or_method" || Value.type "method-wrapper" == Value.type "method-wrapper") = true by decide, if_true]
  refine KFB.if_so (by decide) ?_
  refine wpAny_bind (check_bound_init F.excBase_ValueError.toExcCallFacts hC he rfl ?_)
  refine wpAny_bind (wpAny_pure (wpAny_pure ?_))
  refine ⟨plainId_quiet F.excBase_ValueError.init.plain _, codeAny_builtin F.excBase_ValueError.initEntry ?_⟩
  exact exc_init_tree (cls := .ref C) (t0 := t0) (dv := none) (c2 := .none) (c3 := .none) (b4 := .bool false) he hrest fun h' k e' _ => hq h' _ k e'
theorem ldX {env : Env} {s : Shared} {m : Str → Option Value} {x : Str} {pos : Pos} {v : Value} {Q : Value → Shared → Prop} (hn : s.heap.Ns env.locals m) (hv : m x = some v) (h : Q v s)
    (hk : env.scope.kind = .function := by rfl) (hl : env.kindOf x = some .local := by rfl) (hd : (x == ("__debug__" : Str)) = false := by decide) :
    wpAny M A (eval (.Name x pos) env) Q E s := wpAny_Name (wpAny_loadName_local hk hl hn hv h) hd
/-- super() in a method of the class at D, its first parameter x of the class at C -/
theorem sup_node {body : List Stmt} {q : Str} {scope : Scope} {p0 p1 : Pos} {attr : Str} {whole : Sem Value} {fd : FuncData} {ar : Arg} {vs : Array Value} {file : Str} {tf : Tok} {oc ccl cl : Value} {od cdd cld : Option Addr} {osl ccs csl : Array (Option Value)} {cdD : ClassData} {Q : Value → Shared → Prop}
    {s : Shared} {L f cda cc x C D : Addr} {ox : Obj} {odx : Option Obj} {m mb : Str → Option Value}
    (X : K.In s.heap) (hns : s.heap.Ns L m) (hg : s.heap.Ns mainGlobals mg) (hb : s.heap.Ns builtinsNs mb) (hmb : mb "super" = some (.type "super"))
    (hf : K.lookup f = some ⟨oc, od, .func fd, osl⟩) (hp : (fd.params.posonlyargs ++ fd.params.args).head? = some ar) (hv : m ar.arg = some (.ref x)) (I : InstAt s.heap x ox C odx)
    (hcode : K.lookup cda = some ⟨ccl, cdd, .fields vs, ccs⟩) (hvs : vs[2]? = some (.str file tf)) (hfile : ((prog.main.file : Str) == file) = true)
    (hcell : K.lookup cc = some ⟨cl, cld, .cell (some (.ref D)), csl⟩) (hD : clsIn K D = some cdD) (hsub : mroIn K C (.ref D) = some true) (hsuper : mg "super" = none)
    (hat : (attr == ("__class__" : Str)) = false) (hks : scope.names.lookup ("super" : Str) = some .globalImplicit) (hkc : scope.names.lookup ("__class__" : Str) = some .free) (hka : scope.names.lookup ar.arg = some .local) (hk : scope.kind = .function)
    (htop : (prog.main.scope.names.lookup ("super" : Str)).isSome = false)
    (hq : ∀ so h', h'.get? so = some (ks_superObj D x C) → s.heap.objs.size ≤ so → (∀ b o, s.heap.get? b = some o → h'.get? b = some o) → Q (.ref so) { s with heap := h' }) :
    _root_.PySem.wpAt (model prog w) A (.func body (ksEnv q scope L f (.ref cda) cc)) (attributeBase (.Call (.Name "super" p0) [] [] p1) attr (ksEnv q scope L f (.ref cda) cc) whole) Q E s := by
  obtain ⟨hh, g, d, t, os⟩ := s
  obtain ⟨oD, hD1, hD2⟩ : ∃ oD, hh.get? D = some oD ∧ oD.data = .cls cdD := by
    unfold clsIn at hD
    split at hD
    · rename_i c d cd' sl ho
      cases hD
      exact ⟨_, X _ _ ho, rfl⟩
    · cases hD
  refine ks_wpAt_super_base (env := ksEnv q scope L f (.ref cda) cc) hks hkc hat rfl (X _ _ hf) rfl hp rfl (X _ _ hcode) rfl hvs hfile htop ?_
  refine ks_loadName_global hk hks (loadGlobal_builtin (env := ksEnv q scope L f (.ref cda) cc) hg hsuper hb hmb ⟨rfl, ?_⟩)
  refine wpAny_loadName_free hk hkc rfl ⟨_, X _ _ hcell, rfl⟩ ?_
  refine wpAny_loadName_local hk hka hns hv ?_
  refine ks_wpAny_isType_cls hD1 hD2 ⟨rfl, ?_⟩
  refine ks_wpAny_call_super hD1 hD2 I.at_ I.cls (fun c e => ?_) (looks_mroIn X hsub) (fun h' e k => ?_)
  · have := I.no
    unfold notCls at this
    rw [e] at this
    exact Bool.noConfusion this
  · exact hq _ _ e (Nat.le_refl _) k
end
end ErrX
end PySem
namespace PySem
namespace ErrX
open PySem.W PySem.Calls PyProof.Rows PySem.HandSPX
theorem text_len {msg : Str} {i : Int} (hm : msg.length ≤ 1000) (hi : i.natAbs.log2 < 1920) : (Str.empty ++ msg ++ (Str.ofString (toString i))).length ≤ sizeLine := by
  have e := int_text_length_le (k := 1920) (by decide) hi
  rw [strLen_append, strLen_append, ofString_length, sizeLine_eq]
  have : Str.empty.length = 0 := rfl
  omega
/-- what __init__ leaves of a fresh exception at x -/
structure InitEnd (h h' : Heap) (x C dx t1 : Addr) (v : Value) : Prop where
  keep : ∀ b o, b ≠ x → h.get? b = some o → h'.get? b = some o
  obj : h'.get? x = some { cls := .ref C, dict := some dx, data := .fields #[.ref t1, .none, .none, .none, .bool false, .none] }
  dbig : h.objs.size ≤ dx
  dne : dx ≠ x
  ns : h'.Ns1 dx (fun y => if y = "place" then some v else none)
/-- a made error -/
structure OwnMade (h h' : Heap) (e C d : Addr) (v : Value) : Prop where
  keep : ∀ b o, h.get? b = some o → h'.get? b = some o
  new : h.objs.size ≤ e
  obj : ∃ oe vs, h'.get? e = some oe ∧ oe.cls = .ref C ∧ oe.dict = some d ∧ oe.data = .fields vs ∧ vs[1]? = some .none
  dbig : h.objs.size ≤ d
  dne : d ≠ e
  ns : h'.Ns1 d (fun y => if y = "place" then some v else none)
section
variable {prog : Program} {w : World} {A : Around} {E : Value → Shared → Prop} {R : Result → Shared → Prop} {s : Shared} {K : Frag} {mg mb : Str → Option Value} {C fI : Addr}
theorem cw1 {M : Model} {pos : Pos} {env : Env} {e : Expr} {rest : List Expr} {Q : Value → Shared → Prop} {u x : Addr} {i : String}
    (h : wpAny M A (spliced (backTo pos (starEach (e :: rest) env))) (fun vs s₁ => KxsAt i u x s₁.heap ∧ wpAny M A (call (.ref u) vs) Q E s₁) E s)
    (he : starEach (e :: rest) env = (false, eval e env) :: starEach rest env := by rfl) (hplain : (backTo pos (starEach rest env)).any (·.1) = false := by rfl) :
    wpAny M A (callWith pos (.ref u) [] (backTo pos (starEach (e :: rest) env)) []) Q E s := by
  rw [he] at h ⊢
  refine kxs_callWith (i := i) (x := x) (by show (false || (backTo pos (starEach rest env)).any (·.1)) = false; rw [hplain]; rfl) ?_
  exact evalArgs_plain h
theorem err_init (T : ErrTxt prog K mg C fI) {x t0 : Addr} {i : Int} {tv : Tok} (hi : i.natAbs.log2 < 1920) (X : K.In s.heap) (hlim : s.heap.NoLimit) (hg : s.heap.Ns mainGlobals mg) (hb : s.heap.Ns builtinsNs mb) (hmb : mb "super" = some (.type "super")) (hx : s.heap.get? x = some (excO C t0)) (kx : K.lookup x = none) (hroom : A.depth < recursionLimit)
    (hq : ∀ h' tk dx t1, InitEnd s.heap h' x C dx t1 (.int i tv) → R (.ok (.ret .none)) { s with heap := h', toks := tk }) :
    codeAny (model prog w) A (.call (.ref fI) ⟨[.ref x, .int i tv], []⟩) R s := by
  obtain ⟨qn, msg, oc, od, doc, pm, an, cda, ct, osl, cc, p1, p2, a1, a2, a3, a4, a5, a6, a7, a8, a9, b1, b2, b3, b4, ho, hcd, hml, ⟨ccl, cdd, vs, ccs, file, tf, hcode, hvs, hfile⟩, ⟨cl, cld, csl, hcell⟩, pl, hev⟩ := T.fn
  obtain ⟨nm, q, N, bs, bm, sn, sub, ab, col, dd, k0, k1, k2, k3, k5, hC, hbm⟩ := T.cls
  obtain ⟨hp, g, dr, tk, os⟩ := s
  have hcl : clsIn K C = some { name := nm, bases := bs, mro := .ref C :: bm, ns := N, qualname := q, hasDict := true, slotNames := sn, subclasses := sub, abstract := ab, collection := col, hasDel := false } := by unfold clsIn; rw [hC] <;> rfl
  have hal : alongIn K "__init__" bm = some (some (.builtin "ValueError.__init__")) := by
    have z := T.su
    unfold ks_superIn at z
    rw [hcl] at z
    have z' : alongIn K "__init__" (((Value.ref C :: bm).dropWhile (· != .ref C)).drop 1) = some (some (.builtin "ValueError.__init__")) := z
    rw [ESX.drop_own] at z'
    exact z'
  refine ks_codeAny_call_defAt (fd := ksFn "__init__" qn (eA p1 p2) (eB msg a1 a2 a3 a4 a5 a6 a7 a8 a9 b1 b2 b3 b4) eS .none .none doc pm an (.ref cda) ct cc) (binds := [("self", .ref x), ("place", .int i tv)]) hroom (X _ _ ho) rfl hlim (codeRec_of X hcd) rfl
    (BindsTo.of_eq (by first | rfl | with_unfolding_all rfl)) (show ∀ x ∈ eS.names, x.2 ≠ .cell by decide) (locs rfl) (fun h₁ hns hk₁ => ?_)
  have hxL : hp.objs.size ≠ x := Nat.ne_of_gt (Heap.lt_size hx)
  have X₁ : K.In h₁ := X.keeps hk₁
  have hx₁ := hk₁ _ _ hx
  have hg₁ := hg.keeps hk₁
  have hb₁ := hb.keeps hk₁
  have hlk : K.lookup C = _ := hC
  refine ks_wpAt_execs_cons (ks_wpAt_Expr_any (ks_wpAt_MethodCall (pl := pl _) ?_ (hev _)))
  refine sup_node (D := C) (s := ⟨h₁, g, dr, tk + 2, os⟩) (m := fun x_1 => ([("self", .ref x), ("place", .int i tv)] : List (Str × Value)).reverse.lookup x_1) X₁ hns hg₁ hb₁ hmb ho rfl (by first | rfl | with_unfolding_all rfl | kernel_rfl) (⟨hx₁, rfl, rfl, trivial⟩ : InstAt h₁ x (excO C t0) C none) hcode hvs hfile hcell hcl T.slC T.sup (by decide) rfl rfl rfl rfl T.top fun so h₂ hso hsz hk₂ => ?_
  have X₂ : K.In h₂ := X₁.keeps hk₂
  have hx₂ := hk₂ _ _ hx₁
  have hxC : x ≠ C := ks_ne X₂ (⟨hx₂, rfl, rfl, trivial⟩ : InstAt h₂ x (excO C t0) C none) hcl
  have I₂ : InstAt h₂ x (excO C t0) C none := ⟨hx₂, rfl, rfl, trivial⟩
  refine kxs_getMethod kxs_ValueError hso (looks_opaque X₂ T.opq) (l₀ := .ref C :: bm) (fun A Q E s k q => wpAny_bind ((looks_clsIn X₂ hcl) A _ E s k (wpAny_pure q))) (ESX.drop_own C bm) X₂ hal (I₂.type.andThen (looks_subIn X₂ T.veC)) hxC (by decide) ?_
  have hC₂ : ∀ hh : Heap, (∀ b o, hp.get? b = some o → hh.get? b = some o) → hh.get? C = _ := fun hh k => k _ _ (X _ _ hC)
  have k02 : ∀ b o, hp.get? b = some o → h₂.get? b = some o := fun b o e => hk₂ b o (hk₁ b o e)
  have kp : ∀ b o, h₂.get? b = some o → (h₂.push (kxs_mw "ValueError.__init__" x)).get? b = some o := fun b o e => Heap.get?_push_of_some _ e
  have hu : (h₂.push (kxs_mw "ValueError.__init__" x)).get? h₂.objs.size = some (kxs_mw "ValueError.__init__" x) := Heap.get?_push_size _ rfl
  have hns₂ := (hns.keeps hk₂).keeps kp
  refine cw1 (i := "ValueError.__init__") (x := x) (args_cons (wpAny_JoinedStr ?_))
  show Joins _ _ _ [eval (.Constant (.str msg) 0 a4) _, eval (.FormattedValue (.Name "place" a5) (-1) none a6) _] _ _ _
  have hz1 : (Str.empty ++ msg).length ≤ sizeLine := by
    rw [strLen_append, sizeLine_eq]
    have : Str.empty.length = 0 := rfl
    omega
  have hz2 := text_len (i := i) hml hi
  refine Calls.Constant_str ⟨msg, _, rfl, hz1, ?_⟩
  refine wpAny_FormattedValue_plain (ldX (v := .int i tv) (m := fun x_1 => ([("self", .ref x), ("place", .int i tv)] : List (Str × Value)).reverse.lookup x_1) hns₂ (by first | rfl | with_unfolding_all rfl | kernel_rfl) (wpAny_formatField_int hi ⟨_, _, rfl, hz2, ?_⟩))
  refine ⟨hz2, args_nil ⟨hu, ?_⟩⟩
  refine call_mw (C := C) (hC₂ _ fun b o e => kp b o (k02 b o e)) (kp _ _ hx₂) hu (show (1 : Nat) ≤ sizeLine by rw [sizeLine_eq]; decide) fun h₄ t1 k₄ hx₄ => ?_
  have hxs : x < hp.objs.size := Heap.lt_size hx
  have k04 : ∀ b o, b ≠ x → hp.get? b = some o → h₄.get? b = some o := fun b o hb e => k₄ b o hb (kp b o (k02 b o e))
  have X₄ : K.In h₄ := fun a o e => k04 a o (fun z => by rw [z, kx] at e; cases e) (X a o e)
  have hns₄ : h₄.Ns hp.objs.size (fun x_1 => ([("self", .ref x), ("place", .int i tv)] : List (Str × Value)).reverse.lookup x_1) := by
    obtain ⟨oL, es, ep, e1, r⟩ := hns₂
    exact ⟨oL, es, ep, k₄ _ _ hxL e1, r⟩
  refine ks_wpAt_execs_cons (wpAt_of_wpAny (plainObj_wpAny_Assign_Attribute ?_))
  refine ldX (v := .int i tv) hns₄ (by first | rfl | with_unfolding_all rfl | kernel_rfl) (ldX (v := .ref x) hns₄ (by first | rfl | with_unfolding_all rfl | kernel_rfl) ?_)
  refine set_plain X₄ (ox := excO C t1) (od := none) ⟨hx₄, rfl, rfl, trivial⟩ T.sa ?_
  refine exc_osa X₄ hx₄ hcl (show refsVE (.ref C :: bm) = true from hbm) rfl T.noN (fun h₅ tk₅ dx k₅ dn dne hx₅ hn₅ => ?_)
  refine wpAt_of_wpAny (wpAny_execs_nil (hq h₅ tk₅ dx t1 ⟨fun b o hb e => k₅ b o hb (k04 b o hb e), hx₅, ?_, dne, hn₅⟩))
  have z : hp.objs.size < h₄.objs.size := hns₄.lt
  exact Nat.le_of_lt (Nat.lt_of_lt_of_le z dn)
theorem err_made (T : ErrTxt prog K mg C fI) {i : Int} {tv : Tok} (hi : i.natAbs.log2 < 1920) (X : K.In s.heap) (hlim : s.heap.NoLimit) (hg : s.heap.Ns mainGlobals mg) (hb : s.heap.Ns builtinsNs mb) (hmb : mb "super" = some (.type "super")) (hroom : A.depth + 1 < recursionLimit)
    (hq : ∀ h' tk e d, OwnMade s.heap h' e C d (.int i tv) → R (.ok (.ret (.ref e))) { s with heap := h', toks := tk }) :
    codeAny (model prog w) A (.call (.ref C) ⟨[.int i tv], []⟩) R s := by
  obtain ⟨nm, q, N, bs, bm, sn, sub, ab, col, dd, k0, k1, k2, k3, k5, hC, hbm⟩ := T.cls
  obtain ⟨hp, g, dr, tk, os⟩ := s
  have k : ∀ b o, hp.get? b = some o → ((hp.push (kdv_tup [.int i tv])).push (excO C hp.objs.size)).get? b = some o := fun b o e => Heap.get?_push_of_some _ (Heap.get?_push_of_some _ e)
  have hget : ((hp.push (kdv_tup [.int i tv])).push (excO C hp.objs.size)).get? (hp.objs.size + 1) = some (excO C hp.objs.size) := by heap_get
  have hnx : K.lookup (hp.objs.size + 1) = none := by
    cases e : K.lookup (hp.objs.size + 1) with
    | none => rfl
    | some o =>
      have z : hp.get? (hp.objs.size + 1) = some o := X _ _ e
      exact absurd (Nat.lt_of_succ_lt (Heap.lt_size z)) (Nat.lt_irrefl _)
  refine call_own F.excBase_ValueError (fun X => refsVE_contains X bm hbm) (X _ _ hC) (looks_findIn X T.iC) (fun self => bind_fn X self T.tC) (show (1 : Nat) ≤ sizeLine by rw [sizeLine_eq]; decide) ?_
  refine err_init (s := ⟨(hp.push (kdv_tup [.int i tv])).push (excO C hp.objs.size), g, dr, tk, os⟩) T hi (X.keeps k) (hlim.keeps k) (hg.keeps k) (hb.keeps k) hmb hget hnx ?_ fun h' tk' dx t1 ⟨k', hx, dn, dne, hns⟩ => ?_
  · show A.depth + 1 < recursionLimit
    exact hroom
  · have old : ∀ b o, hp.get? b = some o → h'.get? b = some o := fun b o e => k' b o (Nat.ne_of_lt (Nat.lt_succ_of_lt (Heap.lt_size e))) (k b o e)
    have z : hp.objs.size + 1 + 1 ≤ dx := by
      first
        | (simpa only [Heap.size_push] using dn)
        | exact dn
        | (have q := dn; rw [Heap.size_push, Heap.size_push] at q; exact q)
    exact ⟨rfl, hq h' tk' (hp.objs.size + 1) dx ⟨old, Nat.le_succ _, ⟨_, _, hx, rfl, rfl, rfl, rfl⟩, Nat.le_trans (Nat.le_trans (Nat.le_succ _) (Nat.le_succ _)) z, dne, hns⟩⟩
end
end ErrX
end PySem
namespace L2
open PySem PySem.Spec PyProof.Rows
theorem relO_place {v : V} {v' : Value} (r : RelV v v') (f : Str) : RelO (List.lookup f [(("place" : Str), v)]) (if f = "place" then some v' else none) := by
  by_cases hw : f = "place"
  · subst hw
    rw [if_pos rfl]
    have q : List.lookup ("place" : Str) [(("place" : Str), v)] = some v := by simp [List.lookup]
    rw [q]
    exact r
  · rw [if_neg hw]
    have qw : (f == ("place" : Str)) = false := by simpa using hw
    have q2 : List.lookup f [(("place" : Str), v)] = none := by simp [List.lookup, qw]
    rw [q2]
    trivial
section
variable {X : Cx} {C fI : Addr}
/-- Err(e) -/
def tMkErr (C : Addr) (ta : TA) : L2.St → Hp → XK → Prop := fun σ H Q => ta σ H fun vs H1 => ∃ i : Int, vs = [.int i] ∧ i.natAbs.log2 < 1920 ∧ ∀ d, H1 d = none → Q (.ref C) (some d) (upd H1 d (.xd [(("place" : Str), .int i)]))
theorem pmk_err {a : Expr} {ta : TA} {x : Str} {p pos : Pos} {k : Nat} (T : PySem.ErrX.ErrTxt X.prog X.K X.mg C fI) (gC : X.mg x = some (.ref C)) (hr : Room k X.A) (ha : PA X [a] ta) (hg : Gl X x := by rfl) (hdb : (x == ("__debug__" : Str)) = false := by decide)
    (he : starEach (a :: []) X.env = (false, eval a X.env) :: starEach [] X.env := by rfl) (hpl : (backTo pos (starEach [] X.env)).any (·.1) = false := by rfl) :
    PMk X (.Call (.Name x p) [a] [] pos) (tMkErr C ta) := by
  intro pins s σ H Q I h
  refine wpAny_Call_Name_kw (ld_glob I hg gC ?_ hdb)
  refine PySem.W.callWith_K (h₀ := X.base) I.ok.mod.kin T.kC (thn (ha.run pos pins s σ H _ I h) fun us s1 hh => ?_) he hpl
  obtain ⟨vs, H1, I1, r1, i, ev, hi, q1⟩ := hh
  subst ev
  refine ⟨I1.kIn, ?_⟩
  cases r1 with
  | cons rv rn =>
    rename_i v' us'
    cases rn
    obtain ⟨tv, rfl⟩ := rv
    show wpAny _ _ (call (.ref C) [.int i tv]) _ _ _
    have hlim := I1.nolimit
    obtain ⟨mb, hb, hmb⟩ := I1.mod.blt
    have hg1 := I1.mod.glob.keeps I1.bk
    have hb1 := hb.keeps I1.bk
    have hsup : mb "super" = some (.type "super") := (hmb "super" (by decide)).trans (by first | rfl | kernel_rfl | decide +kernel)
    have hkIn := I1.kIn
    obtain ⟨hp, g, dr, tk, os⟩ := s1
    refine wpAny_call (PySem.ErrX.err_made T hi hkIn hlim hg1 hb1 hsup (by have := hr.dp; omega) fun h' tk' e d M => ?_)
    show MkP X pins σ Q (.ref e) ⟨h', g, dr, tk', os⟩
    obtain ⟨oe, fv, hoe, hc, hd, hdat, h1⟩ := M.obj
    have hns := M.ns
    obtain ⟨G', g1, g2⟩ := restrict h' fun b => decide (b ≠ e)
    have gk : ∀ b, b ≠ e → G'.get? b = h'.get? b := fun b hb => g1 b (decide_eq_true hb)
    have ge : G'.get? e = none := g2 e (by simp)
    have old : ∀ b o, hp.get? b = some o → G'.get? b = some o := fun b o q => (gk b (Nat.ne_of_lt (Nat.lt_of_lt_of_le (Heap.lt_size q) M.new))).trans (M.keep b o q)
    have ob : ObjOk X.prog X.w (upd H1 d (.xd [(("place" : Str), .int i)])) G' d (.xd [(("place" : Str), .int i)]) :=
      ⟨_, hns.at (fun o q => (gk d M.dne).trans q), fun f => relO_place (v := .int i) (v' := .int i tv) ⟨_, rfl⟩ f⟩
    have J : Inv X pins σ (upd H1 d (.xd [(("place" : Str), .int i)])) ⟨G', g, dr, tk', os⟩ := I1.laid (t' := tk') old M.dbig ob
    refine ⟨e, oe, fv, ⟨G', g, dr, tk', os⟩, _, .ref C, some d, rfl, J, fun b o q => ?_, ge, hoe, ⟨hc, hd⟩, hdat, h1, ?_, rfl, I1.bare, raises_own T.exC T.tyC, q1 d (I1.hok.fresh M.dbig)⟩
    · by_cases hb : b = e
      · have q' : G'.get? b = some o := q
        rw [hb, ge] at q'; cases q'
      · exact (gk b hb).symm.trans q
    · rw [upd_ne (Ne.symm M.dne)]
      exact I1.hok.fresh M.new
/-- err.place, err the exception that the suite holds (at a; its class cls, its dict d) -/
def tPlace (C : Addr) (a : Addr) (cls : Value) (d : Option Addr) (te : TE) : TE := fun σ H Q => te σ H fun x H1 => x = .ref a ∧ cls = .ref C ∧ ∃ (dd : Addr) (v : V), d = some dd ∧ H1 dd = some (.xd [(("place" : Str), v)]) ∧ Q v H1
theorem pe_place {P : Program} {a : Addr} {oe : Obj} {cls : Value} {d : Option Addr} {pn : List (Addr × Obj)} {e : Expr} {te : TE} {pos : Pos} (T : PySem.ErrX.ErrTxt P X.K X.mg C fI) (hz : Zc cls d oe) (hf : ∃ vs, oe.data = .fields vs) (he : PE (X.suite a ((a, oe) :: pn)) e te)
    (hb : attributeBase e "place" X.env (eval e X.env) = eval e X.env := by rfl) :
    PE (X.suite a ((a, oe) :: pn)) (.Attribute e "place" pos) (tPlace C a cls d te) := by
  refine ⟨fun pins s σ H Q I h => ?_⟩
  refine attr_of hb (thn (he.run pins s σ H _ I h) fun u s1 hh => ?_)
  obtain ⟨x, H1, I1, rx, ex, ec, dd, v, ed, ea, q⟩ := hh
  subst ex
  obtain rfl : u = Value.ref a := rx
  subst ec
  subst ed
  obtain ⟨ha, _⟩ := I1.pin (a, oe) (List.mem_append_left _ List.mem_cons_self)
  obtain ⟨vs, hd⟩ := hf
  have hx : ObjOk X.prog X.w H1 s1.heap dd (.xd [(("place" : Str), v)]) := I1.hok dd _ ea
  obtain ⟨mA, hns, hr⟩ := hx
  obtain ⟨od, ho, hl⟩ := lookIn_ns hns
  have l : List.lookup ("place" : Str) [(("place" : Str), v)] = some v := by simp [List.lookup]
  obtain ⟨u, hu, ru⟩ := RelO.some_of (v := v) (o := mA "place") (by rw [← l]; exact hr "place")
  have J : PySem.W.InstAt s1.heap a oe C (some od) := ⟨ha, hz.1, by unfold PySem.W.notCls; rw [hd] <;> rfl, by rw [hz.2]; exact ho⟩
  exact HandSPX.exc_get I1.kIn J T.ga T.gg T.exC (PySem.W.findObj_own T.hdC T.noN rfl (by rw [hl, hu])) (handed_of ru) ⟨v, H1, I1.tok _, ru, q⟩
theorem pmk_errE {a : Expr} {ta : TA} {x : Str} {p pos : Pos} {k : Nat} (T : ∃ fI, PySem.ErrX.ErrTxt X.prog X.K X.mg C fI) (gC : X.mg x = some (.ref C)) (hr : Room k X.A) (ha : PA X [a] ta) (hg : Gl X x := by rfl) (hdb : (x == ("__debug__" : Str)) = false := by decide)
    (he : starEach (a :: []) X.env = (false, eval a X.env) :: starEach [] X.env := by rfl) (hpl : (backTo pos (starEach [] X.env)).any (·.1) = false := by rfl) :
    PMk X (.Call (.Name x p) [a] [] pos) (tMkErr C ta) := by
  obtain ⟨fI, T⟩ := T
  exact pmk_err T gC hr ha hg hdb he hpl
theorem pe_placeE {P : Program} {a : Addr} {oe : Obj} {cls : Value} {d : Option Addr} {pn : List (Addr × Obj)} {e : Expr} {te : TE} {pos : Pos} (T : ∃ fI, PySem.ErrX.ErrTxt P X.K X.mg C fI) (hz : Zc cls d oe) (hf : ∃ vs, oe.data = .fields vs) (he : PE (X.suite a ((a, oe) :: pn)) e te)
    (hb : attributeBase e "place" X.env (eval e X.env) = eval e X.env := by rfl) :
    PE (X.suite a ((a, oe) :: pn)) (.Attribute e "place" pos) (tPlace C a cls d te) := by
  obtain ⟨fI, T⟩ := T
  exact pe_place T hz hf he hb
end
end L2
/-! ### isinstance(e, c) of a caught error that has fields -/
namespace PySem.W
open PySem PySem.Spec PySem.Calls PyProof.Rows
section
variable {prog : Program} {w : World} {A : Around} {E : Value → Shared → Prop} {s : Shared} {K : Frag} {x D : Addr} {ox : Obj} {od : Option Obj}
theorem findObj_dataO {C : Addr} {name : Str} {a g : Value} (hc : (clsIn K C).isSome = true) (ha : findIn K (.ref C) name = some (some a)) (hg : specialIn K a "__get__" = some (some g)) (ht : takesIn K a = some true) : findObj K C od name = some (.bind g a) := by
  obtain ⟨cd, hc⟩ := Option.isSome_iff_exists.mp hc
  unfold findObj
  rw [hc, Option.bind_some, ha, Option.bind_some]
  simp [hg, ht]
theorem errx_class {Q : Option Value → Shared → Prop} (hga : findIn K (.ref D) "__getattribute__" = some (some (.builtin "BaseException.__getattribute__"))) (hgt : findIn K (.ref D) "__getattr__" = some none) (hsub : subIn K (.ref D) (.type "BaseException") = some true)
    (hdct : hasDictIn K D = true) (ha : findIn K (.ref D) "__class__" = some (some (.builtin "object.__class__")))
    (hn : specialIn K (.builtin "object.__class__") "__get__" = some (some (.builtin "getset_descriptor.__get__"))) (htk : takesIn K (.builtin "object.__class__") = some true) (hm : mroIn K D (.type "object") = some true)
    (X : K.In s.heap) (I : InstAt s.heap x ox D od) (h : Q (some (.ref D)) { s with toks := s.toks + 1 }) : wpAny (model prog w) A (getAttr? (.ref x) "__class__") Q E s := by
  have hf : findObj K D od "__class__" = some (.bind (.builtin "getset_descriptor.__get__") (.builtin "object.__class__")) := findObj_dataO (by obtain ⟨cd, hc, _⟩ := any_some hdct; rw [hc]; rfl) ha hn htk
  obtain ⟨hp, g, d, t, os⟩ := s
  have L0 := I.type (M := model prog w)
  have L1 := looks_findIn (M := model prog w) X hga
  have L2 := looks_findIn (M := model prog w) X hgt
  have L3 := looks_find (M := model prog w) X I hf
  have sub : Looks (model prog w) hp (isInstance (.ref x) (.type "BaseException")) true := L0.andThen (looks_subIn X hsub)
  have hx0 : (false && onTheHeap (Value.builtin "BaseException.__getattribute__")) = false := rfl
  have hx2 : (Value.builtin "BaseException.__getattribute__" == Value.builtin "object.__getattribute__") = false := by decide +kernel
  have hx1 : (onTheHeap (Value.ref D) && Value.builtin "BaseException.__getattribute__" == Value.builtin "object.__getattribute__") = false := by rw [hx2]; rfl
  unfold getAttr? getAttrBy? getAttrBy
  refine wpAny_bind (wpAny_mkText (wpAny_bind (wpAny_attempt (wpAny_holding (wpAny_bind (L0.at (wpAny_bind (L1.at ?_))))))))
  show wpAny _ _ (if (onTheHeap (Value.ref D) && Value.builtin "BaseException.__getattribute__" == Value.builtin "object.__getattribute__") = true then _ else _) _ _ _
  rw [hx1, if_neg Bool.false_ne_true]
  unfold getAttrByItsOwn hookBefore
  refine wpAny_bind ?_
  rw [if_pos (show onTheHeap (Value.ref D) = true from rfl)]
  refine L2.at ?_
  refine wpAny_bind (wpAny_attempt (wpAny_holding ?_))
  unfold callGetattribute
  rw [hx0, if_neg Bool.false_ne_true]
  unfold boundAndCalled
  rw [PySem.F.excAttr_ValueError.ga.bind (.ref x)]
  refine wpAny_bind (wpAny_pure ?_)
  show wpAny _ _ (call (.builtin "BaseException.__getattribute__") [.ref x, .str "__class__" t]) _ _ _
  refine wpAny_call (codeAny_call_builtin PySem.F.excAttr_ValueError.ga.plain PySem.F.entry_bexc_ga ?_)
  refine @check_slot (model prog w) _ _ ⟨hp, g, d, t + 1, os⟩ "BaseException.__getattribute__" "BaseException" "__getattribute__" (.ref x) [.str "__class__" t] [] _ (by decide +kernel) (by decide +kernel) sub (PySem.F.args_bexc_ga (.ref x) (.str "__class__" t)) ?_
  unfold Builtin.«object.__getattribute__»
  refine wpAny_bind (wpAny_of_eq (a := ((Value.ref x : Value), [Value.str "__class__" t])) (by first | rfl | (simp only [slotArgs]; rfl)) ?_)
  refine wpAny_bind (wpAny_pure (wpAny_bind (L0.at (wpAny_bind (L3.at ?_)))))
  show wpAny _ _ (holding [Value.builtin "object.__class__"] (call (.builtin "getset_descriptor.__get__") [.builtin "object.__class__", .ref x, .ref D]) >>= ret) _ _ _
  refine wpAny_bind (wpAny_holding (wpAny_call (class_get (s := ⟨hp, g, d, t + 1, os⟩) (ox := ox) (od := od) X I hm ?_)))
  refine wpAny_pure ?_
  show wpAny _ _ (handedOut (.ref D)) _ _ _
  rw [handedOut_of (v := .ref D) rfl]
  first
    | exact wpAny_pure (wpAny_pure h)
    | exact wpAny_pure h
    | exact wpAny_pure (wpAny_bind (wpAny_pure (wpAny_pure h)))
theorem errx_kit (hga : findIn K (.ref D) "__getattribute__" = some (some (.builtin "BaseException.__getattribute__"))) (hgt : findIn K (.ref D) "__getattr__" = some none) (hsub : subIn K (.ref D) (.type "BaseException") = some true) (hdct : hasDictIn K D = true) (ha : findIn K (.ref D) "__class__" = some (some (.builtin "object.__class__")))
    (hn : specialIn K (.builtin "object.__class__") "__get__" = some (some (.builtin "getset_descriptor.__get__"))) (htk : takesIn K (.builtin "object.__class__") = some true) (hm : mroIn K D (.type "object") = some true) :
    KitX K (.ref x) (.ref D) (fun h => InstAt h x ox D od) where
  ty := fun _ _ _ I => I.type
  it := fun _ _ X _ => by
    obtain ⟨cdD, hcD, _⟩ := any_some hdct
    unfold clsIn at hcD
    split at hcD
    · rename_i c' d' cd' sl' ho
      intro A' Q' E' s' k q
      unfold isType loadHead
      exact wpAny_bind (wpAny_loadPart (k _ _ (X _ _ ho)) (wpAny_pure q))
    · cases hcD
  ne := fun h tp dd its n sl X htp => by
    obtain ⟨cdD, hcD, _⟩ := any_some hdct
    refine Bool.eq_false_iff.mpr fun q => ?_
    have e : D = tp := Value.ref.inj (beq_iff_eq.mp q)
    subst e
    unfold clsIn at hcD
    split at hcD
    · rename_i c' d' cd' sl' ho
      have z := (X _ _ ho).symm.trans htp
      cases z
    · cases hcD
  ca := fun X I k => errx_class hga hgt hsub hdct ha hn htk hm X I k
end
end PySem.W
namespace L2
open PySem PySem.Spec PyProof.Rows
/-- isinstance(e, c): e's own dict is tracked -/
theorem call_isErr {X : Cx} {a D : Addr} {oe : Obj} {cls : Value} {d : Option Addr} {pn : List (Addr × Obj)} (C : ExcC X.K D) (hz : Zc cls d oe) (hf : ∃ vs, oe.data = .fields vs) :
    CallR (X.suite a ((a, oe) :: pn)) (.builtin "isinstance") (fun xs H Q => cls = .ref D ∧ (∃ (dd : Addr) (fs : List (Str × V)), d = some dd ∧ H dd = some (.xd fs)) ∧ rIsE X.K D a xs H Q) := by
  intro pins s σ H xs us Q I r h
  obtain ⟨rfl, ⟨dd, fs, rfl, hdd⟩, c, cv, b, rfl, hcv, e, q⟩ := h
  cases r with
  | cons rx rr =>
    cases rr with
    | cons rt rr =>
      cases rr
      cases rx
      have ec := hcv _ rt
      subst ec
      obtain ⟨hget, _⟩ := I.pin (a, oe) (List.mem_append.mpr (.inl List.mem_cons_self))
      obtain ⟨vs, hv⟩ := hf
      obtain ⟨mA, hns, hr⟩ := I.hok dd _ hdd
      obtain ⟨od, ho, hl⟩ := lookIn_ns hns
      have J : PySem.W.InstAt s.heap a oe D (some od) := ⟨hget, hz.1, by unfold PySem.W.notCls; rw [hv] <;> rfl, by rw [hz.2]; exact ho⟩
      exact PySem.W.kia_one (PySem.W.errx_kit C.hg C.hk C.hs C.hd C.ha C.hn C.ht C.hm) I.kIn J e (fun z => nomatch z) fun tk => ⟨.bl b, H, I.kept (t' := tk) fun _ _ z => z, rfl, q⟩
end L2
namespace My
open PySem PySem.Spec PyProof.Rows L2
/-! ### callables of the text: a def by its name, a method, a class -/
structure Cal (CX : CXT) (P : Program) (w : World) (K : PySem.W.Frag) (mg : Str → Option Value) (base : Heap) (k : Nat) (x : Str) (sp : Sp) : Prop where
  ex : ∃ (f : Addr) (fd : FuncData) (ps : List Str), FnOk P w K mg base CX k f fd ps sp ∧ mg x = some (.ref f) ∧ PySem.W.keepIn K (.ref f) = true ∧ Binds K fd ps []
structure Met (CX : CXT) (P : Program) (w : World) (K : PySem.W.Frag) (mg : Str → Option Value) (base : Heap) (k : Nat) (C : Addr) (m : Str) (sp : Sp) : Prop where
  ex : ∃ (f : Addr) (fd : FuncData) (ps : List Str), Cls K C ∧ Meth K C m f ∧ FnOk P w K mg base CX k f fd ps sp ∧ Binds K fd ps []
  fi : ∀ f, PySem.W.findIn K (.ref C) m = some (some (.ref f)) → PySem.W.fnIn K f = true
structure Mak (CX : CXT) (P : Program) (w : World) (K : PySem.W.Frag) (mg : Str → Option Value) (base : Heap) (k : Nat) (x : Str) (C : Addr) (sp : Sp) : Prop where
  ex : ∃ (f : Addr) (fd : FuncData) (ps : List Str), Mk K C f ∧ FnOk P w K mg base CX k f fd ps sp ∧ mg x = some (.ref C) ∧ Binds K fd ps []
section
variable {CX : CXT} {P : Program} {w : World} {K : PySem.W.Frag} {mg : Str → Option Value} {base : Heap} {k : Nat} {x m : Str} {f C : Addr} {fd : FuncData} {ps : List Str} {sp : Sp}
theorem cal_mk (F : FnOk P w K mg base CX k f fd ps sp) (m : mg x = some (.ref f)) (kp : PySem.W.keepIn K (.ref f) = true) (b : Binds K fd ps []) : Cal CX P w K mg base k x sp := ⟨f, fd, ps, F, m, kp, b⟩
theorem met_mk (F : FnOk P w K mg base CX k f fd ps sp) (c : Cls K C) (me : Meth K C m f) (b : Binds K fd ps []) (fi : PySem.W.fnIn K f = true) : Met CX P w K mg base k C m sp := ⟨⟨f, fd, ps, c, me, F, b⟩, fun g h => by
  have z := me.at_.symm.trans h
  cases z
  exact fi⟩
theorem fn_in {oc : Value} {od : Option Addr} {fdx : FuncData} {sl : Array (Option Value)} (l : K.lookup f = some ⟨oc, od, .func fdx, sl⟩) : PySem.W.fnIn K f = true := by
  unfold PySem.W.fnIn
  rw [l]
theorem mak_mk (F : FnOk P w K mg base CX k f fd ps sp) (m : mg x = some (.ref C)) (M : Mk K C f) (b : Binds K fd ps []) : Mak CX P w K mg base k x C sp := ⟨f, fd, ps, M, F, m, b⟩
end
section
variable {X : Cx} {CX : CXT} {k j : Nat} {C : Addr} {x m : Str} {sp : Sp} {E : XK} {p pos apos : Pos} {e o : Expr} {es : List Expr} {ta : TE} {t : TA}
theorem pc_c (c : Cal CX X.prog X.w X.K X.mg X.base k x sp) (hr : Room j X.A) (hk : k ≤ j) (hg : Gl X x) (hx : Passes CX X E) (ha : PA X (e :: es) t)
    (hdb : (x == ("__debug__" : Str)) = false := by decide) (he : starEach (e :: es) X.env = (false, eval e X.env) :: starEach es X.env := by rfl) (hpl : (backTo pos (starEach es X.env)).any (·.1) = false := by rfl) :
    PE X (.Call (.Name x p) (e :: es) [] pos) (tCall sp [] E t) := by
  obtain ⟨f, fd, ps, F, hm, kp, b⟩ := c.ex
  exact pe_call F (hr.mono hk) hg hm kp b .nil hx ha hdb he hpl
theorem pc_cS {E : L2.St → XK} (c : Cal CX X.prog X.w X.K X.mg X.base k x sp) (hr : Room j X.A) (hk : k ≤ j) (hg : Gl X x) (hx : ∀ σ, PassesAt CX X σ (E σ)) (ha : PA X (e :: es) t)
    (hdb : (x == ("__debug__" : Str)) = false := by decide) (he : starEach (e :: es) X.env = (false, eval e X.env) :: starEach es X.env := by rfl) (hpl : (backTo pos (starEach es X.env)).any (·.1) = false := by rfl) :
    PE X (.Call (.Name x p) (e :: es) [] pos) (tCallS sp E t) := by
  obtain ⟨f, fd, ps, F, hm, kp, b⟩ := c.ex
  exact pe_callS F (hr.mono hk) hg hm kp b hx ha hdb he hpl
theorem pc_mk (c : Mak CX X.prog X.w X.K X.mg X.base k x C sp) (hr : Room j X.A) (hk : k + 1 ≤ j) (hg : Gl X x) (hx : Passes CX X E) (ha : PA X (e :: es) t)
    (hdb : (x == ("__debug__" : Str)) = false := by decide) (he : starEach (e :: es) X.env = (false, eval e X.env) :: starEach es X.env := by rfl) (hpl : (backTo pos (starEach es X.env)).any (·.1) = false := by rfl) :
    PE X (.Call (.Name x p) (e :: es) [] pos) (tMake C sp [] E t) := by
  obtain ⟨f, fd, ps, M, F, hm, b⟩ := c.ex
  exact pe_make M F (hr.mono hk) hg hm b .nil hx ha hdb he hpl
/-- a class made where a try stands around: what is raised is wished for at the slots -/
def tMakeS (C : Addr) (sp : Sp) (E : L2.St → XK) (t : TA) : TE := fun σ H Q => t σ H fun vs H1 => ∀ x dx, H1 x = none → H1 dx = none → dx ≠ x →
  sp (.ref x :: (vs ++ [])) (upd (upd H1 dx (.own x)) x (.ins C dx [])) (fun v H2 => v = .non ∧ Q (.ref x) H2) (E σ)
theorem run_mkS {f : Addr} {fd : FuncData} {ps : List Str} {ds : List Value} {dvs : List V} {pins : List (Addr × Obj)} {σ : L2.St} {H : Hp} {s : Shared} {Q : VK} {us : List Value} {vs : List V} (M : Mk X.K C f) (F : FnOk X.prog X.w X.K X.mg X.base CX k f fd ps sp) (hr : Room (k + 1) X.A) (hb : Binds X.K fd ps ds) (hd : Vals dvs ds)
    (hx : PassesAt CX X σ E) (I : Inv X pins σ H s) (r : Vals vs us)
    (h : ∀ x dx, H x = none → H dx = none → dx ≠ x → sp (.ref x :: (vs ++ dvs)) (upd (upd H dx (.own x)) x (.ins C dx [])) (fun v H2 => v = .non ∧ Q (.ref x) H2) E) :
    wpAny (model X.prog X.w) X.A (call (.ref C) us) (EP X pins σ Q) X.xe s := by
  have hq := h (s.heap.objs.size + 1) s.heap.objs.size (I.hok.fresh (Nat.le_succ _)) (I.hok.fresh (Nat.le_refl _)) (Nat.ne_of_lt (Nat.lt_succ_self _))
  have I2 := Inv.made (C := C) I
  have r2 : Vals (V.ref (s.heap.objs.size + 1) :: (vs ++ dvs)) (Value.ref (s.heap.objs.size + 1) :: (us ++ ds)) := .cons rfl (r.append hd)
  have hl : (Value.ref (s.heap.objs.size + 1) :: us ++ ds).length = ps.length := by
    have e := r2.length
    rw [F.len _ _ _ _ hq] at e
    exact e.symm
  refine wpAny_call (make_map (f := f) I.kIn M.makes M.init (beq_iff_eq.mp M.fn) (codeAny_mono (F.run _ X.stack _ _ ⟨Value.ref (s.heap.objs.size + 1) :: us, []⟩ (Value.ref (s.heap.objs.size + 1) :: (us ++ ds)) _ _ E (hr.make C us [])
    (I2.env0.make C us []) (hb _ (Value.ref (s.heap.objs.size + 1) :: us) I2.kIn hl) r2 hq) fun r s' hq' => ?_))
  cases r with
  | error e => exact hx pins _ _ e s' I2 hq'
  | ok fl =>
    cases fl with
    | ret u =>
      obtain ⟨v, H', I3, rv, ev, q3⟩ := I2.after hq'
      subst ev
      exact ⟨rv, ⟨V.ref (s.heap.objs.size + 1), H', I3, rfl, q3⟩⟩
    | next => exact False.elim hq'
    | brk => exact False.elim hq'
    | cont => exact False.elim hq'
theorem pc_mkS {E : L2.St → XK} (c : Mak CX X.prog X.w X.K X.mg X.base k x C sp) (hr : Room j X.A) (hk : k + 1 ≤ j) (hg : Gl X x) (hx : ∀ σ, PassesAt CX X σ (E σ)) (ha : PA X (e :: es) t)
    (hdb : (x == ("__debug__" : Str)) = false := by decide) (he : starEach (e :: es) X.env = (false, eval e X.env) :: starEach es X.env := by rfl) (hpl : (backTo pos (starEach es X.env)).any (·.1) = false := by rfl) :
    PE X (.Call (.Name x p) (e :: es) [] pos) (tMakeS C sp E t) := by
  obtain ⟨f, fd, ps, M, F, hm, b⟩ := c.ex
  refine ⟨fun pins s σ H Q I h => ?_⟩
  refine wpAny_Call_Name_kw (ld_glob I hg hm ?_ hdb)
  refine PySem.W.callWith_K (h₀ := X.base) I.ok.mod.kin M.kp (thn (ha.run pos pins s σ H _ I h) fun us s1 ⟨vs, H1, I1, r, q⟩ => ⟨I1.kIn, ?_⟩) he hpl
  exact run_mkS M F (hr.mono hk) b .nil (hx σ) I1 r q
theorem pc_mt {pl : Sem Bool} (c : Met CX X.prog X.w X.K X.mg X.base k C m sp) (hr : Room j X.A) (hk : k ≤ j) (hx : Passes CX X E) (he : PE X o ta) (ha : PA X (e :: es) t)
    (hst : starEach (e :: es) X.env = (false, eval e X.env) :: starEach es X.env := by rfl) (hpl : (backTo pos (starEach es X.env)).any (·.1) = false := by rfl)
    (ht : eval (.Call (.Attribute o m apos) (e :: es) [] pos) X.env = (do
      let ov ← eval o X.env
      standAt apos.atName
      let (f, first) ← holding [ov] (getMethod ov m pl)
      callWith pos f first (backTo pos (starEach (e :: es) X.env)) (backToKw pos (keywordEach [] X.env))) := by rfl) :
    PE X (.Call (.Attribute o m apos) (e :: es) [] pos) (tMeth C m sp [] E ta t) := by
  obtain ⟨f, fd, ps, hc, hm, F, b⟩ := c.ex
  exact pe_meth (pl := pl) he hc hm F (hr.mono hk) b .nil hx ha hst hpl ht
theorem pc_mt0 {pl : Sem Bool} (c : Met CX X.prog X.w X.K X.mg X.base k C m sp) (hr : Room j X.A) (hk : k ≤ j) (hx : Passes CX X E) (he : PE X o ta)
    (ht : eval (.Call (.Attribute o m apos) [] [] pos) X.env = (do
      let ov ← eval o X.env
      standAt apos.atName
      let (f, first) ← holding [ov] (getMethod ov m pl)
      callWith pos f first (backTo pos (starEach [] X.env)) (backToKw pos (keywordEach [] X.env))) := by rfl) :
    PE X (.Call (.Attribute o m apos) [] [] pos) (tMeth C m sp [] E ta tNil) := by
  obtain ⟨f, fd, ps, hc, hm, F, b⟩ := c.ex
  exact pe_meth0 (pl := pl) he hc hm F (hr.mono hk) b .nil hx ht
/-! ### further operators -/
/-- * : one factor small, or both below a million bits together -/
def CMulA (i j : Int) : Prop := CMul i j ∨ CMulW i j
theorem op_mulA : OpR X (binaryOp .Mult) (rI CMulA fun i j => .int (i * j)) := opI fun _ _ _ _ _ _ _ hc q => mul_int q (hc.elim CMul.ok CMulW.ok)
/-- // by any divisor but 0 that is no giant -/
def CDivA (_ j : Int) : Prop := j ≠ 0 ∧ j.natAbs.log2 < 9000
theorem op_fdivA : OpR X (binaryOp .FloorDiv) (rI CDivA fun i j => .int (i.fdiv j)) := opI fun _ _ _ _ _ _ _ hc q => floordiv_int hc.1 q (.inl (PyProof.noPylong_of_log2 hc.2))
theorem divA {i j : Int} {b : Nat} (h : j ≠ 0) (hb : j.natAbs < 2 ^ b) (h0 : 0 < b) (h9 : b ≤ 9000) : CDivA i j := ⟨h, Nat.lt_of_lt_of_le (PySem.Flt.log2_lt_of h0 hb) h9⟩
end
/-! ### heaps: all but what stands at p is kept -/
def Kp (p : Addr) (H H' : Hp) : Prop := ∀ b o, b ≠ p → H b = some o → H' b = some o
theorem Kp.refl {p : Addr} {H : Hp} : Kp p H H := fun _ _ _ h => h
theorem Kp.trans {p : Addr} {H H1 H2 : Hp} (a : Kp p H H1) (b : Kp p H1 H2) : Kp p H H2 := fun c o n h => b c o n (a c o n h)
theorem Kp.upd {p : Addr} {H : Hp} {o : HO} : Kp p H (upd H p o) := fun _ _ n h => by rw [upd_ne n]; exact h
theorem Kp.same {p : Addr} {H0 H H' : Hp} (s : Same H0 H) (k : Kp p H H') (n : H0 p = none) : Same H0 H' := fun b o h => k b o (fun e => by rw [e, n] at h; cases h) (s b o h)
theorem same_upd {H : Hp} {p : Addr} {o : HO} (n : H p = none) : Same H (upd H p o) := fun b u h => by rw [upd_ne (ne_of_none h n)]; exact h
theorem Same.of (H : Hp) : Same H H := fun _ _ h => h
/-- isinstance(e, c), e the exception that the suite holds; its class and its dict are told in the reading -/
theorem call_isE2 {X : Cx} {a D : Addr} {oe : Obj} {cls : Value} {d : Option Addr} {pn : List (Addr × Obj)} (C : ExcC X.K D) (hz : Zc cls d oe) (hf : ∃ vs, oe.data = .fields vs) :
    CallR (X.suite a ((a, oe) :: pn)) (.builtin "isinstance") (fun xs H Q => cls = .ref D ∧ d = none ∧ rIsE X.K D a xs H Q) := by
  intro pins s σ H xs us Q I r h
  obtain ⟨rfl, rfl, h⟩ := h
  exact call_isE C hz hf pins s σ H xs us Q I r h
/-- an error of the class at S is what «except S» names -/
theorem exm_self {K : PySem.W.Frag} {S : Addr} (h1 : PySem.W.subIn K (.ref S) (.type "BaseException") = some true) (h2 : PySem.W.isClsIn K S = true) (h3 : PySem.W.typeIn K (.ref S) = some (.type "type")) (h4 : PySem.W.subIn K (.ref S) (.ref S) = some true) :
    PySem.W.exmOne K (.ref S) (.ref S) = some true := by
  have e1 : (PySem.W.subIn K (.ref S) (.type "BaseException") == some true) = true := by rw [h1] <;> rfl
  have e2 : ((PySem.W.clsIn K S).isSome && PySem.W.typeIn K (.ref S) == some (.type "type")) = true := by
    have h2' : (PySem.W.clsIn K S).isSome = true := h2
    rw [h2', h3] <;> rfl
  show (if (PySem.W.subIn K (.ref S) (.type "BaseException") == some true) = true then (if ((PySem.W.clsIn K S).isSome && PySem.W.typeIn K (.ref S) == some (.type "type")) = true then PySem.W.subIn K (.ref S) (.ref S) else none) else none) = some true
  rw [if_pos e1, if_pos e2]
  exact h4
/-- x is True, x is False: whatever x is -/
theorem op_isB {X : Cx} : OpR X (compareOp .Is) (fun x y H Q => ∃ b, y = .bl b ∧ Q (.bl (decide (x = .bl b))) H) := by
  intro pins s σ H x y v u Q I rx ry h
  obtain ⟨b, rfl, q⟩ := h
  cases (show u = Value.bool b from ry)
  have fin : ∀ k : Bool, decide (x = .bl b) = k → EP X pins σ Q (.bool k) s := fun k e => ⟨.bl k, H, I, rfl, by rw [← e]; exact q⟩
  cases x with
  | non => cases (show v = Value.none from rx); exact wpAny_pure (fin _ (by simp))
  | bl c =>
    cases (show v = Value.bool c from rx)
    refine wpAny_pure (fin _ ?_)
    by_cases e : c = b
    · subst e; simp
    · simp [e]
  | int i => obtain ⟨t, e⟩ := (show ∃ t, v = Value.int i t from rx); subst e; exact wpAny_pure (fin _ (by simp))
  | str i => obtain ⟨t, e⟩ := (show ∃ t, v = Value.str i t from rx); subst e; exact wpAny_pure (fin _ (by simp))
  | byt i => obtain ⟨t, e⟩ := (show ∃ t, v = Value.bytes i t from rx); subst e; exact wpAny_pure (fin _ (by simp))
  | flt i => obtain ⟨t, e⟩ := (show ∃ t, v = Value.float i t from rx); subst e; exact wpAny_pure (fin _ (by simp))
  | ref a => cases (show v = Value.ref a from rx); exact wpAny_pure (fin _ (by simp))
  | ty n => cases (show v = Value.type n from rx); exact wpAny_pure (fin _ (by simp))
theorem iteDT {p A B : Prop} [Decidable p] (hp : p) (h : A) : if decide p = true then A else B := by
  rw [decide_eq_true hp]
  exact iteT h
theorem iteDF {p A B : Prop} [Decidable p] (hp : ¬ p) (h : B) : if decide p = true then A else B := by
  rw [decide_eq_false hp]
  exact iteF h
/-! ### rules for a comprehension's block: the written part by its own name -/
section
variable {X : Cx} {K : PySem.W.Frag}
theorem pe_fldK {e : Expr} {f : Str} {pos : Pos} {ta : TE} (hK : X.K = K) (he : PE X e ta) (hb : attributeBase e f X.env (eval e X.env) = eval e X.env) : PE X (.Attribute e f pos) (tFld K ta f) := by
  subst hK
  exact pe_fld he hb
theorem pe_conK {e : Expr} {f : Str} {pos : Pos} {ta : TE} (hK : X.K = K) (he : PE X e ta) (hb : attributeBase e f X.env (eval e X.env) = eval e X.env) : PE X (.Attribute e f pos) (tCon K ta f) := by
  subst hK
  exact pe_con he hb
theorem call_len_seqK (hK : X.K = K) : CallR X (.builtin "len") (fun xs H Q => ∃ p ys, xs = [.ref p] ∧ (SqL K H p ys ∨ SqT K H p ys) ∧ Q (.int ys.length) H) := by
  subst hK
  exact call_len_seq
theorem call_list_ofK (hK : X.K = K) : CallR X (.type "list") (fun xs H Q => ∃ p ys, xs = [.ref p] ∧ (SqL K H p ys ∨ SqT K H p ys) ∧ ∀ l, H l = none → Q (.ref l) (upd H l (.lst ys))) := by
  subst hK
  exact call_list_of
theorem call_tuple_ofK (hK : X.K = K) : CallR X (.type "tuple") (fun xs H Q => ∃ p ys, xs = [.ref p] ∧ ((SqL K H p ys ∧ ∀ l, H l = none → Q (.ref l) (upd H l (.tup ys))) ∨ (SqT K H p ys ∧ Q (.ref p) H))) := by
  subst hK
  exact call_tuple_of
theorem call_isiK (hK : X.K = K) : CallR X (.builtin "isinstance") (rIsi K) := by
  subst hK
  exact call_isi
theorem cr_sumK (hK : X.K = K) (hc : X.calm = true) : CallR X (.builtin "sum") (rSum K) := by
  subst hK
  exact cr_sum hc
end
/-! ### operators of an own class, called by their signs -/
theorem inst_of {X : Cx} {pins : List (Addr × Obj)} {σ : L2.St} {H : Hp} {s : Shared} {a C dx : Addr} {fs : List (Str × V)} (I : Inv X pins σ H s) (h : H a = some (.ins C dx fs)) :
    ∃ (ox : Obj) (od : Option Obj), PySem.W.InstAt s.heap a ox C od ∧ ox.data = .plain := by
  obtain ⟨mA, O, _⟩ := ins_get I.hok h
  obtain ⟨od, J, _⟩ := O.look
  exact ⟨_, _, J, rfl⟩
theorem back_of {X : Cx} {pins : List (Addr × Obj)} {σ : L2.St} {Q : VK} {u : Value} {s : Shared} (h : EP X pins σ Q u s) : PySem.W.CmpBack (EP X pins σ Q) u s := by
  obtain ⟨v, H', I, r, q⟩ := id h
  cases u with
  | notImplemented =>
    cases v <;> first
      | exact (nomatch (show Value.notImplemented = _ from r))
      | (obtain ⟨t, e⟩ := (show ∃ t, Value.notImplemented = _ from r); cases e)
  | _ => exact h
/-- what the text has of an operator's method: run it on two values; A: where the call stands -/
theorem met_runA {X : Cx} {CX : CXT} {A : Around} {k j : Nat} {C : Addr} {m : Str} {sp : Sp} {E : XK} (c : Met CX X.prog X.w X.K X.mg X.base k C m sp) (hr : Room j A) (hk : k ≤ j) (hx : Passes CX X E)
    (hA : ∀ (s : Shared) (H : Hp), Env0 X.prog X.w X.K X.mg X.base X.A X.stack s H → Env0 X.prog X.w X.K X.mg X.base A X.stack s H) :
    ∃ f : Addr, PySem.W.findIn X.K (.ref C) m = some (some (.ref f)) ∧ PySem.W.isFn X.K (.ref f) = true ∧ PySem.W.keepIn X.K (.ref f) = true ∧
      ∀ (pins : List (Addr × Obj)) (s : Shared) (σ : L2.St) (H : Hp) (us : List Value) (vs : List V) (Q : VK), Inv X pins σ H s → Vals vs us → sp vs H Q E → wpAny (model X.prog X.w) A (call (.ref f) us) (EP X pins σ Q) X.xe s := by
  obtain ⟨f, fd, ps, hc, hm, F, b⟩ := c.ex
  refine ⟨f, hm.at_, hm.fn, hm.kp, fun pins s σ H us vs Q I r h => ?_⟩
  have hl : us.length = ps.length := by rw [← r.length]; exact F.len _ _ _ _ h
  have hb := b s us I.kIn (by rw [List.append_nil]; exact hl)
  rw [List.append_nil] at hb
  refine wpAny_call (codeAny_mono (F.run A X.stack s H ⟨us, []⟩ us vs Q E (hr.mono hk) (hA _ _ I.env0) hb r h) fun r s' hq => ?_)
  match r with
  | .error e => exact hx pins σ H s e s' I hq
  | .ok (.ret u) => exact I.after hq
  | .ok .next => exact False.elim hq
  | .ok .brk => exact False.elim hq
  | .ok .cont => exact False.elim hq
theorem met_run {X : Cx} {CX : CXT} {k j : Nat} {C : Addr} {m : Str} {sp : Sp} {E : XK} (c : Met CX X.prog X.w X.K X.mg X.base k C m sp) (hr : Room j X.A) (hk : k ≤ j) (hx : Passes CX X E) :
    ∃ f : Addr, PySem.W.findIn X.K (.ref C) m = some (some (.ref f)) ∧ PySem.W.isFn X.K (.ref f) = true ∧ PySem.W.keepIn X.K (.ref f) = true ∧
      ∀ (pins : List (Addr × Obj)) (s : Shared) (σ : L2.St) (H : Hp) (us : List Value) (vs : List V) (Q : VK), Inv X pins σ H s → Vals vs us → sp vs H Q E → wpAny (model X.prog X.w) X.A (call (.ref f) us) (EP X pins σ Q) X.xe s := met_runA c hr hk hx fun _ _ z => z
section
variable {X : Cx} {CX : CXT} {k j : Nat} {C : Addr} {m : Str} {sp : Sp} {E : XK}
def rOwn2 (C : Addr) (sp : Sp) (E : XK) : R2 := fun x y H Q => ∃ (a b dx dy : Addr) (fs gs : List (Str × V)), x = .ref a ∧ y = .ref b ∧ H a = some (.ins C dx fs) ∧ H b = some (.ins C dy gs) ∧ sp [x, y] H Q E
/-- x op y, both of one own class that has the method -/
theorem op_own {op : Operator} (c : Met CX X.prog X.w X.K X.mg X.base k C m sp) (hr : Room j X.A) (hk : k ≤ j) (hx : Passes CX X E) (sf : PySem.W.selfFirst X.K C = true) (hm : PySem.dunder op.info.2 = m := by decide +kernel) :
    OpR X (binaryOp op) (rOwn2 C sp E) := by
  intro pins s σ H x y v u Q I rx ry h
  obtain ⟨a, b, dx, dy, fs, gs, rfl, rfl, ha, hb, hs⟩ := h
  obtain ⟨f, hf, fn, kp, run⟩ := met_run c hr hk hx
  obtain ⟨mF, F⟩ := I.fr
  obtain ⟨ox, od, J, _⟩ := inst_of I ha
  obtain ⟨oy, oe, J2, _⟩ := inst_of I hb
  have r2 : Vals [V.ref a, V.ref b] [v, u] := .cons rx (.cons ry .nil)
  cases (show v = Value.ref a from rx)
  cases (show u = Value.ref b from ry)
  exact PySem.W.binop_K F I.ok.mod.kin J J2.type sf (by rw [hm]; exact hf) fn (wpAny_mono (run pins s σ H _ _ Q I r2 hs) (fun _ _ z => back_of z) fun _ _ z => z)
def rOwnI (C : Addr) (sp : Sp) (E : XK) : R2 := fun x y H Q => ∃ (a dx : Addr) (fs : List (Str × V)) (i : Int), x = .ref a ∧ y = .int i ∧ H a = some (.ins C dx fs) ∧ sp [x, y] H Q E
/-- x op i, i a whole number -/
theorem op_ownI {op : Operator} (c : Met CX X.prog X.w X.K X.mg X.base k C m sp) (hr : Room j X.A) (hk : k ≤ j) (hx : Passes CX X E) (sf : PySem.W.selfFirst X.K C = true)
    (hrc : ∃ rc, PySem.W.findIn X.K (.ref C) (dunderR op.info.2) = some rc ∧ (rc = none ∨ ∃ g : Addr, rc = some (.ref g)))
    (h1 : ∃ fo, PySem.W.findIn X.K (.type "int") (PySem.dunder op.info.2) = some fo) (h2 : ∃ ro, PySem.W.findIn X.K (.type "int") (dunderR op.info.2) = some ro) (hsub : PySem.W.subIn X.K (.type "int") (.ref C) = some false)
    (hm : PySem.dunder op.info.2 = m := by decide +kernel) : OpR X (binaryOp op) (rOwnI C sp E) := by
  intro pins s σ H x y v u Q I rx ry h
  obtain ⟨a, dx, fs, i, rfl, rfl, ha, hs⟩ := h
  obtain ⟨f, hf, fn, kp, run⟩ := met_run c hr hk hx
  obtain ⟨rc, hrc, hp⟩ := hrc
  obtain ⟨fo, h1⟩ := h1
  obtain ⟨ro, h2⟩ := h2
  obtain ⟨mF, F⟩ := I.fr
  obtain ⟨ox, od, J, _⟩ := inst_of I ha
  have r2 : Vals [V.ref a, V.int i] [v, u] := .cons rx (.cons ry .nil)
  cases (show v = Value.ref a from rx)
  obtain ⟨t, et⟩ := (show ∃ t, u = Value.int i t from ry)
  subst et
  exact PySem.W.ksp_binT (T := "int") F I.ok.mod.kin J rfl sf (by rw [hm]; exact hf) fn hrc hp h1 h2 hsub (wpAny_mono (run pins s σ H _ _ Q I r2 hs) (fun _ _ z => back_of z) fun _ _ z => z)
def rOwn1 (C : Addr) (sp : Sp) (E : XK) : V → Hp → VK → Prop := fun x H Q => ∃ (a dx : Addr) (fs : List (Str × V)), x = .ref a ∧ H a = some (.ins C dx fs) ∧ sp [x] H Q E
/-- -x -/
theorem un_own (c : Met CX X.prog X.w X.K X.mg X.base k C "__neg__" sp) (hr : Room j X.A) (hk : k ≤ j) (hx : Passes CX X E) : UnR X (unaryOp .USub) (rOwn1 C sp E) := by
  intro pins s σ H x v Q I rx h
  obtain ⟨a, dx, fs, rfl, ha, hs⟩ := h
  obtain ⟨f, hf, fn, kp, run⟩ := met_run c hr hk hx
  obtain ⟨mF, F⟩ := I.fr
  obtain ⟨ox, od, J, _⟩ := inst_of I ha
  have r1 : Vals [V.ref a] [v] := .cons rx .nil
  cases (show v = Value.ref a from rx)
  exact PySem.W.ksp_neg F I.ok.mod.kin J hf fn (run pins s σ H _ _ Q I r1 hs)
/-- int's method finds no int in an own instance -/
theorem int_declines {prog : Program} {w : World} {A : Around} {Er : Value → Shared → Prop} {s : Shared} {x D : Addr} {ox : Obj} {od : Option Obj} {i : Int} {t : Tok} {nm : String} {id : String} {nmB : String} {f : Int → Int → Sem Fin} {Q : Option Value → Shared → Prop}
    (J : PySem.W.InstAt s.heap x ox D od) (hd : ox.data = .plain) (slot : Slot "int" (PySem.dunder nm) id) (entry : entryFor table id = some (Builtin.Int.intBinary nmB f)) (args : argsOk id ⟨[.int i t, .ref x], []⟩) (h : Q none s) :
    wpAny (model prog w) A (tryMethod (.int i t) (PySem.dunder nm) (.ref x)) Q Er s := by
  refine wpAny_tryMethod_declines (typeIs_int s i t) slot ?_
  refine GQ.call_here slot (typeIs_int s i t) entry args ?_
  unfold Builtin.Int.intBinary
  obtain ⟨hp, g, d, tk, os⟩ := s
  obtain ⟨oc, odd, odt, osl⟩ := ox
  dsimp only at hd
  subst hd
  have hx : hp.get? x = some _ := J.1
  wp_walk using AutoSeq1.wpAny_loadPart' hx
  exact ⟨rfl, h⟩
end
def rIOwn (C : Addr) (sp : Sp) (E : XK) : R2 := fun x y H Q => ∃ (a dx : Addr) (fs : List (Str × V)) (i : Int), x = .int i ∧ y = .ref a ∧ H a = some (.ins C dx fs) ∧ sp [y, x] H Q E
/-- i op x, i a whole number: x's reflected method -/
theorem op_Iown {X : Cx} {CX : CXT} {k j : Nat} {C : Addr} {sp : Sp} {E : XK} {op : Operator} {nm id nmB : String} {f : Int → Int → Sem Fin} (hop : op.info.2 = nm)
    (slot : Slot "int" (PySem.dunder nm) id) (entry : entryFor table id = some (Builtin.Int.intBinary nmB f)) (args : ∀ (i : Int) (t : Tok) (x : Addr), argsOk id ⟨[.int i t, .ref x], []⟩) (fills : fillsNumberSlot (.type "int") nm = pure true)
    (c : Met CX X.prog X.w X.K X.mg X.base k C (dunderR nm) sp) (hr : Room j X.A) (hk : k ≤ j) (hx : Passes CX X E) (sf : PySem.W.selfFirst X.K C = true)
    (hs : ∃ g : Addr, PySem.W.findIn X.K (.ref C) (PySem.dunder nm) = some (some (.ref g))) (hsub : PySem.W.subIn X.K (.ref C) (.type "int") = some false) : OpR X (binaryOp op) (rIOwn C sp E) := by
  intro pins s σ H x y v u Q I rx ry h
  obtain ⟨a, dx, fs, i, rfl, rfl, ha, hsp⟩ := h
  obtain ⟨g, hs⟩ := hs
  obtain ⟨f, hf, fn, kp, run⟩ := met_run c hr hk hx
  obtain ⟨ox, od, J, hd⟩ := inst_of I ha
  have r2 : Vals [V.ref a, V.int i] [u, v] := .cons ry (.cons rx .nil)
  cases (show u = Value.ref a from ry)
  obtain ⟨t, et⟩ := (show ∃ t, v = Value.int i t from rx)
  subst et
  have one := PySem.W.ksp_try (M := model X.prog X.w) (A := X.A) (name := dunderR nm) (b := .int i t) I.kIn J hf fn (wpAny_mono (run pins s σ H _ _ Q I r2 hsp) (fun _ _ z => back_of z) fun _ _ z => z)
  obtain ⟨cd, rest, hcd, hmr⟩ := PySem.W.ksp_first sf
  have K1 : X.K.In s.heap := I.kIn
  rcases hi : op.info with ⟨sym, nm'⟩
  rw [hi] at hop
  dsimp only at hop
  subst hop
  have L2 : PySem.W.Looks (model X.prog X.w) s.heap (typeOf (.ref a)) (.ref C) := J.type
  have L4 : PySem.W.Looks (model X.prog X.w) s.heap (fillsNumberSlot (.ref C) nm') true := PySem.W.fills_K K1 hcd hmr hs
  have L5 : PySem.W.Looks (model X.prog X.w) s.heap (isSubtype (.ref C) (.type "int")) false := PySem.W.looks_subIn K1 hsub
  have hne : (Value.type "int" == Value.ref C) = false := Bool.eq_false_iff.mpr fun q => by cases beq_iff_eq.mp q
  have hpy : numberSlotInPython (.type "int") nm' = pure false := rfl
  simp only [binaryOp, hi]
  refine wpAny_holding (wpAny_bind ?_)
  unfold binaryOp1
  refine wpAny_bind (wpAny_typeOf (typeIs_int s i t) (wpAny_bind (L2.here (wpAny_bind (wpAny_of_eq fills ?_)))))
  simp only [hne, Bool.false_eq_true, if_false]
  refine wpAny_bind (L4.here ?_)
  simp only [Bool.and_self, if_true]
  refine wpAny_bind (L5.here ?_)
  simp only [Bool.false_eq_true, if_false, pure_bind, Bool.not_false, Bool.and_self, if_true, hpy]
  refine wpAny_bind (int_declines J hd slot entry (args i t a) ?_)
  dsimp only
  refine wpAny_bind (wpAny_mono one (fun r s' hr' => ?_) fun _ _ e => e)
  obtain ⟨v, rfl, hq⟩ := hr'
  exact wpAny_bind (wpAny_rule (wpAny_pure (wpAny_pure hq)))
/-- abs(x), x an own instance -/
theorem call_absO {X : Cx} {CX : CXT} {k j : Nat} {C : Addr} {sp : Sp} {E : XK} (c : Met CX X.prog X.w X.K X.mg X.base k C "__abs__" sp) (hr : Room j X.A) (hk : k + 1 ≤ j) (hx : Passes CX X E) :
    CallR X (.builtin "abs") (fun xs H Q => ∃ x, xs = [x] ∧ rOwn1 C sp E x H Q) := by
  intro pins s σ H xs us Q I r h
  obtain ⟨x, rfl, a, dx, fs, rfl, ha, hs⟩ := h
  obtain ⟨f, hf, fn, kp, run⟩ := met_runA c (hr.mono hk).in1 (Nat.le_refl _) hx (fun _ _ z => z.in1)
  obtain ⟨ox, od, J, _⟩ := inst_of I ha
  have r0 := r
  obtain ⟨u, rfl, ru⟩ := vals1 r
  cases (show u = Value.ref a from ru)
  have h1 := run pins s σ H _ _ Q I r0 hs
  refine PySem.Calls.call_function_entry PyProof.Rows.kind_abs PyProof.Rows.plain_abs PyProof.Rows.entry_abs (PyProof.Rows.args_abs _) ?_
  unfold Builtin.«abs»
  refine wpAny_bind (m := oneArg "abs" _) (wpAny_pure ?_)
  refine wpAny_bind (m := callSpecial? (.ref a) (Str.ofString "__abs__")) (PySem.W.special_fn I.kIn J hf (beq_iff_eq.mp fn) (wpAny_mono h1 (fun v s' hv => ?_) fun _ _ z => z))
  exact wpAny_pure ⟨_, rfl, hv⟩
theorem UnR.or {X : Cx} {f : Value → Sem Value} {r r' : V → Hp → VK → Prop} (h : UnR X f r) (h' : UnR X f r') : UnR X f (fun x H Q => r x H Q ∨ r' x H Q) := by
  intro pins s σ H x v Q I rx q
  rcases q with q | q
  · exact h pins s σ H x v Q I rx q
  · exact h' pins s σ H x v Q I rx q
theorem CallR.or {X : Cx} {f : Value} {r r' : List V → Hp → VK → Prop} (h : CallR X f r) (h' : CallR X f r') : CallR X f (fun x H Q => r x H Q ∨ r' x H Q) := by
  intro pins s σ H x v Q I rx q
  rcases q with q | q
  · exact h pins s σ H x v Q I rx q
  · exact h' pins s σ H x v Q I rx q
/-! ### the same operators where a try stands around: what is raised is wished for at the slots -/
theorem met_runS {X : Cx} {CX : CXT} {k j : Nat} {C : Addr} {m : Str} {sp : Sp} {E : L2.St → XK} (c : Met CX X.prog X.w X.K X.mg X.base k C m sp) (hr : Room j X.A) (hk : k ≤ j) (hx : ∀ σ, PassesAt CX X σ (E σ)) :
    ∃ f : Addr, PySem.W.findIn X.K (.ref C) m = some (some (.ref f)) ∧ PySem.W.isFn X.K (.ref f) = true ∧ PySem.W.keepIn X.K (.ref f) = true ∧
      ∀ (pins : List (Addr × Obj)) (s : Shared) (σ : L2.St) (H : Hp) (us : List Value) (vs : List V) (Q : VK), Inv X pins σ H s → Vals vs us → sp vs H Q (E σ) → wpAny (model X.prog X.w) X.A (call (.ref f) us) (EP X pins σ Q) X.xe s := by
  obtain ⟨f, fd, ps, hc, hm, F, b⟩ := c.ex
  refine ⟨f, hm.at_, hm.fn, hm.kp, fun pins s σ H us vs Q I r h => ?_⟩
  have hl : us.length = ps.length := by rw [← r.length]; exact F.len _ _ _ _ h
  have hb := b s us I.kIn (by rw [List.append_nil]; exact hl)
  rw [List.append_nil] at hb
  refine wpAny_call (codeAny_mono (F.run X.A X.stack s H ⟨us, []⟩ us vs Q (E σ) (hr.mono hk) I.env0 hb r h) fun r s' hq => ?_)
  match r with
  | .error e => exact hx σ pins H s e s' I hq
  | .ok (.ret u) => exact I.after hq
  | .ok .next => exact False.elim hq
  | .ok .brk => exact False.elim hq
  | .ok .cont => exact False.elim hq
def OpRS (X : Cx) (f : Value → Value → Sem Value) (r : L2.St → R2) : Prop :=
  ∀ (pins : List (Addr × Obj)) (s : Shared) (σ : L2.St) (H : Hp) (x y : V) (v u : Value) (Q : VK), Inv X pins σ H s → RelV x v → RelV y u → r σ x y H Q →
    wpAny (model X.prog X.w) X.A (f v u) (EP X pins σ Q) X.xe s
def tOpS (r : L2.St → R2) (ta tb : TE) : TE := fun σ H Q => ta σ H fun x H1 => tb σ H1 fun y H2 => r σ x y H2 Q
theorem pe_opS {X : Cx} {a b : Expr} {ta tb : TE} {pos : Pos} {op : Operator} {r : L2.St → R2} (ho : OpRS X (binaryOp op) r) (ha : PE X a ta) (hb : PE X b tb) : PE X (.BinOp a op b pos) (tOpS r ta tb) := by
  refine ⟨fun pins s σ H Q I h => ?_⟩
  exact wpAny_BinOp (binT (R := fun x y H2 => r σ x y H2 Q) ha hb I h fun v u s2 x y H2 I2 rx ry q => ho pins s2 σ H2 x y v u Q I2 rx ry q)
theorem OpRS.or {X : Cx} {f : Value → Value → Sem Value} {r r' : L2.St → R2} (h : OpRS X f r) (h' : OpRS X f r') : OpRS X f (fun σ x y H Q => r σ x y H Q ∨ r' σ x y H Q) := by
  intro pins s σ H x y v u Q I rx ry q
  rcases q with q | q
  · exact h pins s σ H x y v u Q I rx ry q
  · exact h' pins s σ H x y v u Q I rx ry q
section
variable {X : Cx} {CX : CXT} {k j : Nat} {C : Addr} {m : Str} {sp : Sp} {E : L2.St → XK}
theorem op_ownS {op : Operator} (c : Met CX X.prog X.w X.K X.mg X.base k C m sp) (hr : Room j X.A) (hk : k ≤ j) (hx : ∀ σ, PassesAt CX X σ (E σ)) (sf : PySem.W.selfFirst X.K C = true) (hm : PySem.dunder op.info.2 = m := by decide +kernel) :
    OpRS X (binaryOp op) (fun σ => rOwn2 C sp (E σ)) := by
  intro pins s σ H x y v u Q I rx ry h
  obtain ⟨a, b, dx, dy, fs, gs, rfl, rfl, ha, hb, hs⟩ := h
  obtain ⟨f, hf, fn, kp, run⟩ := met_runS c hr hk hx
  obtain ⟨mF, F⟩ := I.fr
  obtain ⟨ox, od, J, _⟩ := inst_of I ha
  obtain ⟨oy, oe, J2, _⟩ := inst_of I hb
  have r2 : Vals [V.ref a, V.ref b] [v, u] := .cons rx (.cons ry .nil)
  cases (show v = Value.ref a from rx)
  cases (show u = Value.ref b from ry)
  exact PySem.W.binop_K F I.ok.mod.kin J J2.type sf (by rw [hm]; exact hf) fn (wpAny_mono (run pins s σ H _ _ Q I r2 hs) (fun _ _ z => back_of z) fun _ _ z => z)
theorem op_ownIS {op : Operator} (c : Met CX X.prog X.w X.K X.mg X.base k C m sp) (hr : Room j X.A) (hk : k ≤ j) (hx : ∀ σ, PassesAt CX X σ (E σ)) (sf : PySem.W.selfFirst X.K C = true)
    (hrc : ∃ rc, PySem.W.findIn X.K (.ref C) (dunderR op.info.2) = some rc ∧ (rc = none ∨ ∃ g : Addr, rc = some (.ref g)))
    (h1 : ∃ fo, PySem.W.findIn X.K (.type "int") (PySem.dunder op.info.2) = some fo) (h2 : ∃ ro, PySem.W.findIn X.K (.type "int") (dunderR op.info.2) = some ro) (hsub : PySem.W.subIn X.K (.type "int") (.ref C) = some false)
    (hm : PySem.dunder op.info.2 = m := by decide +kernel) : OpRS X (binaryOp op) (fun σ => rOwnI C sp (E σ)) := by
  intro pins s σ H x y v u Q I rx ry h
  obtain ⟨a, dx, fs, i, rfl, rfl, ha, hs⟩ := h
  obtain ⟨f, hf, fn, kp, run⟩ := met_runS c hr hk hx
  obtain ⟨rc, hrc, hp⟩ := hrc
  obtain ⟨fo, h1⟩ := h1
  obtain ⟨ro, h2⟩ := h2
  obtain ⟨mF, F⟩ := I.fr
  obtain ⟨ox, od, J, _⟩ := inst_of I ha
  have r2 : Vals [V.ref a, V.int i] [v, u] := .cons rx (.cons ry .nil)
  cases (show v = Value.ref a from rx)
  obtain ⟨t, et⟩ := (show ∃ t, u = Value.int i t from ry)
  subst et
  exact PySem.W.ksp_binT (T := "int") F I.ok.mod.kin J rfl sf (by rw [hm]; exact hf) fn hrc hp h1 h2 hsub (wpAny_mono (run pins s σ H _ _ Q I r2 hs) (fun _ _ z => back_of z) fun _ _ z => z)
end
/-- x == y, x < y .., both of one own class that has the method -/
theorem op_cmpO {X : Cx} {CX : CXT} {k j : Nat} {C : Addr} {m : Str} {sp : Sp} {E : XK} {op : CmpOp} (c : Met CX X.prog X.w X.K X.mg X.base k C m sp) (hr : Room j X.A) (hk : k ≤ j) (hx : Passes CX X E)
    (hop : ∀ v u : Value, compareOp op v u = richCompare op v u := by intro _ _; rfl) (hm : (cmpInfo op).2.1 = m := by decide +kernel) : OpR X (compareOp op) (rOwn2 C sp E) := by
  intro pins s σ H x y v u Q I rx ry h
  obtain ⟨a, b, dx, dy, fs, gs, rfl, rfl, ha, hb, hs⟩ := h
  obtain ⟨f, hf, fn, kp, run⟩ := met_run c hr hk hx
  obtain ⟨mF, F⟩ := I.fr
  obtain ⟨ox, od, J, _⟩ := inst_of I ha
  obtain ⟨oy, oe, J2, _⟩ := inst_of I hb
  have r2 : Vals [V.ref a, V.ref b] [v, u] := .cons rx (.cons ry .nil)
  cases (show v = Value.ref a from rx)
  cases (show u = Value.ref b from ry)
  rw [hop]
  have hu : X.A.units < cLine := by have := hr.un; omega
  exact PySem.W.cmp_K hu F I.ok.mod.kin J J2.type (by unfold PySem.W.notFirst; simp) (by rw [hm]; exact hf) fn (wpAny_mono (run pins s σ H _ _ Q I r2 hs) (fun _ _ z => back_of z) fun _ _ z => z)
/-- f() -/
theorem pc_c0 {X : Cx} {CX : CXT} {k j : Nat} {x : Str} {sp : Sp} {E : XK} {p pos : Pos} (c : Cal CX X.prog X.w X.K X.mg X.base k x sp) (hr : Room j X.A) (hk : k ≤ j) (hg : Gl X x) (hx : Passes CX X E) (hdb : (x == ("__debug__" : Str)) = false := by decide) :
    PE X (.Call (.Name x p) [] [] pos) (tCall sp [] E tNil) := by
  obtain ⟨f, fd, ps, F, hm, kp, b⟩ := c.ex
  exact pe_call0 F (hr.mono hk) hg hm kp b .nil hx hdb
/-- f'..' of two parts or more, by a name -/
def tJoined (ts : List TE) : TE := fun σ H Q => tJs ts Str.empty σ H fun out H1 => Q (.str out) H1
theorem pe_joinedD {X : Cx} {v1 v2 : Expr} {rest : List Expr} {ts : List TE} {pos : Pos} (h : PJ X (v1 :: v2 :: rest) ts) : PE X (.JoinedStr (v1 :: v2 :: rest) pos) (tJoined ts) := pe_joined h
/-! ### t + u of tuples, empty ones among them; a module's dict of texts read -/
def rCatTA (K : PySem.W.Frag) : R2 := fun x y H Q => ∃ a b xs ys, x = .ref a ∧ y = .ref b ∧ SqT K H a xs ∧ SqT K H b ys ∧ xs.length + ys.length ≤ sizeLine ∧ ∀ (p : Addr) (H' : Hp), Same H H' → SqT K H' p (xs ++ ys) → Q (.ref p) H'
theorem op_catTA {X : Cx} : OpR X (binaryOp .Add) (rCatTA X.K) := by
  intro pins s σ H x y v u Q I rx ry h
  obtain ⟨a, b, xs, ys, rfl, rfl, ha, hb, hz, q⟩ := h
  by_cases hx : xs = []
  · subst hx
    cases rx
    cases ry
    obtain ⟨its, r1, p1, _⟩ := I.tuple ha
    obtain ⟨its2, r2, p2, _⟩ := I.tuple hb
    cases r1
    obtain ⟨⟨cls, dd, data, sl⟩, ho, hc, n, hd⟩ := id p1
    obtain ⟨⟨cls2, dd2, data2, sl2⟩, ho2, hc2, n2, hd2⟩ := id p2
    simp only at hc hd hc2 hd2
    subst hc hd hc2 hd2
    exact concat_meets ⟨_, ho, rfl⟩ ⟨_, ho2, rfl⟩ noFill_tuple_add seq_tuple_add PySem.F.slot_tuple_add PySem.F.entry_tuple_add (PySem.F.args_tuple_add_2 _ _)
      (PyProof.Rows.tuple_addW0 a b _ its2.toArray n n2 dd dd2 sl sl2 rfl) ⟨ho, ho2, ⟨.ref b, H, I, rfl, q b H (Same.of _) hb⟩⟩
  · refine op_catT pins s σ H _ _ v u Q I rx ry ⟨a, b, xs, ys, rfl, rfl, ha, hb, hx, hz, fun hy => ?_, fun _ p hp => q p _ (same_upd hp) (SqT.of upd_same)⟩
    subst hy
    exact q a H (Same.of _) (by rw [List.append_nil]; exact ha)
theorem ix_kdE {X : Cx} {d : Addr} (D : ∃ (es : Array DictEntry) (n : Nat), KDict X.K X.w d es n) : IxR X (fun x y H Q => ∃ (z : Str) (u0 : Value) (v0 : V), x = .ref d ∧ y = .str z ∧ PySem.W.nsIn X.K d z = some (some u0) ∧ RelV v0 u0 ∧ Q v0 H) := by
  intro value slice pins s σ H x y v u Q I rx ry h hs
  obtain ⟨es, n, D⟩ := D
  obtain ⟨z, u0, v0, rfl, rfl, e, r, q⟩ := h
  cases rx
  obtain ⟨t, rfl⟩ := ry
  exact PyProof.Rows.tail_any (kd_type D I) slot_dict_getitem.lookup (wpAny_getItem_of (PySem.strKind_is X.prog X.w z t) (PySem.W.mapOf_K (prog := X.prog) I.kIn D.at_ D.lit) (PySem.W.find_K D.at_ e) ⟨v0, H, I.tok _, r, q⟩) hs
theorem ix_kdEK {X : Cx} {K : PySem.W.Frag} {w : World} {d : Addr} (hK : X.K = K) (hw : X.w = w) (D : ∃ (es : Array DictEntry) (n : Nat), KDict K w d es n) : IxR X (fun x y H Q => ∃ (z : Str) (u0 : Value) (v0 : V), x = .ref d ∧ y = .str z ∧ PySem.W.nsIn K d z = some (some u0) ∧ RelV v0 u0 ∧ Q v0 H) := by
  subst hK
  subst hw
  exact ix_kdE D
theorem sl_listK {X : Cx} {K : PySem.W.Frag} (hK : X.K = K) : SlR X (rSlL K) := by
  subst hK
  exact sl_list
/-! ### v in o, v not in o by an own __contains__; str(o) by an own __str__ -/
def rInO (neg : Bool) (C : Addr) (sp : Sp) (E : XK) : R2 := fun x y H Q => ∃ (a dx : Addr) (fs : List (Str × V)), y = .ref a ∧ H a = some (.ins C dx fs) ∧ sp [.ref a, x] H (fun v H2 => ∃ b : Bool, v = .bl b ∧ Q (.bl (if neg then !b else b)) H2) E
def rStrO (C : Addr) (sp : Sp) (E : XK) : List V → Hp → VK → Prop := fun xs H Q => ∃ (a dx : Addr) (fs : List (Str × V)), xs = [.ref a] ∧ H a = some (.ins C dx fs) ∧ sp [.ref a] H (fun v H2 => ∃ y : Str, v = .str y ∧ Q (.str y) H2) E
section
variable {X : Cx} {CX : CXT} {k j : Nat} {C : Addr} {sp : Sp} {E : XK}
theorem op_inO (c : Met CX X.prog X.w X.K X.mg X.base k C "__contains__" sp) (hr : Room j X.A) (hk : k ≤ j) (hx : Passes CX X E) : OpR X (compareOp .In) (rInO false C sp E) := by
  intro pins s σ H x y v u Q I rx ry h
  obtain ⟨a, dx, fs, rfl, ha, hs⟩ := h
  obtain ⟨f, hf, fn, kp, run⟩ := met_run c hr hk hx
  obtain ⟨mF, F⟩ := I.fr
  obtain ⟨ox, od, J, _⟩ := inst_of I ha
  cases (show u = Value.ref a from ry)
  have r2 : Vals [V.ref a, x] [Value.ref a, v] := .cons rfl (.cons rx .nil)
  refine PySem.W.in_K F I.ok.mod.kin J hf fn (wpAny_mono (run pins s σ H _ _ _ I r2 hs) (fun r s' z => ?_) fun _ _ z => z)
  obtain ⟨w, H2, I2, rw', b, rfl, q⟩ := z
  cases (show r = Value.bool b from rw')
  exact wpAny_truthy_bool ⟨V.bl b, H2, I2, rfl, q⟩
theorem op_notInO (c : Met CX X.prog X.w X.K X.mg X.base k C "__contains__" sp) (hr : Room j X.A) (hk : k ≤ j) (hx : Passes CX X E) : OpR X (compareOp .NotIn) (rInO true C sp E) := by
  intro pins s σ H x y v u Q I rx ry h
  obtain ⟨a, dx, fs, rfl, ha, hs⟩ := h
  obtain ⟨f, hf, fn, kp, run⟩ := met_run c hr hk hx
  obtain ⟨mF, F⟩ := I.fr
  obtain ⟨ox, od, J, _⟩ := inst_of I ha
  cases (show u = Value.ref a from ry)
  have r2 : Vals [V.ref a, x] [Value.ref a, v] := .cons rfl (.cons rx .nil)
  refine PySem.W.notIn_K F I.ok.mod.kin J hf fn (wpAny_mono (run pins s σ H _ _ _ I r2 hs) (fun r s' z => ?_) fun _ _ z => z)
  obtain ⟨w, H2, I2, rw', b, rfl, q⟩ := z
  cases (show r = Value.bool b from rw')
  exact wpAny_truthy_bool ⟨V.bl (!b), H2, I2, rfl, q⟩
theorem call_strO (c : Met CX X.prog X.w X.K X.mg X.base k C "__str__" sp) (hr : Room j X.A) (hk : k + 2 ≤ j) (hx : Passes CX X E) : CallR X (.type "str") (rStrO C sp E) := by
  intro pins s σ H xs us Q I r h
  obtain ⟨a, dx, fs, rfl, ha, hs⟩ := h
  obtain ⟨u, rfl, ru⟩ := vals1 r
  cases (show u = Value.ref a from ru)
  have hr2 : Room k X.A.in1.in1 := ((hr.mono hk).in1).in1
  obtain ⟨f, hf, fn, kp, run⟩ := met_runA c hr2 (Nat.le_refl _) hx (fun _ _ z => z.in1.in1)
  obtain ⟨mF, F⟩ := I.fr
  obtain ⟨ox, od, J, _⟩ := inst_of I ha
  have hu : X.A.in1.in1.units < cLine := by have := hr2.un; omega
  refine PySem.W.kso_call hu (I.ok.mod.kin.keeps F.keep) J hf fn (wpAny_mono (run pins s σ H _ _ _ I r hs) (fun r s' z => ?_) fun _ _ z => z)
  obtain ⟨w, H2, I2, rw', y, rfl, q⟩ := z
  obtain ⟨t, rfl⟩ := (show ∃ t, r = Value.str y t from rw')
  exact ⟨V.str y, H2, I2, ⟨_, rfl⟩, q⟩
end
/-- a module's dict of texts has no other key -/
theorem ns_none {K : PySem.W.Frag} {d : Addr} {es : List DictEntry} {n : Nat} {ks : List Str} {z : Str} (l : K.lookup d = some ⟨.type "dict", none, .dict es.toArray n, #[]⟩) (hk : ∀ e ∈ es, ∃ (k : Str) (t : Tok), e.key = Value.str k t ∧ k ∈ ks) (hz : ¬ z ∈ ks) : PySem.W.nsIn K d z = some none := by
  have e1 : es.toArray.toList = es := List.toList_toArray
  unfold PySem.W.nsIn
  rw [l]
  simp only [e1]
  have e2 : es.find? (fun e => e.key.isStr z) = none := by
    rw [List.find?_eq_none]
    intro e he
    obtain ⟨k, t, e3, hm⟩ := hk e he
    rw [e3]
    intro h
    have h' : k = z := by
      have h2 : (k == z) = true := h
      exact eq_of_beq h2
    exact hz (h' ▸ hm)
  have e4 : es.any (fun e => e.refKey) = false := by
    rw [List.any_eq_false]
    intro e he
    obtain ⟨k, t, e3, hm⟩ := hk e he
    unfold DictEntry.refKey
    rw [e3]
    simp
  rw [e2, e4]
  rfl
/-! ### classmethods, and a class made through a local name -/
theorem clm_rd {K : PySem.W.Frag} {C : Addr} (h1 : PySem.W.nsIn K PySem.cStatics "thirdparty.any" = some none) (h2 : PySem.W.typeIn K (.ref C) = some (.type "type")) (h3 : PySem.W.findIn K (.type "type") "__getattribute__" = some (some (.builtin "type.__getattribute__")))
    (h4 : PySem.W.subIn K (.type "type") (.type "type") = some true) (h5 : PySem.W.specialIn K (.ref C) "__getattribute__" = some (some (.builtin "type.__getattribute__"))) : ClX.CRead K C (.type "type") := by
  refine ⟨?_, h5⟩
  unfold PySem.W.readsIn
  rw [h1, h2, h3, h4]
  rfl
theorem clm_at {K : PySem.W.Frag} {C p g : Addr} {m : Str} {rest : List Value} (h1 : PySem.W.findIn K (.type "type") m = some none) (h2 : PySem.W.findIn K (.ref C) m = some (some (.ref p))) (h3 : PySem.W.typeIn K (.ref p) = some (.type "classmethod"))
    (h4 : PySem.W.specialIn K (.ref p) "__get__" = some (some (.builtin "classmethod.__get__"))) (h5 : PySem.W.recIn K p "classmethod" = some (.ref g :: rest)) (h7 : PySem.W.fnIn K g = true) : ClX.CMet K C (.type "type") m p g := by
  refine ⟨?_, ⟨rest, h5⟩, h7⟩
  unfold PySem.W.findCls
  rw [h1, h2]
  simp only [Option.bind_some]
  refine (if_neg (fun z => Bool.noConfusion z)).trans ?_
  rw [h3]
  simp only [Option.bind_some]
  rw [h4]
  rfl
theorem clv_at {K : PySem.W.Frag} {C : Addr} {m : Str} {n : Int} {t : Tok} (h1 : PySem.W.findIn K (.type "type") m = some none) (h2 : PySem.W.findIn K (.ref C) m = some (some (.int n t))) (h3 : PySem.W.specialIn K (.int n t) "__get__" = some none) : ClX.CVal K C (.type "type") m (.int n) (.int n t) := by
  refine ⟨?_, ⟨t, rfl⟩⟩
  unfold PySem.W.findCls
  rw [h1, h2]
  simp only [Option.bind_some]
  refine (if_neg (fun z => Bool.noConfusion z)).trans ?_
  have ht : PySem.W.typeIn K (.int n t) = some (.type "int") := rfl
  rw [ht]
  simp only [Option.bind_some]
  rw [h3]
  rfl
structure ClM (CX : CXT) (P : Program) (w : World) (K : PySem.W.Frag) (mg : Str → Option Value) (base : Heap) (k : Nat) (C : Addr) (m : Str) (sp : Sp) : Prop where
  ex : ∃ (p g : Addr) (fd : FuncData) (ps : List Str), ClX.CRead K C (.type "type") ∧ ClX.CMet K C (.type "type") m p g ∧ FnOk P w K mg base CX k g fd ps sp ∧ Binds K fd ps []
theorem clm_mk {CX : CXT} {P : Program} {w : World} {K : PySem.W.Frag} {mg : Str → Option Value} {base : Heap} {k : Nat} {m : Str} {f p C : Addr} {fd : FuncData} {ps : List Str} {sp : Sp} (F : FnOk P w K mg base CX k f fd ps sp) (c : ClX.CRead K C (.type "type")) (h : ClX.CMet K C (.type "type") m p f) (b : Binds K fd ps []) : ClM CX P w K mg base k C m sp := ⟨p, f, fd, ps, c, h, F, b⟩
section
variable {X : Cx} {CX : CXT} {k j i : Nat} {C : Addr} {x y m : Str} {sp : Sp} {E : XK} {p pos apos : Pos} {e o : Expr} {es : List Expr} {to : TE} {t : TA}
theorem pc_mkL (c : Mak CX X.prog X.w X.K X.mg X.base k y C sp) (hr : Room j X.A) (hk : k + 1 ≤ j) (hN : X.N[i]? = some x) (hv : Vis X.env.scope x) (hx : Passes CX X E) (ha : PA X (e :: es) t)
    (hdb : (x == ("__debug__" : Str)) = false := by decide) (hcd : (x == ("__classdict__" : Str)) = false := by decide) (he : starEach (e :: es) X.env = (false, eval e X.env) :: starEach es X.env := by rfl) (hpl : (backTo pos (starEach es X.env)).any (·.1) = false := by rfl) :
    PE X (.Call (.Name x p) (e :: es) [] pos) (fun σ H Q => σ[i]? = some (some (.ref C)) ∧ tMake C sp [] E t σ H Q) := by
  obtain ⟨f, fd, ps, M, F, hm, b⟩ := c.ex
  refine ⟨fun pins s σ H Q I h => ?_⟩
  obtain ⟨hs, ht⟩ := h
  refine wpAny_Call_Name_kw (thn ((pe_var (pos := p) hN hv hdb hcd).run pins s σ H (fun v H1 => v = .ref C ∧ H1 = H) I ⟨.ref C, hs, rfl, rfl⟩) fun u s1 ⟨v, H1, I1, r1, q1⟩ => ?_)
  obtain ⟨rfl, rfl⟩ := q1
  cases r1
  refine PySem.W.callWith_K (h₀ := X.base) I.ok.mod.kin M.kp (thn (ha.run pos pins s1 σ _ _ I1 ht) fun us s2 ⟨vs, H2, I2, r, q⟩ => ⟨I2.kIn, ?_⟩) he hpl
  exact run_make M F (hr.mono hk) b .nil hx I2 r q
theorem pc_cm {pl : Sem Bool} (c : ClM CX X.prog X.w X.K X.mg X.base k C m sp) (hr : Room j X.A) (hk : k ≤ j) (hx : Passes CX X E) (he : PE X o to) (ha : PA X (e :: es) t)
    (hst : starEach (e :: es) X.env = (false, eval e X.env) :: starEach es X.env := by rfl) (hpl : (backTo pos (starEach es X.env)).any (·.1) = false := by rfl)
    (ht : eval (.Call (.Attribute o m apos) (e :: es) [] pos) X.env = (do
      let ov ← eval o X.env
      standAt apos.atName
      let (f, first) ← holding [ov] (getMethod ov m pl)
      callWith pos f first (backTo pos (starEach (e :: es) X.env)) (backToKw pos (keywordEach [] X.env))) := by rfl) :
    PE X (.Call (.Attribute o m apos) (e :: es) [] pos) (ClX.tCMeth C (fun vs H Q E => sp (vs ++ []) H Q E) E to t) := by
  obtain ⟨p, g, fd, ps, hc, hm, F, b⟩ := c.ex
  exact ClX.pe_cmeth (pl := pl) he hc hm (F.raw b .nil) (hr.mono hk) hx ha hst hpl ht
end
/-- the same where a try stands around -/
theorem run_cmS {X : Cx} {CX : CXT} {k : Nat} {C p q : Addr} {sp : Sp} {E : XK} {Q : VK} {pins : List (Addr × Obj)} {σ : L2.St} {H : Hp} {s : Shared} {us : List Value} {vs : List V} {g : Addr} (F : FnR X.prog X.w X.K X.mg X.base CX k g sp) (hr : Room k X.A) (hx : PassesAt CX X σ E) (I : Inv X ((q, PySem.W.methodObj (.ref g) (.ref C)) :: pins) σ H s)
    (r : Vals vs us) (h : sp (.ref C :: vs) H Q E) : wpAny (model X.prog X.w) X.A (call (.ref q) us) (EP X pins σ Q) X.xe s := by
  have z : wpAny (model X.prog X.w) X.A (call (.ref q) us) (EP X ((q, PySem.W.methodObj (.ref g) (.ref C)) :: pins) σ Q) X.xe s := by
    refine wpAny_call (PySem.W.method_call (ClX.pin_at I) ?_)
    refine codeAny_mono (F X.A X.stack s H (.ref C :: us) (.ref C :: vs) Q E hr I.env0 (.cons rfl r) h) fun r s' hq => ?_
    cases r with
    | error e => exact hx _ H s e s' I hq
    | ok fl =>
      cases fl with
      | ret u => exact I.after hq
      | next => exact False.elim hq
      | brk => exact False.elim hq
      | cont => exact False.elim hq
  exact thn z fun _ _ y => ClX.unpinE y
def tCMethS (C : Addr) (sp : Sp) (E : L2.St → XK) (ta : TE) (t : TA) : TE := fun σ H Q => ta σ H fun x H1 => x = .ref C ∧ t σ H1 fun vs H2 => sp (.ref C :: vs) H2 Q (E σ)
section
variable {X : Cx} {CX : CXT} {k j i : Nat} {C : Addr} {m : Str} {sp : Sp} {p pos apos : Pos} {e o : Expr} {es : List Expr} {to : TE} {t : TA}
theorem pc_cmS {E : L2.St → XK} {pl : Sem Bool} (c : ClM CX X.prog X.w X.K X.mg X.base k C m sp) (hr : Room j X.A) (hk : k ≤ j) (hx : ∀ σ, PassesAt CX X σ (E σ)) (he : PE X o to) (ha : PA X (e :: es) t)
    (hst : starEach (e :: es) X.env = (false, eval e X.env) :: starEach es X.env := by rfl) (hpl : (backTo pos (starEach es X.env)).any (·.1) = false := by rfl)
    (ht : eval (.Call (.Attribute o m apos) (e :: es) [] pos) X.env = (do
      let ov ← eval o X.env
      standAt apos.atName
      let (f, first) ← holding [ov] (getMethod ov m pl)
      callWith pos f first (backTo pos (starEach (e :: es) X.env)) (backToKw pos (keywordEach [] X.env))) := by rfl) :
    PE X (.Call (.Attribute o m apos) (e :: es) [] pos) (tCMethS C (fun vs H Q E => sp (vs ++ []) H Q E) E to t) := by
  obtain ⟨p, g, fd, ps, r, cm, F0, b⟩ := c.ex
  have F := F0.raw b .nil
  refine ⟨fun pins s σ H Q I h => ?_⟩
  refine PySem.W.methodCall_KW (pl := pl) (thn (he.run pins s σ H _ I h) fun u s1 ⟨x, H1, I1, rx, ex, q⟩ => ?_) ht
  subst ex
  obtain rfl : u = Value.ref C := rx
  refine ClX.getmethcm_ok I1 r cm fun s2 I2 => ?_
  refine ClX.callwith_cm I2 (ClX.base_none I1 (Nat.le_refl _)) cm.fi (thn (ha.run pos _ s2 σ H1 _ I2 q) fun us s3 ⟨vs, H2, I3, rv, q2⟩ => ⟨⟨ClX.pin_at I3, I3.kIn⟩, ?_⟩) hst hpl
  exact run_cmS (p := p) F (hr.mono hk) (hx σ) I3 rv q2
end
/-! ### a law's cells and pools: what is promised of them -/
def PoolAt (H : Hp) (p : Addr) : Prop := ∃ x y z : Int, H p = some (.lst [.int x, .int y, .int z])
theorem PoolAt.kp {H H' : Hp} {p q : Addr} (h : PoolAt H p) (k : Kp q H H') (n : p ≠ q) : PoolAt H' p := by
  obtain ⟨x, y, z, e⟩ := h
  exact ⟨x, y, z, k _ _ n e⟩
theorem PoolAt.same {H H' : Hp} {p : Addr} (h : PoolAt H p) (k : Same H H') : PoolAt H' p := by
  obtain ⟨x, y, z, e⟩ := h
  exact ⟨x, y, z, k _ _ e⟩
theorem at0 {α : Type} {a b c : α} : atI [a, b, c] (0 : Int) = some a := rfl
theorem at1 {α : Type} {a b c : α} : atI [a, b, c] (1 : Int) = some b := rfl
theorem at2 {α : Type} {a b c : α} : atI [a, b, c] (2 : Int) = some c := rfl
def sp_Lcell (K : PySem.W.Frag) : Sp := fun vs H Q _ => ∃ (l : Addr) (ns : List Int) (j : Nat), vs = [.ref l, .int (j : Int)] ∧ SqL K H l (ns.map V.int) ∧ ∀ c : Int, 0 ≤ c → Q (.int c) H
def sp_Lpool : Sp := fun vs H Q _ => ∃ c : Int, vs = [.int c] ∧ ∀ (p : Addr) (H' : Hp), H p = none → Same H H' → PoolAt H' p → Q (.ref p) H'
def sp_Ltake : Sp := fun vs H Q _ => ∃ (p : Addr) (many : Int), vs = [.ref p, .int many] ∧ PoolAt H p ∧ 0 < many ∧ many.natAbs < 2 ^ 300 ∧
  ∀ (H' : Hp) (r : Int), Kp p H H' → PoolAt H' p → 0 ≤ r → r < many → Q (.int r) H'
/-! ### told and due are the same data -/
def Pairs (R : V → V → Prop) (xs ys : List V) : Prop := xs.length = ys.length ∧ ∀ (i : Nat) (x y : V), xs[i]? = some x → ys[i]? = some y → R x y
def flatD : V → Bool
  | .non => true
  | .bl _ => true
  | .int _ => true
  | .str _ => true
  | _ => false
def SameV (K : PySem.W.Frag) (H : Hp) : Nat → V → V → Prop
  | 0, x, y => flatD x = true ∧ x = y
  | n + 1, x, y => (flatD x = true ∧ x = y) ∨
      (∃ (a b : Addr) (xs ys : List V), x = .ref a ∧ y = .ref b ∧ SqL K H a xs ∧ SqL K H b ys ∧ xs.length ≤ sizeLine ∧ Pairs (SameV K H n) xs ys) ∨
      (∃ (a b : Addr) (xs ys : List V), x = .ref a ∧ y = .ref b ∧ SqT K H a xs ∧ SqT K H b ys ∧ xs.length ≤ sizeLine ∧ Pairs (SameV K H n) xs ys)
def sp_Lsame (K : PySem.W.Frag) : Nat → Sp
  | 0 => fun _ _ _ _ => False
  | n + 1 => fun vs H Q _ => ∃ x y : V, vs = [x, y] ∧ SameV K H n x y ∧ Q (.bl true) H
theorem SameV.flat {K : PySem.W.Frag} {H : Hp} {n : Nat} {x : V} (h : flatD x = true) : SameV K H n x x := by
  cases n with
  | zero => exact ⟨h, rfl⟩
  | succ n => exact .inl ⟨h, rfl⟩
theorem Pairs.refl {R : V → V → Prop} {xs : List V} (h : ∀ x ∈ xs, R x x) : Pairs R xs xs := ⟨rfl, fun i x y h1 h2 => by
  rw [h1] at h2
  cases h2
  exact h x (List.mem_of_getElem? h1)⟩
theorem tyx_list {K : PySem.W.Frag} {H : Hp} {a : Addr} {xs : List V} (h : SqL K H a xs) : TyX K H (.ref a) (.type "list") := by
  rcases h with (h | ⟨o, h⟩) | ⟨o, its, n, h, c, _⟩
  · exact .base (.lst h)
  · exact .base (.frz h)
  · exact .kList h c
theorem tyx_tup {K : PySem.W.Frag} {H : Hp} {a : Addr} {xs : List V} (h : SqT K H a xs) : TyX K H (.ref a) (.type "tuple") := by
  rcases h with (h | ⟨o, h⟩) | ⟨o, its, n, h, c, _⟩
  · exact .base (.tup h)
  · exact .fTuple h
  · exact .kTuple h c
/-! ### written dicts, an instance called, enumerate -/
theorem op_notIn_kdE {X : Cx} {d : Addr} (D : ∃ (es : Array DictEntry) (n : Nat), KDict X.K X.w d es n) : OpR X (compareOp .NotIn) (fun x y H Q => ∃ (z : Str) (r : Option Value), x = .str z ∧ y = .ref d ∧ PySem.W.nsIn X.K d z = some r ∧ Q (.bl (!r.isSome)) H) := by
  obtain ⟨es, n, D⟩ := D
  exact op_notIn_kd D
theorem op_in_kdE {X : Cx} {d : Addr} (D : ∃ (es : Array DictEntry) (n : Nat), KDict X.K X.w d es n) : OpR X (compareOp .In) (fun x y H Q => ∃ (z : Str) (r : Option Value), x = .str z ∧ y = .ref d ∧ PySem.W.nsIn X.K d z = some r ∧ Q (.bl r.isSome) H) := by
  obtain ⟨es, n, D⟩ := D
  exact op_in_kd D
/-- x(e, ..), x an own instance -/
theorem pc_callO {X : Cx} {CX : CXT} {k j : Nat} {C : Addr} {sp : Sp} {E : XK} {fe e : Expr} {es : List Expr} {tf : TE} {t : TA} {pos : Pos} (c : Met CX X.prog X.w X.K X.mg X.base k C "__call__" sp) (hr : Room j X.A) (hk : k ≤ j) (hx : Passes CX X E) (hf : PE X fe tf) (ha : PA X (e :: es) t)
    (ht : eval (.Call fe (e :: es) [] pos) X.env = (do callWith pos (← eval fe X.env) [] (backTo pos (starEach (e :: es) X.env)) (backToKw pos (keywordEach [] X.env))) := by rfl)
    (he : starEach (e :: es) X.env = (false, eval e X.env) :: starEach es X.env := by rfl) (hpl : (backTo pos (starEach es X.env)).any (·.1) = false := by rfl) :
    PE X (.Call fe (e :: es) [] pos) (StX.tCallO X C (fun vs H Q E => sp (vs ++ []) H Q E) E tf t) := by
  obtain ⟨⟨f, fd, ps, hc, hm, F, b⟩, fi⟩ := c
  exact StX.pe_callO hf ⟨hm.at_, hm.fn, fi f hm.at_⟩ (F.raw b .nil) (hr.mono hk) hx ha ht he hpl
/-- for a, b in enumerate(list) -/
theorem for_enum {K : PySem.W.Frag} {a : Addr} {xs : List V} {g : TG} {tb : TS} {D : Ends} {σ : L2.St} {H : Hp} (Pv : Nat → L2.St → Hp → Prop) (h0 : Pv 0 σ H) (hl : ∀ i σ H, i ≤ xs.length → Pv i σ H → SqL K H a xs)
    (hs : ∀ i x σ H T, xs[i]? = some x → Pv i σ H → H T = none → g (.ref T) σ (upd H T (.tup [.int (i : Nat), x])) fun σ2 H2 => tb { D with nx := Pv (i + 1), ct := Pv (i + 1), bk := D.nx } σ2 H2) (hd : ∀ σ H, Pv xs.length σ H → D.nx σ H) :
    ∃ W : Nat → Nat → L2.St → Hp → Prop, (∃ m, W 0 m σ H) ∧ ∀ i m σ H, W i m σ H →
      ((Ite K a).stop i H ∧ D.nx σ H) ∨ ((Ite K a).go i H ∧ ∃ N : L2.St → Hp → Prop, (∀ σ' H', N σ' H' → ∃ m', m' < m ∧ W (i + 1) m' σ' H') ∧ ∀ x H', (Ite K a).yld i H x H' → g x σ H' fun σ2 H2 => tb { D with nx := N, ct := N, bk := D.nx } σ2 H2) := by
  refine ⟨fun i m σ H => m = xs.length - i ∧ i ≤ xs.length ∧ Pv i σ H, ⟨xs.length, by simp, Nat.zero_le _, h0⟩, ?_⟩
  rintro i m σ H ⟨rfl, hi, p⟩
  have q := hl i σ H hi p
  by_cases hlt : i < xs.length
  · refine .inr ⟨⟨xs, xs[i], q, by simp [hlt]⟩, Pv (i + 1), fun σ' H' p' => ⟨xs.length - (i + 1), by omega, rfl, hlt, p'⟩, fun x H' y => ?_⟩
    obtain ⟨T, z, e1, e2, e3, e4⟩ := y
    subst e1 e3
    exact hs i z σ H T (e4 xs q) p e2
  · have e : i = xs.length := by omega
    subst e
    exact .inl ⟨⟨xs, q, Nat.le_refl _⟩, hd σ H p⟩
theorem tyes {σ : L2.St} {H : Hp} {A B : Hp → Prop} (h : A H) : tYes σ H (fun b H3 => if b = true then A H3 else B H3) := by
  show (if true = true then A H else B H)
  rw [if_pos rfl]
  exact h
/-! ### enumerate(tuple) -/
theorem meets_enumerate_newT (l : Addr) (items : Array Value) (n : Nat) (dct : Option Addr) (sl : Array (Option Value)) :
    Meets (Builtin.«enumerate.__new__» ⟨[.type "enumerate", .ref l], []⟩) (fun _ R s => s.heap.get? l = some { cls := .type "tuple", dict := dct, data := .seq items n, slots := sl } ∧
      R (.ok (.ret (.ref (s.heap.push { cls := .type "tuple_iterator", data := .fields #[.ref l, .int 0 0] }).objs.size)))
        { s with heap := (s.heap.push { cls := .type "tuple_iterator", data := .fields #[.ref l, .int 0 0] }).push { cls := .type "enumerate", data := .fields #[.none, .bool false, .ref s.heap.objs.size, rawInt 0, .none, .none] } }) :=
  .of_wp fun prog w A R s h => by
    obtain ⟨hp, g, d, tk, os⟩ := s
    obtain ⟨hl, h⟩ := h
    have hsub := sub_enumerate
    have hL : Heap.IsTuple (Shared.heap ⟨hp, g, d, tk, os⟩) l items := ⟨_, hl, rfl, n, rfl⟩
    wp_walk using AutoSeq1.wpAny_loadPart' hl
    refine wpAny_stack_any fun st => wpAny_pure ?_
    split
    · rename_i c _ _ _ _ _
      cases (c == Value.type "enumerate")
      · wp_walk using AutoSeq1.wpAny_loadPart' hl, wpAny_pyIter_tuple hL
        exact ⟨_, rfl, h⟩
      · wp_walk using AutoSeq1.wpAny_loadPart' hl, wpAny_pyIter_tuple hL
        exact ⟨_, rfl, h⟩
    · wp_walk using AutoSeq1.wpAny_loadPart' hl, wpAny_pyIter_tuple hL
      exact ⟨_, rfl, h⟩
theorem call_enumerate_tuple {prog : Program} {w : World} {A : Around} {E : Value → Shared → Prop} {s : Shared} {l : Addr} {items : Array Value} {Q : Value → Shared → Prop} (hL : s.heap.IsTuple l items)
    (h : ∀ h', IsEnum h' (s.heap.objs.size + 1) s.heap.objs.size 0 .none → h'.IsTupleIter s.heap.objs.size l 0 → (∀ b o, s.heap.get? b = some o → h'.get? b = some o) → Q (.ref (s.heap.objs.size + 1)) { s with heap := h' }) :
    wpAny (model prog w) A (call (.type "enumerate") [.ref l]) Q E s := by
  obtain ⟨⟨c, dct, dt, sl⟩, hl, hc, n, hd⟩ := hL
  replace hc : c = .type "tuple" := hc
  replace hd : dt = .seq items n := hd
  subst hc hd
  refine callType_new F.called_enumerate (by decide) (F.typeCall_enumerate_1 _) (F.newCall_enumerate_1 _) (fun obj => F.args_object_init_2 obj _) F.entry_enumerate_new
    (meets_enumerate_newT l items n dct sl) ⟨hl, ?_⟩
  have hz : (s.heap.push { cls := .type "tuple_iterator", data := .fields #[.ref l, .int 0 0] }).objs.size = s.heap.objs.size + 1 := Heap.size_push ..
  show _ ∧ _
  rw [hz]
  have he : IsEnum ((s.heap.push { cls := .type "tuple_iterator", data := .fields #[.ref l, .int 0 0] }).push
      { cls := .type "enumerate", data := .fields #[.none, .bool false, .ref s.heap.objs.size, rawInt 0, .none, .none] }) (s.heap.objs.size + 1) s.heap.objs.size 0 .none := by
    have z := Heap.get?_push_size (s.heap.push { cls := .type "tuple_iterator", data := .fields #[.ref l, .int 0 0] })
      (o := { cls := .type "enumerate", data := .fields #[.none, .bool false, .ref s.heap.objs.size, rawInt 0, .none, .none] }) rfl
    rw [hz] at z
    exact z
  exact ⟨⟨_, he, rfl⟩, h _ he ⟨_, Heap.get?_push_of_some _ (Heap.get?_push_size _ rfl), rfl, rfl⟩ fun b o x => Heap.get?_push_of_some _ (Heap.get?_push_of_some _ x)⟩
theorem pyNext_enumT_end {prog : Program} {w : World} {A : Around} {E : Value → Shared → Prop} {s : Shared} {e it l : Addr} {i : Nat} {items : Array Value} {old : Value} {Q : Option Value → Shared → Prop} (hh : A.handled = none)
    (he : IsEnum s.heap e it i old) (hit : s.heap.IsTupleIter it l i) (hl : s.heap.IsTuple l items) (hx : items[i]? = none)
    (hQ : ∀ h', Heap.ExtBut it s.heap h' → Q none { s with heap := h' }) : wpAny (model prog w) A (pyNext (.ref e)) Q E s := by
  have hT : s.TypeIs (.ref e) "enumerate" := ⟨_, he, rfl⟩
  unfold pyNext
  refine wpAny_bind (wpAny_attempt (wpAny_callSpecial?_slot (name := Str.ofString "__next__") hT F.slot_enumerate_next
    (wpAny_call_entry F.slot_enumerate_next hT F.entry_enumerate_next ?_ (F.args_enumerate_next_1 _))))
  show wpAny _ _ (field (.ref e) 2 >>= _) _ _ _
  refine wpAny_bind (wpAny_field he rfl (x := .ref it) rfl ?_)
  refine wpAny_bind (wpAny_nextOf_tuple_end (A := A.in1) hh hit hl hx fun h' x he' hx' => ?_)
  obtain ⟨o, ho, hc⟩ := hx'
  refine wpAny_bind (wpAny_isInstance (T := "StopIteration") (b := true) ⟨o, ho, hc⟩ isSubtype_stop ?_)
  exact wpAny_pure (hQ _ he')
/-- the tuple at a, each item in a new pair -/
def Iett (K : PySem.W.Frag) (a : Addr) : It :=
  ⟨fun i H => ∃ (xs : List V) (x : V), SqT K H a xs ∧ xs[i]? = some x, fun i H v H' => ∃ T x, v = .ref T ∧ H T = none ∧ H' = upd H T (.tup [.int (i : Nat), x]) ∧ ∀ xs, SqT K H a xs → xs[i]? = some x, fun i H => ∃ xs : List V, SqT K H a xs ∧ xs.length ≤ i⟩
theorem turn_enumT {P : Program} {w : World} {K : PySem.W.Frag} {elts : List Expr} {kk : Nat} {tpos : Pos} (a e it : Addr) :
    Turn P w K (.Tuple elts kk tpos) (Iett K a) [e, it] e (fun i h => (∃ old, IsEnum h e it ((i : Nat) : Int) old) ∧ h.IsTupleIter it a i ∧ e ≠ it ∧ a ≠ it ∧ a ≠ e) where
  mem := by simp
  obj := fun i h st b hb => by
    obtain ⟨⟨old, he⟩, ⟨o, ho, hc, hd⟩, _⟩ := st
    have e' : b = e ∨ b = it := by simpa using hb
    rcases e' with z | z
    · rw [z]; exact ⟨_, he, fun v q => nomatch q⟩
    · rw [z]; exact ⟨o, ho, fun v q => by rw [hd] at q; cases q⟩
  keep := fun i h h' st k => let ⟨⟨old, he⟩, hi, hne⟩ := st; ⟨⟨old, k e (by simp) _ he⟩, hi.at fun o q => k it (by simp) o q, hne⟩
  item := by
    intro X hP hw hK hc i pins s σ H E I hf st hg
    subst hP hw hK
    obtain ⟨⟨old, he⟩, hit, hne, hae, hea⟩ := st
    obtain ⟨xs, x, hq, hx⟩ := hg
    obtain ⟨its, rv, p, hz⟩ := I.tuple hq
    obtain ⟨u, hu, ru⟩ := rv.get hx
    have p' : s.heap.IsTuple a its.toArray := p
    have hel : e < s.heap.objs.size := Heap.lt_size he
    have hil : it < s.heap.objs.size := by obtain ⟨_, q, _⟩ := hit; exact Heap.lt_size q
    have hii : i < its.toArray.size := by
      have := (List.getElem?_eq_some_iff.mp hu).1
      simpa using this
    have D := Draws.tuple (prog := X.prog) (w := X.w) (A := X.A.in1) (I.ok.hd hc) it a hae its.toArray
    refine PySem.wpAny_pyNext_enum_itemC D he ⟨hit, p'⟩ hii hne (by simp [Ne.symm hea, hne]) fun y h' tk hy ho hst' hT hsz hk => ?_
    have hyu : y = u := by
      have e1 : its.toArray[i]? = some y := hy
      rw [List.getElem?_toArray] at e1
      rw [hu] at e1
      exact (Option.some.inj e1).symm
    subst hyu
    refine ⟨_, rfl, wpAny_letOwnedTupleGo_enum (s := { s with heap := h', toks := tk + 1 }) ho fun h'' he' sb => ?_⟩
    have hT2 : h''.get? s.heap.objs.size = some { cls := .type "tuple", data := .seq #[.int i tk, y] } := (sb.2 _ (Nat.ne_of_gt hel)).trans hT
    have new : ObjOk X.prog X.w (upd H s.heap.objs.size (.tup [.int (i : Nat), x])) h'' s.heap.objs.size (.tup [.int (i : Nat), x]) :=
      ⟨by show 2 ≤ sizeLine; decide, [.int i tk, y], .cons ⟨_, rfl⟩ (.cons ru .nil), ⟨_, hT2, rfl, _, rfl⟩⟩
    have I1 : Inv X pins σ (upd H s.heap.objs.size (.tup [.int (i : Nat), x])) { s with heap := h'', toks := tk + 1 } :=
      I.turnedNew (ch := [e, it]) (fun b ob hb q => (sb.2 b (fun z => hb (by simp [z]))).trans (hk b ob (fun z => hb (by simp [z])) (fun z => hb (by simp [z])) q)) hf (Nat.le_refl _) new
    refine ⟨.ref s.heap.objs.size, _, I1, rfl, ⟨_, x, rfl, I.hok.fresh (Nat.le_refl _), rfl, fun ys hy => by rw [I.tuple_inj hy hq]; exact hx⟩, ⟨⟨y, ?_⟩, hst'.1.at fun o q => (sb.2 it (Ne.symm hne)).trans q, hne, hae, hea⟩, fun b hb => ?_⟩
    · have e1 : ((i + 1 : Nat) : Int) = (i : Int) + 1 := by omega
      rw [e1]; exact he'
    · have hb' : b < s.heap.objs.size := by
        have e' : b = e ∨ b = it := by simpa using hb
        rcases e' with z | z
        · rw [z]; exact hel
        · rw [z]; exact hil
      rw [upd_ne (Nat.ne_of_lt hb')]
      exact (hf b hb).1
  done := by
    intro X hP hw hK hc i pins s σ H E I hf st hg
    subst hP hw hK
    obtain ⟨⟨old, he⟩, hit, hne, hae, hea⟩ := st
    obtain ⟨xs, hq, hx⟩ := hg
    obtain ⟨its, rv, p, hz⟩ := I.tuple hq
    obtain ⟨f0, f1, f2, f3, f4, f5⟩ := hf it (by simp)
    have hl := rv.length
    have p' : s.heap.IsTuple a its.toArray := p
    exact pyNext_enumT_end (I.ok.hd hc) he hit p' (by simp; omega) fun h' eb => ⟨rfl, I.turned (t' := s.toks) (fun b o hb q => eb b o hb q) f0 f1 f3 f4 f5⟩
  self := fun A i s Q E st h => let ⟨⟨_, he⟩, _⟩ := st; wpAny_pyIter_enum he h
/-- what stands at a: a list or a tuple -/
def SqB (K : PySem.W.Frag) (b : Bool) (H : Hp) (a : Addr) (xs : List V) : Prop := if b then SqT K H a xs else SqL K H a xs
def ItB (K : PySem.W.Frag) (b : Bool) (a : Addr) : It := if b then Iett K a else Ite K a
/-- enumerate over a list or a tuple -/
def iEnumS (K : PySem.W.Frag) (ta : TA) : TI := fun σ H R => ta σ H fun vs H1 => ∃ a xs b, vs = [.ref a] ∧ SqB K b H1 a xs ∧ R (ItB K b a) H1
theorem pi_enumS {X : Cx} {e : Expr} {ta : TA} {p pos tpos : Pos} {elts : List Expr} {kk : Nat} (hg : Gl X "enumerate") (hm : X.mg "enumerate" = none) (ha : PA X [e] ta) (hs : starEach [e] X.env = [(false, eval e X.env)] := by rfl) :
    PI X (.Tuple elts kk tpos) (.Call (.Name "enumerate" p) [e] [] pos) (iEnumS X.K ta) := by
  refine ⟨fun pins s σ H R I h => ?_⟩
  refine Call_ (ld_blt I hg hm boot_enumerate (PyProof.Rows.callWith_type1 (thn (ha.run pos pins s σ H _ I h) fun us s1 ⟨vs, H1, I1, r1, q1⟩ => ?_) hs rfl))
  obtain ⟨a, xs, bb, ex, hq, q⟩ := q1
  subst ex
  cases r1 with
  | cons r rr =>
    cases rr
    cases r
    cases bb
    · obtain ⟨its, rv, p', hz⟩ := I1.list hq
      refine call_enumerate_list p'.isList fun h' he hit hsz hk => wpAny_pyIter_enum he ?_
      have I2 : Inv X pins σ H1 { s1 with heap := h' } := I1.kept (t' := s1.toks) hk
      refine ⟨s1.heap.objs.size + 1, [s1.heap.objs.size + 1, s1.heap.objs.size], _, _, H1, rfl, I2, turn_enum a (s1.heap.objs.size + 1) s1.heap.objs.size, ⟨⟨.none, he⟩, hit, Nat.succ_ne_self _⟩, fun b hb => ?_, q⟩
      have e' : b = s1.heap.objs.size + 1 ∨ b = s1.heap.objs.size := by simpa using hb
      have hle : s1.heap.objs.size ≤ b := by
        rcases e' with z | z
        · rw [z]; exact Nat.le_add_right _ _
        · rw [z]; exact Nat.le_refl _
      exact I1.fpOk hle (I1.hok.fresh hle)
    · obtain ⟨its, rv, p', hz⟩ := I1.tuple hq
      have hL : s1.heap.IsTuple a its.toArray := p'
      have hlt : a < s1.heap.objs.size := by obtain ⟨_, q0, _⟩ := hL; exact Heap.lt_size q0
      refine call_enumerate_tuple hL fun h' he hit hk => wpAny_pyIter_enum he ?_
      have I2 : Inv X pins σ H1 { s1 with heap := h' } := I1.kept (t' := s1.toks) hk
      refine ⟨s1.heap.objs.size + 1, [s1.heap.objs.size + 1, s1.heap.objs.size], _, _, H1, rfl, I2, turn_enumT a (s1.heap.objs.size + 1) s1.heap.objs.size, ⟨⟨.none, he⟩, hit, Nat.succ_ne_self _, Nat.ne_of_lt hlt, Nat.ne_of_lt (Nat.lt_succ_of_lt hlt)⟩, fun b hb => ?_, q⟩
      have e' : b = s1.heap.objs.size + 1 ∨ b = s1.heap.objs.size := by simpa using hb
      have hle : s1.heap.objs.size ≤ b := by
        rcases e' with z | z
        · rw [z]; exact Nat.le_add_right _ _
        · rw [z]; exact Nat.le_refl _
      exact I1.fpOk hle (I1.hok.fresh hle)
/-- the turns of enumerate over a list or a tuple: Sq is how the items stand there -/
theorem for_enumI {K : PySem.W.Frag} {I : It} {Sq : Hp → Prop} {xs : List V} {g : TG} {tb : TS} {D : Ends} {σ : L2.St} {H : Hp} (Pv : Nat → L2.St → Hp → Prop) (h0 : Pv 0 σ H) (hl : ∀ i σ H, i ≤ xs.length → Pv i σ H → Sq H)
    (hgo : ∀ H i x, Sq H → xs[i]? = some x → I.go i H) (hy : ∀ H i x H', Sq H → I.yld i H x H' → ∃ T z, x = .ref T ∧ H T = none ∧ H' = upd H T (.tup [.int (i : Nat), z]) ∧ xs[i]? = some z) (hst : ∀ H, Sq H → I.stop xs.length H)
    (hs : ∀ i x σ H T, xs[i]? = some x → Pv i σ H → H T = none → g (.ref T) σ (upd H T (.tup [.int (i : Nat), x])) fun σ2 H2 => tb { D with nx := Pv (i + 1), ct := Pv (i + 1), bk := D.nx } σ2 H2) (hd : ∀ σ H, Pv xs.length σ H → D.nx σ H) :
    ∃ W : Nat → Nat → L2.St → Hp → Prop, (∃ m, W 0 m σ H) ∧ ∀ i m σ H, W i m σ H →
      (I.stop i H ∧ D.nx σ H) ∨ (I.go i H ∧ ∃ N : L2.St → Hp → Prop, (∀ σ' H', N σ' H' → ∃ m', m' < m ∧ W (i + 1) m' σ' H') ∧ ∀ x H', I.yld i H x H' → g x σ H' fun σ2 H2 => tb { D with nx := N, ct := N, bk := D.nx } σ2 H2) := by
  refine ⟨fun i m σ H => m = xs.length - i ∧ i ≤ xs.length ∧ Pv i σ H, ⟨xs.length, by simp, Nat.zero_le _, h0⟩, ?_⟩
  rintro i m σ H ⟨rfl, hi, p⟩
  have q := hl i σ H hi p
  by_cases hlt : i < xs.length
  · refine .inr ⟨hgo H i xs[i] q (by simp [hlt]), Pv (i + 1), fun σ' H' p' => ⟨xs.length - (i + 1), by omega, rfl, hlt, p'⟩, fun x H' y => ?_⟩
    obtain ⟨T, z, e1, e2, e3, e4⟩ := hy _ _ _ _ q y
    subst e1 e3
    exact hs i z σ H T e4 p e2
  · have e : i = xs.length := by omega
    subst e
    exact .inl ⟨hst H q, hd σ H p⟩
theorem for_enumB {K : PySem.W.Frag} {bb : Bool} {a : Addr} {xs : List V} {g : TG} {tb : TS} {D : Ends} {σ : L2.St} {H : Hp} (Pv : Nat → L2.St → Hp → Prop) (h0 : Pv 0 σ H) (hl : ∀ i σ H, i ≤ xs.length → Pv i σ H → SqB K bb H a xs)
    (hs : ∀ i x σ H T, xs[i]? = some x → Pv i σ H → H T = none → g (.ref T) σ (upd H T (.tup [.int (i : Nat), x])) fun σ2 H2 => tb { D with nx := Pv (i + 1), ct := Pv (i + 1), bk := D.nx } σ2 H2) (hd : ∀ σ H, Pv xs.length σ H → D.nx σ H) :
    ∃ W : Nat → Nat → L2.St → Hp → Prop, (∃ m, W 0 m σ H) ∧ ∀ i m σ H, W i m σ H →
      ((ItB K bb a).stop i H ∧ D.nx σ H) ∨ ((ItB K bb a).go i H ∧ ∃ N : L2.St → Hp → Prop, (∀ σ' H', N σ' H' → ∃ m', m' < m ∧ W (i + 1) m' σ' H') ∧ ∀ x H', (ItB K bb a).yld i H x H' → g x σ H' fun σ2 H2 => tb { D with nx := N, ct := N, bk := D.nx } σ2 H2) := by
  refine for_enumI (K := K) (I := ItB K bb a) (Sq := fun H => SqB K bb H a xs) Pv h0 hl ?_ ?_ ?_ hs hd
  · cases bb
    · exact fun H i x q e => ⟨xs, x, q, e⟩
    · exact fun H i x q e => ⟨xs, x, q, e⟩
  · cases bb
    · rintro H i x H' q ⟨T, z, e1, e2, e3, e4⟩
      exact ⟨T, z, e1, e2, e3, e4 xs q⟩
    · rintro H i x H' q ⟨T, z, e1, e2, e3, e4⟩
      exact ⟨T, z, e1, e2, e3, e4 xs q⟩
  · cases bb
    · exact fun H q => ⟨xs, q, Nat.le_refl _⟩
    · exact fun H q => ⟨xs, q, Nat.le_refl _⟩
/-! ### a list or a tuple, walked -/
def ItS (K : PySem.W.Frag) (b : Bool) (a : Addr) : It := if b then Itt K a else Itl K a
def iSeqB (K : PySem.W.Frag) (te : TE) : TI := fun σ H R => te σ H fun x H1 => ∃ a xs b, x = .ref a ∧ SqB K b H1 a xs ∧ R (ItS K b a) H1
theorem pi_seqB {X : Cx} {tg l : Expr} {tl : TE} (hl : PE X l tl) : PI X tg l (iSeqB X.K tl) := by
  refine ⟨fun pins s σ H R I h => ?_⟩
  refine thn (hl.run pins s σ H _ I h) fun v s1 ⟨x, H1, I1, r1, q1⟩ => ?_
  obtain ⟨a, xs, b, e, hq, q⟩ := q1
  subst e
  cases r1
  cases b
  · obtain ⟨its, rv, p, hz⟩ := I1.list hq
    refine wpAny_pyIter_list p.isList ?_
    refine ⟨s1.heap.objs.size, [s1.heap.objs.size], _, _, H1, rfl, I1.kept (t' := s1.toks) fun b o e => Heap.get?_push_of_some _ e, turn_list a _, ⟨_, Heap.get?_push_size _ rfl, rfl, rfl⟩, fun b hb => ?_, q⟩
    have e : b = s1.heap.objs.size := by simpa using hb
    subst e
    exact I1.fpOk (Nat.le_refl _) (I1.hok.fresh (Nat.le_refl _))
  · obtain ⟨its, rv, p, hz⟩ := I1.tuple hq
    refine wpAny_pyIter_tuple (show s1.heap.IsTuple a its.toArray from p) ?_
    refine ⟨s1.heap.objs.size, [s1.heap.objs.size], _, _, H1, rfl, I1.kept (t' := s1.toks) fun b o e => Heap.get?_push_of_some _ e, turn_tuple a _, ⟨_, Heap.get?_push_size _ rfl, rfl, rfl⟩, fun b hb => ?_, q⟩
    have e : b = s1.heap.objs.size := by simpa using hb
    subst e
    exact I1.fpOk (Nat.le_refl _) (I1.hok.fresh (Nat.le_refl _))
theorem pi_seqBK {X : Cx} {K : PySem.W.Frag} {tg l : Expr} {tl : TE} (hK : X.K = K) (hl : PE X l tl) : PI X tg l (iSeqB K tl) := by
  subst hK
  exact pi_seqB hl
theorem lc_seqB {K : PySem.W.Frag} {bb : Bool} {a : Addr} {xs : List V} {g : TG} {tt : TT} {te : TE} {vs : List Nat} {σ : L2.St} {H1 : Hp} {D : Addr} {Qd : Hp → Prop} (Pv : Nat → Hp → Prop) (h0 : Pv 0 (upd H1 D (.lst []))) (hl : ∀ i H, i ≤ xs.length → Pv i H → SqB K bb H a xs)
    (hs : ∀ i x H, xs[i]? = some x → Pv i H → g x (wipe σ vs) H fun σ2 H2 => wipe σ2 vs = wipe σ vs ∧ tt σ2 H2 fun b H3 =>
      if b = true then te σ2 H3 fun y H4 => ∃ acc, H4 D = some (.lst acc) ∧ acc.length < sizeLine ∧ Pv (i + 1) (upd H4 D (.lst (acc ++ [y]))) else Pv (i + 1) H3) (hd : ∀ H, Pv xs.length H → Qd H) :
    ∃ W : Nat → Nat → Hp → Prop, (∃ m, W 0 m (upd H1 D (.lst []))) ∧ ∀ i m H, W i m H →
      ((ItS K bb a).stop i H ∧ Qd H) ∨ ((ItS K bb a).go i H ∧ ∃ Nx : Hp → Prop, (∀ H', Nx H' → ∃ m', m' < m ∧ W (i + 1) m' H') ∧ ∀ x H', (ItS K bb a).yld i H x H' → g x (wipe σ vs) H' fun σ2 H2 => wipe σ2 vs = wipe σ vs ∧ tt σ2 H2 fun b H3 =>
        if b = true then te σ2 H3 fun y H4 => ∃ acc, H4 D = some (.lst acc) ∧ acc.length < sizeLine ∧ Nx (upd H4 D (.lst (acc ++ [y]))) else Nx H3) := by
  cases bb
  · exact lc_list (K := K) (a := a) (xs := xs) Pv h0 hl hs hd
  · exact lc_tup (K := K) (a := a) (xs := xs) Pv h0 hl hs hd
theorem for_seqB {K : PySem.W.Frag} {bb : Bool} {a : Addr} {xs : List V} {g : TG} {tb : TS} {D : Ends} {σ : L2.St} {H : Hp} (Pv : Nat → L2.St → Hp → Prop) (h0 : Pv 0 σ H) (hl : ∀ i σ H, i ≤ xs.length → Pv i σ H → SqB K bb H a xs)
    (hs : ∀ i x σ H, xs[i]? = some x → Pv i σ H → g x σ H fun σ2 H2 => tb { D with nx := Pv (i + 1), ct := Pv (i + 1), bk := D.nx } σ2 H2) (hd : ∀ σ H, Pv xs.length σ H → D.nx σ H) :
    ∃ W : Nat → Nat → L2.St → Hp → Prop, (∃ m, W 0 m σ H) ∧ ∀ i m σ H, W i m σ H →
      ((ItS K bb a).stop i H ∧ D.nx σ H) ∨ ((ItS K bb a).go i H ∧ ∃ N : L2.St → Hp → Prop, (∀ σ' H', N σ' H' → ∃ m', m' < m ∧ W (i + 1) m' σ' H') ∧ ∀ x H', (ItS K bb a).yld i H x H' → g x σ H' fun σ2 H2 => tb { D with nx := N, ct := N, bk := D.nx } σ2 H2) := by
  cases bb
  · exact for_list (K := K) (a := a) (xs := xs) Pv h0 hl hs hd
  · exact for_tup (K := K) (a := a) (xs := xs) Pv h0 hl hs hd
/-! ### len(o), iter(tuple), list(o): an own class with __len__ and an __iter__ that answers iter(a tuple) -/
theorem take_snocG {α : Type} {l : List α} {i : Nat} {x : α} (h : l[i]? = some x) : l.take i ++ [x] = l.take (i + 1) := by
  rw [List.take_add_one, h]
  rfl
/-- a tuple iterator at it: over the tuple at t, i items are drawn; itA: in any state -/
def itO (it t : Addr) (i : Nat) : HO := .ext fun h => h.IsTupleIter it t i
def itA (it : Addr) : HO := .ext fun h => ∃ o, h.get? it = some o ∧ o.cls = .type "tuple_iterator"
theorem itO_ok {P : Program} {w : World} {H : Hp} {h : Heap} {it t : Addr} {i : Nat} (he : h.IsTupleIter it t i) : ObjOk P w H h it (itO it t i) :=
  ⟨he, let ⟨o, e, _⟩ := he; ⟨o, e⟩, fun h1 h2 z k => let ⟨o, e, r⟩ := z; ⟨o, k _ e, r⟩⟩
theorem itA_ok {P : Program} {w : World} {H : Hp} {h : Heap} {it : Addr} (he : ∃ o, h.get? it = some o ∧ o.cls = .type "tuple_iterator") : ObjOk P w H h it (itA it) :=
  ⟨he, let ⟨o, e, _⟩ := he; ⟨o, e⟩, fun h1 h2 z k => let ⟨o, e, r⟩ := z; ⟨o, k _ e, r⟩⟩
theorem itO_get {P : Program} {w : World} {H : Hp} {h : Heap} {it t : Addr} {i : Nat} (hok : HOk P w H h) (he : H it = some (itO it t i)) : h.IsTupleIter it t i := by
  have x : ObjOk P w H h it (.ext fun h => h.IsTupleIter it t i) := hok it _ he
  exact x.1
theorem call_iterT {X : Cx} : CallR X (.builtin "iter") (fun xs H Q => ∃ (a : Addr) (ys : List V), xs = [.ref a] ∧ SqT X.K H a ys ∧ ∀ it, H it = none → Q (.ref it) (upd H it (itO it a 0))) := by
  intro pins s σ H xs us Q I r h
  obtain ⟨a, ys, rfl, hq, q⟩ := h
  obtain ⟨u, rfl, ru⟩ := vals1 r
  cases (show u = Value.ref a from ru)
  obtain ⟨its, rv, p, hz⟩ := I.tuple hq
  have hL : s.heap.IsTuple a its.toArray := p
  refine Calls.call_function_entry (by decide +kernel) (by decide +kernel) PySem.W.kdk_entry_iter (PySem.W.kdk_args_iter _) ?_
  unfold Builtin.«iter»
  refine wpAny_bind (m := someArgs "iter" 1 2 _) (wpAny_of_eq (a := [Value.ref a]) (by first | rfl | kernel_rfl!) ?_)
  show wpAny _ _ (pyIter (.ref a) >>= _) _ _ _
  refine wpAny_bind (wpAny_pyIter_tuple hL ?_)
  exact wpAny_pure ⟨_, rfl, .ref s.heap.objs.size, _, I.laid (t' := s.toks) (fun b u e => Heap.get?_push_of_some _ e) (Nat.le_refl _) (itO_ok ⟨_, Heap.get?_push_size _ rfl, rfl, rfl⟩), rfl, q _ (I.hok.fresh (Nat.le_refl _))⟩
def rLenO (C : Addr) (sp : Sp) (E : XK) : List V → Hp → VK → Prop := fun xs H Q => ∃ (a dx : Addr) (fs : List (Str × V)), xs = [.ref a] ∧ H a = some (.ins C dx fs) ∧ sp [.ref a] H (fun v H' => ∃ n : Nat, v = .int n ∧ (n : Int) < 2 ^ 63 ∧ Q (.int n) H') E
/-- an own method that raises nothing, called at any depth -/
theorem met_run0 {X : Cx} {A : Around} {k j : Nat} {C : Addr} {m : Str} {sp : Sp} {E : XK} (c : Met CX0 X.prog X.w X.K X.mg X.base k C m sp) (hr : Room j A) (hk : k ≤ j)
    (hA : ∀ (s : Shared) (H : Hp), Env0 X.prog X.w X.K X.mg X.base X.A X.stack s H → Env0 X.prog X.w X.K X.mg X.base A X.stack s H) :
    ∃ f : Addr, PySem.W.findIn X.K (.ref C) m = some (some (.ref f)) ∧ PySem.W.isFn X.K (.ref f) = true ∧ PySem.W.keepIn X.K (.ref f) = true ∧
      ∀ (pins : List (Addr × Obj)) (s : Shared) (σ : L2.St) (H : Hp) (us : List Value) (vs : List V) (Q : VK) (EE : Value → Shared → Prop), Inv X pins σ H s → Vals vs us → sp vs H Q E → wpAny (model X.prog X.w) A (call (.ref f) us) (EP X pins σ Q) EE s := by
  obtain ⟨f, fd, ps, hc, hm, F, b⟩ := c.ex
  refine ⟨f, hm.at_, hm.fn, hm.kp, fun pins s σ H us vs Q EE I r h => ?_⟩
  have hl : us.length = ps.length := by rw [← r.length]; exact F.len _ _ _ _ h
  have hb := b s us I.kIn (by rw [List.append_nil]; exact hl)
  rw [List.append_nil] at hb
  refine wpAny_call (codeAny_mono (F.run A X.stack s H ⟨us, []⟩ us vs Q E (hr.mono hk) (hA _ _ I.env0) hb r h) fun r s' hq => ?_)
  match r with
  | .error e => exact False.elim hq
  | .ok (.ret u) => exact I.after hq
  | .ok .next => exact False.elim hq
  | .ok .brk => exact False.elim hq
  | .ok .cont => exact False.elim hq
abbrev EnvA (X : Cx) (A : Around) : Prop := ∀ (s : Shared) (H : Hp), Env0 X.prog X.w X.K X.mg X.base X.A X.stack s H → Env0 X.prog X.w X.K X.mg X.base A X.stack s H
/-- len(o) as a built-in's call, at any depth -/
theorem len_at {X : Cx} {A : Around} {k j : Nat} {C : Addr} {sp : Sp} {E : XK} (c : Met CX0 X.prog X.w X.K X.mg X.base k C "__len__" sp) (hr : Room j A.in1) (hk : k ≤ j) (hA : EnvA X A.in1)
    {pins : List (Addr × Obj)} {s : Shared} {σ : L2.St} {H : Hp} {a dx : Addr} {fs : List (Str × V)} {Q : VK} {EE : Value → Shared → Prop} (I : Inv X pins σ H s) (ha : H a = some (.ins C dx fs)) (hs : sp [.ref a] H (fun v H' => ∃ n : Nat, v = .int n ∧ (n : Int) < 2 ^ 63 ∧ Q (.int n) H') E) :
    wpAny (model X.prog X.w) A (call (.builtin "len") [.ref a]) (EP X pins σ Q) EE s := by
  obtain ⟨f, hf, fn, kp, run⟩ := met_run0 c hr hk hA
  obtain ⟨ox, od, J, _⟩ := inst_of I ha
  have h1 := run pins s σ H [.ref a] [.ref a] _ EE I (.cons rfl .nil) hs
  refine PySem.Calls.call_function_entry PySem.kind_len PySem.plain_len PySem.entry_len (PySem.args_len1 _) ?_
  unfold Builtin.«len»
  refine wpAny_bind (m := oneArg "len" _) (wpAny_pure ?_)
  refine wpAny_bind (m := callSpecial? (.ref a) (Str.ofString "__len__")) (PySem.W.special_fn I.kIn J hf (beq_iff_eq.mp fn) (wpAny_mono h1 (fun v s' hv => ?_) fun _ _ z => z))
  obtain ⟨x, H', I', rv, n, rfl, hn, q⟩ := hv
  obtain ⟨t, rfl⟩ := rv
  have h0 : ¬ ((n : Int) < 0) := by omega
  have h1 : ¬ ((n : Int) ≥ 2 ^ 63) := by omega
  wp_walk
  rw [if_neg h1]
  wp_walk
  exact ⟨_, rfl, .int n, H', I'.tok _, ⟨_, rfl⟩, q⟩
theorem call_lenO {X : Cx} {k j : Nat} {C : Addr} {sp : Sp} {E : XK} (c : Met CX0 X.prog X.w X.K X.mg X.base k C "__len__" sp) (hr : Room j X.A) (hk : k + 1 ≤ j) : CallR X (.builtin "len") (rLenO C sp E) := by
  intro pins s σ H xs us Q I r h
  obtain ⟨a, dx, fs, rfl, ha, hs⟩ := h
  obtain ⟨u, rfl, ru⟩ := vals1 r
  cases (show u = Value.ref a from ru)
  exact len_at c (hr.mono hk).in1 (Nat.le_refl _) (fun _ _ z => z.in1) I ha hs
/-- list(o)'s guess of the length: o's own __len__ -/
theorem hint_at {X : Cx} {A : Around} {k j : Nat} {C : Addr} {sp : Sp} {E : XK} (c : Met CX0 X.prog X.w X.K X.mg X.base k C "__len__" sp) (hr : Room j A.in1) (hk : k ≤ j) (hA : EnvA X A.in1)
    {pins : List (Addr × Obj)} {s : Shared} {σ : L2.St} {H : Hp} {a dx : Addr} {fs : List (Str × V)} {Q : Hp → Prop} {EE : Value → Shared → Prop} (I : Inv X pins σ H s) (ha : H a = some (.ins C dx fs))
    (hs : sp [.ref a] H (fun v H' => ∃ n : Nat, v = .int n ∧ (n : Int) < 2 ^ 63 ∧ ∃ m : Nat, V.int n = .int (m : Nat) ∧ m ≤ 100000 ∧ Q H') E) :
    wpAny (model X.prog X.w) A (Builtin.List.listLengthHint (.ref a)) (fun _ s' => ∃ H', Inv X pins σ H' s' ∧ Q H') EE s := by
  obtain ⟨ox, od, J, _⟩ := inst_of I ha
  obtain ⟨f, hf, fn, kp, run⟩ := met_run0 (E := E) c hr hk hA
  have h1 := len_at c hr hk hA (Q := fun v H' => ∃ m : Nat, v = .int (m : Nat) ∧ m ≤ 100000 ∧ Q H') (EE := fun _ _ => False) I ha hs
  unfold Builtin.List.listLengthHint
  refine wpAny_bind (wpAny_bind (J.type.here ((PySem.W.looks_findIn I.kIn hf).here ?_)))
  refine PySem.W.KFB.if_not rfl ?_
  refine PySem.W.KFB.if_so rfl ?_
  refine wpAny_bind (wpAny_rule (wpAny_bind (wpAny_attempt (wpAny_mono h1 (fun v s' hv => ?_) fun _ _ z => z.elim))))
  obtain ⟨x, H', I', rv, m, rfl, hm, q⟩ := hv
  obtain ⟨t, rfl⟩ := rv
  have h2 : Builtin.List.listTooLong ((m : Int).toNat) = false := by
    show decide ((m : Int).toNat > sizeLine) = false
    rw [decide_eq_false_iff_not, Int.toNat_natCast, sizeLine_eq]
    omega
  refine wpAny_bind (wpAny_pure ?_)
  refine PySem.W.KFB.if_not (by rw [h2]) ?_
  exact wpAny_pure ⟨H', I', q⟩
section
variable {prog : Program} {w : World} {A : Around} {E : Value → Shared → Prop} {s : Shared}
/-- a tuple iterator that has drawn all: it is still there -/
theorem next_over {it t : Addr} {i : Nat} {items : Array Value} {Q : Option Value → Shared → Prop} (hh : A.handled = none) (hit : s.heap.IsTupleIter it t i) (ht : s.heap.IsTuple t items) (hx : items[i]? = none)
    (hQ : ∀ h', Heap.ExtBut it s.heap h' → (∃ o, h'.get? it = some o ∧ o.cls = .type "tuple_iterator") → Q none { s with heap := h' }) : wpAny (model prog w) A (pyNext (.ref it)) Q E s := by
  obtain ⟨ob, hob, hcl, hda⟩ := id hit
  obtain ⟨ol, hol, _, nl, hdl⟩ := ht
  have there : ∀ (f : Array Value → Array Value) (x y : Obj), ∃ o, (((s.heap.update it (Obj.mapFields f)).push x).push y).get? it = some o ∧ o.cls = .type "tuple_iterator" := fun f x y =>
    ⟨_, Heap.get?_push_of_some _ (Heap.get?_push_of_some _ (Heap.get?_update_self _ hob (Obj.isFreed_of_fields (Obj.data_mapFields hda _)))), (Obj.cls_mapFields ..).trans hcl⟩
  unfold pyNext
  refine wpAny_bind (wpAny_attempt (wpAny_callSpecial?_slot (name := Str.ofString "__next__") hit.typeIs F.slot_tuple_iterator_next
    (wpAny_call_entry F.slot_tuple_iterator_next hit.typeIs F.entry_tuple_iterator_next ?_ (F.args_tuple_iterator_next_1 _))))
  show wpAny _ _ (field (.ref it) 0 >>= _) _ _ s
  refine wpAny_bind (wpAny_field hob hda (x := .ref t) rfl ?_)
  show wpAny _ _ (if (Value.ref t == Value.none) = true then _ else _) _ _ s
  rw [if_neg (show ¬ ((Value.ref t == Value.none) = true) from Bool.false_ne_true)]
  show wpAny _ _ (field (.ref it) 1 >>= _) _ _ s
  refine wpAny_bind (wpAny_field hob hda (x := .int i 0) rfl ?_)
  show wpAny _ _ (seqItems? (.ref t) >>= _) _ _ s
  refine wpAny_bind (wpAny_seqItems hol hdl ?_)
  simp only [Int.toNat_natCast, hx]
  refine wpAny_bind (wpAny_rule (wpAny_bind (wpAny_setField hob hda (by simp) ?_)))
  show wpAny _ _ (newExc (.type "StopIteration") [] >>= _) _ _ _
  refine wpAny_bind ?_
  simp only [newExc, newTuple]
  refine wpAny_bind (wpAny_newObj_type ?_ (by size_fits))
  refine wpAny_bind (m := firstArgMember _ _) (wpAny_of_eq (a := Value.none) (by first | rfl | (simp only [firstArgMember]; rfl)) ?_)
  refine wpAny_newObj_type ?_ (by size_fits)
  simp only [raiseNew]
  refine wpAny_bind (wpAny_handled ?_)
  first | rw [show A.in1.handled = none from hh] | rw [hh]
  refine wpAny_bind (wpAny_pure (wpAny_throw ?_))
  refine wpAny_bind (wpAny_isInstance (T := "StopIteration") (b := true) ⟨_, Heap.get?_push_size _ rfl, rfl⟩ isSubtype_stop ?_)
  exact wpAny_pure (hQ _ (((Heap.SameBut.update ..).extBut.push _).push _) (there ..))
end
/-- the loop that fills the list at q from the iterator at it over the tuple at t -/
theorem it_loop {X : Cx} {A1 : Around} (hh : A1.handled = none) {pins : List (Addr × Obj)} {σ : L2.St} {q it t : Addr} {ys : List V} {R : Result → Shared → Prop} {H0 : Hp} (nqi : q ≠ it)
    (hdone : ∀ H s, Inv X pins σ H s → (∀ b, b ≠ it → b ≠ q → H b = H0 b) → H q = some (.lst ys) → R (.ok (.ret .none)) s) (ht : SqT X.K H0 t ys) (hit0 : H0 it = some (itO it t 0)) (hq0 : H0 q = some (.lst [])) :
    ∀ (k i : Nat) (H : Hp) (s : Shared), ys.length - i = k → i ≤ ys.length → Inv X pins σ H s → (∀ b, b ≠ it → b ≠ q → H b = H0 b) → H it = some (itO it t i) → H q = some (.lst (ys.take i)) →
      codeAny (model X.prog X.w) A1 (.builtin "list.extend.loop" ⟨[.ref q, .ref it, .none], []⟩) R s := by
  have nt : ∀ {H : Hp}, (∀ b, b ≠ it → b ≠ q → H b = H0 b) → SqT X.K H t ys := fun {H} hb => by
    rcases ht with (h | ⟨o, h⟩) | h
    · exact .inl (.inl ((hb t (fun w => by rw [w, hit0] at h; cases h) (fun w => by rw [w, hq0] at h; cases h)).trans h))
    · exact .inl (.inr ⟨o, (hb t (fun w => by rw [w, hit0] at h; cases h) (fun w => by rw [w, hq0] at h; cases h)).trans h⟩)
    · exact .inr h
  intro k
  induction k with
  | zero =>
    intro i H s hk hi I hb hit hq
    have e : i = ys.length := by omega
    subst e
    obtain ⟨its, rv, p, hz⟩ := I.tuple (nt hb)
    have hL : s.heap.IsTuple t its.toArray := p
    have hlen := rv.length
    refine codeAny_builtin PySem.F.entry_extend_loop ?_
    rw [Around.under_plainId PySem.F.plain_extend_loop _]
    show wpAny _ A1.in1 (pyNext (.ref it) >>= _) _ _ s
    refine wpAny_bind (next_over (A := A1.in1) hh (itO_get I.hok hit) hL (by simp; omega) fun h' eb ho => ?_)
    have J := I.write (t' := s.toks) (x := it) (e := it) (o := itA it) (by rw [hit]; exact True.intro) (.inl rfl) (fun b u nb z => eb b u nb z) (let ⟨o, e, _⟩ := ho; ⟨o, e⟩) (itA_ok ho)
    refine wpAny_pure (hdone _ _ J (fun b n1 n2 => by rw [upd_ne n1]; exact hb b n1 n2) ?_)
    rw [upd_ne nqi, hq, List.take_length]
  | succ k ih =>
    intro i H s hk hi I hb hit hq
    have hlt : i < ys.length := by omega
    obtain ⟨its, rv, p, hz⟩ := I.tuple (nt hb)
    have hL : s.heap.IsTuple t its.toArray := p
    have hlen := rv.length
    obtain ⟨u, hu, ru⟩ := rv.get (List.getElem?_eq_getElem hlt)
    refine codeAny_builtin PySem.F.entry_extend_loop ?_
    rw [Around.under_plainId PySem.F.plain_extend_loop _]
    show wpAny _ A1.in1 (pyNext (.ref it) >>= _) _ _ s
    refine wpAny_bind (wpAny_pyNext_tuple_item (itO_get I.hok hit) hL (x := u) (by simpa using hu) fun h' hit' hs' => ?_)
    have J := I.write (t' := s.toks) (x := it) (e := it) (o := itO it t (i + 1)) (by rw [hit]; exact True.intro) (.inl rfl) (fun b v nb z => (hs'.2 b nb).trans z) (let ⟨o, e, _⟩ := hit'; ⟨o, e⟩) (itO_ok hit')
    have hq1 : (upd H it (itO it t (i + 1))) q = some (.lst (ys.take i)) := by rw [upd_ne nqi]; exact hq
    show wpAny _ A1.in1 (updateSeq q (·.push u) >>= _) _ _ _
    obtain ⟨z, its2, k2, r2, hl2, e2⟩ := J.lstM hq1
    have l2 := r2.length
    rw [List.length_take] at l2
    rw [sizeLine_eq] at hz
    have hmin : min i ys.length = i := Nat.min_eq_left (by omega)
    rw [hmin] at l2
    refine wpAny_bind (wpAny_updateSeq e2 rfl (wpAny_pure ⟨plainId_quiet PySem.F.plain_extend_loop _, ?_⟩) (by rw [List.size_toArray, sizeLine_eq]; omega) (by show (its2.toArray.push u).size ≤ sizeLine + 1; rw [Array.size_push, List.size_toArray, sizeLine_eq]; omega))
    refine ih (i + 1) _ _ (by omega) (by omega) (J.lset (its' := its2 ++ [u]) (t' := s.toks) hq1 e2 (by simp) (r2.append (.cons ru .nil)) (by rw [List.length_append, List.length_singleton, List.length_take, sizeLine_eq]; omega)) ?_ ?_ ?_
    · intro b n1 n2
      rw [upd_ne n2, upd_ne n1]
      exact hb b n1 n2
    · rw [upd_ne nqi.symm, upd_same]
    · rw [upd_same, ← take_snocG (List.getElem?_eq_getElem hlt)]
/-- list(o): o's __iter__ answers iter(a tuple of ys), its __len__ a small number -/
def rListO (K : PySem.W.Frag) (C : Addr) (spI spL : Sp) : List V → Hp → VK → Prop := fun xs H Q => ∃ (a dx : Addr) (fs : List (Str × V)), xs = [.ref a] ∧ H a = some (.ins C dx fs) ∧
  ∀ q, H q = none → spI [.ref a] (upd H q (.lst [])) (fun v H2 => ∃ (it t : Addr) (ys : List V) (dx2 : Addr) (fs2 : List (Str × V)), v = .ref it ∧ H2 it = some (itO it t 0) ∧ H2 a = some (.ins C dx2 fs2) ∧ q ≠ it ∧
    spL [.ref a] H2 (fun v H3 => ∃ n : Nat, v = .int n ∧ (n : Int) < 2 ^ 63 ∧ ∃ m : Nat, V.int n = .int (m : Nat) ∧ m ≤ 100000 ∧ (SqT K H3 t ys ∧ H3 it = some (itO it t 0) ∧ H3 q = some (.lst []) ∧
      ∀ H4 : Hp, (∀ b, b ≠ it → b ≠ q → H4 b = H3 b) → H4 q = some (.lst ys) → Q (.ref q) H4)) E0) E0
theorem call_listO {X : Cx} (hcalm : X.calm = true) {kI kL j : Nat} {C : Addr} {spI spL : Sp} (cI : Met CX0 X.prog X.w X.K X.mg X.base kI C "__iter__" spI) (cL : Met CX0 X.prog X.w X.K X.mg X.base kL C "__len__" spL) (hr : Room j X.A) (hkI : kI + 3 ≤ j) (hkL : kL + 3 ≤ j) :
    CallR X (.type "list") (rListO X.K C spI spL) := by
  intro pins s σ H xs us Q I rv h
  obtain ⟨a, dx, fs, rfl, ha, hq⟩ := h
  obtain ⟨u, rfl, ru⟩ := vals1 rv
  cases (show u = Value.ref a from ru)
  have room2 : Room (j - 2) X.A.in1.in1 := ((hr.mono (show j - 2 + 1 + 1 ≤ j by omega)).in1).in1
  have room3 : Room (j - 3) X.A.in1.in1.in1 := (room2.mono (show j - 3 + 1 ≤ j - 2 by omega)).in1
  refine callType_codes (Q₁ := fun obj s₁ => obj = .ref s.heap.objs.size ∧ s₁ = { s with heap := s.heap.push { cls := .type "list", data := .seq #[] } }) PySem.F.called_list (PySem.F.typeCall_list_1 _) PySem.F.entry_list_init
    (code_list_new _ ⟨rfl, rfl⟩) fun obj s₁ h₁ => ?_
  obtain ⟨rfl, rfl⟩ := h₁
  have hS : (s.heap.push { cls := .type "list", data := .seq #[] }).get? s.heap.objs.size = some { cls := .type "list", data := .seq #[] } := Heap.get?_push_size _ rfl
  refine ⟨⟨_, hS, rfl⟩, PySem.F.args_list_init_2 _ _, ?_⟩
  have fr : H s.heap.objs.size = none := I.hok.fresh (Nat.le_refl _)
  have hsp := hq _ fr
  have I1 : Inv X pins σ (upd H s.heap.objs.size (.lst [])) { s with heap := s.heap.push { cls := .type "list", data := .seq #[] } } := I.lnew (its := []) (t' := s.toks) .nil (Nat.zero_le _)
  show wpAny _ _ (do let old ← Builtin.List.listItems (.ref s.heap.objs.size); Builtin.List.listUpdate (.ref s.heap.objs.size) (fun _ => #[]); letGo old.toList.reverse; Builtin.List.listExtendWith (.ref s.heap.objs.size) (.ref a) .none) _ _ _
  refine wpAny_bind ?_
  unfold Builtin.List.listItems
  refine wpAny_bind (wpAny_seqItems hS rfl (wpAny_pure ?_))
  show wpAny _ _ (updateSeq s.heap.objs.size (fun _ => #[]) >>= fun _ => letGo (#[] : Array Value).toList.reverse >>= fun _ => Builtin.List.listExtendWith (.ref s.heap.objs.size) (.ref a) .none) _ _ _
  refine wpAny_bind (wpAny_updateSeq hS rfl ?_)
  have I2 := I1.lset (f := fun _ => #[]) (its := []) (its' := []) (ys := []) (t' := s.toks) upd_same hS rfl .nil (Nat.zero_le _)
  rw [upd_upd] at I2
  refine wpAny_bind (wpAny_letGo ?_)
  have ha2 : upd H s.heap.objs.size (.lst []) a = some (.ins C dx fs) := by rw [upd_ne (ne_of_none ha fr)]; exact ha
  have hne : s.heap.objs.size ≠ a := fun w => by rw [← w, fr] at ha; cases ha
  obtain ⟨ox, J, _⟩ := inst_of I2 ha2
  obtain ⟨J, _⟩ := ‹_ ∧ _›
  unfold Builtin.List.listExtendWith
  refine wpAny_bind (J.type.here ?_)
  have e1 : Builtin.List.listSameRef (.ref s.heap.objs.size) (.ref a) = false := by simp [Builtin.List.listSameRef, hne]
  have e2 : (Value.ref C == Value.type "list") = false := rfl
  have e3 : (Value.ref C == Value.type "tuple") = false := rfl
  simp only [e1, e2, e3, Bool.or_false, Bool.false_eq_true, if_false]
  obtain ⟨f, hf, fn, kp, run⟩ := met_run0 (A := X.A.in1.in1) cI room2 (show kI ≤ j - 2 by omega) (fun _ _ z => z.in1.in1)
  obtain ⟨m0, hF⟩ := I2.fr
  refine wpAny_bind (PySem.W.owit_iter hF I2.ok.mod.kin J hf fn (wpAny_mono (run pins _ σ _ [.ref a] [.ref a] _ _ I2 (.cons rfl .nil) hsp) (fun v s' hv => ?_) fun _ _ z => z))
  obtain ⟨x, H2, I3, rx, it, t, ys, dx2, fs2, rfl, hit, ha3, nqi, hL⟩ := hv
  cases (show v = Value.ref it from rx)
  have hitt := itO_get I3.hok hit
  unfold PySem.W.OwitIt
  refine wpAny_specialOf (name := Str.ofString "__next__") hitt.typeIs F.slot_tuple_iterator_next.lookup ?_
  refine wpAny_bind (wpAny_holding (wpAny_mono (hint_at (A := X.A.in1.in1) (EE := _) cL room3 (show kL ≤ j - 3 by omega) (fun _ _ z => z.in1.in1.in1) I3 ha3 hL) (fun b s2 hb => ?_) fun _ _ z => z))
  obtain ⟨H3, I4, hSq, hit3, hq3, hQ⟩ := hb
  have loop : ∀ s4, Inv X pins σ H3 s4 → codeAny (model X.prog X.w) X.A.in1 (.builtin "list.extend.loop" ⟨[.ref s.heap.objs.size, .ref it, .none], []⟩) (wants (fun r s₂ => r = Value.none ∧ EP X pins σ Q (Value.ref s.heap.objs.size) s₂) X.xe) s4 := fun s4 I5 =>
    it_loop (A1 := X.A.in1) (I.ok.hd hcalm) nqi (fun H4 s5 I6 hb hq' => ⟨rfl, .ref s.heap.objs.size, H4, I6, rfl, hQ H4 hb hq'⟩) hSq hit3 hq3 ys.length 0 H3 s4 (by omega) (Nat.zero_le _) I5 (fun _ _ _ => rfl) hit3 (by rw [List.take_zero]; exact hq3)
  refine wpAny_ite_split (fun _ => ?_) (fun _ => wpAny_pure ⟨plainId_quiet PySem.F.plain_extend_loop _, loop s2 I4⟩)
  obtain ⟨z, its, k, r3, hl3, e3'⟩ := I4.lstM hq3
  cases r3
  refine wpAny_bind (wpAny_rule ?_)
  refine wpAny_bind ?_
  show wpAny _ _ (updateSeq s.heap.objs.size (·.push .none) >>= fun _ => updateSeq s.heap.objs.size (·.pop)) _ _ _
  refine wpAny_bind (wpAny_updateSeq e3' rfl ?_)
  have I5 := I4.lset (f := (·.push Value.none)) (its' := [Value.none]) (ys := [.non]) (t' := s2.toks) hq3 e3' (by simp) (.cons rfl .nil) (by rw [List.length_singleton, sizeLine_eq]; decide)
  obtain ⟨z4, its4, k4, r4, hl4, e4⟩ := I5.lstM upd_same
  obtain ⟨u4, rfl, ru4⟩ := r4.one
  refine wpAny_updateSeq e4 rfl ?_ (by show 1 ≤ sizeLine; rw [sizeLine_eq]; decide) (by show 0 ≤ sizeLine + 1; exact Nat.zero_le _)
  refine wpAny_pure ⟨plainId_quiet PySem.F.plain_extend_loop _, loop _ ?_⟩
  have I6 := I5.lset (f := (·.pop)) (its := [u4]) (its' := []) (ys := []) (t' := s2.toks) upd_same e4 (by rfl) .nil (Nat.zero_le _)
  rw [upd_upd] at I6
  have hH : upd H3 s.heap.objs.size (.lst []) = H3 := by
    funext b
    by_cases hb : b = s.heap.objs.size
    · rw [hb, upd_same, hq3]
    · rw [upd_ne hb]
  rw [hH] at I6
  exact I6
/-! ### lists of values, each one of its own kind -/
inductive Al {α : Type} (R : V → α → Prop) : List V → List α → Prop where
  | nil : Al R [] []
  | cons {x : V} {y : α} {xs : List V} {ys : List α} : R x y → Al R xs ys → Al R (x :: xs) (y :: ys)
section
variable {α : Type} {R R' : V → α → Prop}
theorem Al.len : ∀ {xs : List V} {ys : List α}, Al R xs ys → xs.length = ys.length
  | _, _, .nil => rfl
  | _, _, .cons _ t => congrArg Nat.succ t.len
theorem Al.mono (h : ∀ x y, R x y → R' x y) : ∀ {xs : List V} {ys : List α}, Al R xs ys → Al R' xs ys
  | _, _, .nil => .nil
  | _, _, .cons r t => .cons (h _ _ r) (t.mono h)
theorem Al.app : ∀ {xs xs' : List V} {ys ys' : List α}, Al R xs ys → Al R xs' ys' → Al R (xs ++ xs') (ys ++ ys')
  | _, _, _, _, .nil, u => u
  | _, _, _, _, .cons r t, u => .cons r (t.app u)
theorem Al.take : ∀ {xs : List V} {ys : List α} (n : Nat), Al R xs ys → Al R (xs.take n) (ys.take n)
  | _, _, 0, _ => .nil
  | _, _, _ + 1, .nil => .nil
  | _, _, n + 1, .cons r t => .cons r (t.take n)
theorem Al.drop : ∀ {xs : List V} {ys : List α} (n : Nat), Al R xs ys → Al R (xs.drop n) (ys.drop n)
  | _, _, 0, h => h
  | _, _, _ + 1, .nil => .nil
  | _, _, n + 1, .cons _ t => t.drop n
theorem Al.snoc {xs : List V} {ys : List α} {x : V} {y : α} (h : Al R xs ys) (r : R x y) : Al R (xs ++ [x]) (ys ++ [y]) := h.app (.cons r .nil)
theorem Al.rev : ∀ {xs : List V} {ys : List α}, Al R xs ys → Al R xs.reverse ys.reverse
  | _, _, .nil => .nil
  | _, _, .cons r t => by
    rw [List.reverse_cons, List.reverse_cons]
    exact t.rev.app (.cons r .nil)
theorem Al.at : ∀ {xs : List V} {ys : List α} {i : Nat} {x : V}, Al R xs ys → xs[i]? = some x → ∃ y, ys[i]? = some y ∧ R x y
  | _, _, _, _, .nil, h => by simp at h
  | _, _, 0, _, .cons r _, h => ⟨_, rfl, by simp at h; subst h; exact r⟩
  | _, _, i + 1, _, .cons _ t, h => t.at (i := i) (by simpa using h)
theorem Al.at' {xs : List V} {ys : List α} {i : Nat} {y : α} (h : Al R xs ys) (hy : ys[i]? = some y) : ∃ x, xs[i]? = some x ∧ R x y := by
  have hi : i < xs.length := by rw [h.len]; exact (List.getElem?_eq_some_iff.mp hy).1
  obtain ⟨y', e, r⟩ := h.at (List.getElem?_eq_getElem hi)
  rw [hy] at e
  cases e
  exact ⟨_, List.getElem?_eq_getElem hi, r⟩
end
/-! ### terms -/
def sd (b : Bool) : Str := if b then "least" else "most"
def wd (k : Nat) : Str := (["stay", "need", "left", "want", "here", "got", "slack"] : List Str).getD k ""
/-- the measures of an open car (stay, need, left, want) -/
def ms (k : Nat) (s n l w : Int) : Int := match k with
  | 0 => s
  | 1 => n
  | 2 => l
  | 3 => w
  | 4 => s - l
  | 5 => n - w
  | _ => l - w
def kn (t : Bool × Nat) (s n l w : Int) : Int := if t.1 then ms t.2 s n l w else -(ms t.2 s n l w)
/-- x is the pair of a term -/
def TermV (K : PySem.W.Frag) (H : Hp) (x : V) (t : Bool × Nat) : Prop := t.2 < 7 ∧ ∃ p : Addr, x = .ref p ∧ SqT K H p [.str (sd t.1), .str (wd t.2)]
def TermsV (K : PySem.W.Frag) (H : Hp) (xs : List V) (ts : List (Bool × Nat)) : Prop := xs.length = ts.length ∧ ∀ (i : Nat) (x : V) (t : Bool × Nat), xs[i]? = some x → ts[i]? = some t → TermV K H x t
theorem sqt_same {K : PySem.W.Frag} {H H' : Hp} {a : Addr} {xs : List V} (h : SqT K H a xs) (e : Same H H') : SqT K H' a xs := by
  rcases h with (h | ⟨o, h⟩) | h
  · exact .inl (.inl (e _ _ h))
  · exact .inl (.inr ⟨o, e _ _ h⟩)
  · exact .inr h
theorem TermV.same {K : PySem.W.Frag} {H H' : Hp} {x : V} {t : Bool × Nat} (h : TermV K H x t) (e : Same H H') : TermV K H' x t := by
  obtain ⟨h7, p, ex, hp⟩ := h
  exact ⟨h7, p, ex, sqt_same hp e⟩
theorem TermsV.same {K : PySem.W.Frag} {H H' : Hp} {xs : List V} {ts : List (Bool × Nat)} (h : TermsV K H xs ts) (e : Same H H') : TermsV K H' xs ts := ⟨h.1, fun i x t h1 h2 => (h.2 i x t h1 h2).same e⟩
theorem TermsV.nil {K : PySem.W.Frag} {H : Hp} : TermsV K H [] [] := ⟨rfl, fun i x t h1 _ => by simp at h1⟩
theorem TermsV.snoc {K : PySem.W.Frag} {H : Hp} {xs : List V} {ts : List (Bool × Nat)} {x : V} {t : Bool × Nat} (h : TermsV K H xs ts) (r : TermV K H x t) : TermsV K H (xs ++ [x]) (ts ++ [t]) := by
  refine ⟨by rw [List.length_append, List.length_append, h.1] <;> rfl, fun i y u h1 h2 => ?_⟩
  by_cases hi : i < xs.length
  · rw [List.getElem?_append_left hi] at h1
    rw [List.getElem?_append_left (by rw [← h.1]; exact hi)] at h2
    exact h.2 i y u h1 h2
  · rw [List.getElem?_append_right (by omega)] at h1
    rw [List.getElem?_append_right (by rw [← h.1]; omega)] at h2
    rw [← h.1] at h2
    cases e : i - xs.length with
    | zero =>
      rw [e] at h1 h2
      simp at h1 h2
      subst h1
      subst h2
      exact r
    | succ m =>
      rw [e] at h1
      simp at h1
/-- a rule -/
def rlf (tp : Addr) : List (Str × V) := putF "terms" (.ref tp) []
theorem rlf_terms (tp : Addr) : (rlf tp).lookup ("terms" : Str) = some (.ref tp) := by
  unfold rlf
  rw [lookup_putF, if_pos rfl]
theorem rlf_no (tp : Addr) {m : Str} (h : ¬ m = "terms") : (rlf tp).lookup m = none := by
  unfold rlf
  rw [lookup_putF, if_neg h]
  all_goals rfl
def RuleAt (K : PySem.W.Frag) (C : Addr) (H : Hp) (a : Addr) (ts : List (Bool × Nat)) : Prop := ∃ (dx tp : Addr) (xs : List V), H a = some (.ins C dx (rlf tp)) ∧ H tp = some (.tup xs) ∧ TermsV K H xs ts
theorem RuleAt.same {K : PySem.W.Frag} {C : Addr} {H H' : Hp} {a : Addr} {ts : List (Bool × Nat)} (h : RuleAt K C H a ts) (e : Same H H') : RuleAt K C H' a ts := by
  obtain ⟨dx, tp, xs, h1, h2, h3⟩ := h
  exact ⟨dx, tp, xs, e _ _ h1, e _ _ h2, h3.same e⟩
def Okt (ts : List (Bool × Nat)) : Prop := (ts.map (·.2)).Nodup ∧ ∀ t ∈ ts, t.2 < 7
def sp_measures (K : PySem.W.Frag) : Sp := fun vs H Q _ => ∃ (a : Addr) (s n l w : Int), vs = [.ref a] ∧ SqT K H a [.int s, .int n, .int l, .int w] ∧
  ∀ (H' : Hp) (p : Addr) (M : List (Key × V)), Same H H' → H' p = some (.dK M) → (∀ k < 7, valV M (Sum.inr (wd k)) = some (.int (ms k s n l w))) → Q (.ref p) H'
def sp_numbers (K : PySem.W.Frag) : Sp := fun vs H Q _ => ∃ (tp a : Addr) (xs : List V) (ts : List (Bool × Nat)) (s n l w : Int), vs = [.ref tp, .ref a] ∧ SqT K H tp xs ∧ TermsV K H xs ts ∧ ts.length ≤ 1000 ∧ SqT K H a [.int s, .int n, .int l, .int w] ∧
  ∀ (H' : Hp) (p : Addr), Same H H' → H' p = some (.tup (ts.map fun t => .int (kn t s n l w))) → Q (.ref p) H'
def sp_Rule_call (K : PySem.W.Frag) (C : Addr) : Sp := fun vs H Q _ => ∃ (r a : Addr) (ts : List (Bool × Nat)) (s n l w : Int), vs = [.ref r, .ref a] ∧ RuleAt K C H r ts ∧ ts.length ≤ 1000 ∧ SqT K H a [.int s, .int n, .int l, .int w] ∧
  ∀ (H' : Hp) (p : Addr), Same H H' → H' p = some (.tup (ts.map fun t => .int (kn t s n l w))) → Q (.ref p) H'
/-- Rule(list of terms), all right -/
def sp_Rule_init (K : PySem.W.Frag) (C : Addr) : Sp := fun vs H Q _ => ∃ (x dx tp : Addr) (xs : List V) (ts : List (Bool × Nat)), vs = [.ref x, .ref tp] ∧ H x = some (.ins C dx []) ∧ SqL K H tp xs ∧ TermsV K H xs ts ∧ Okt ts ∧
  ∀ H', Kp x H H' → RuleAt K C H' x ts → Q .non H'
theorem pool_ne {H : Hp} {p q : Addr} (h : PoolAt H p) (n : H q = none) : q ≠ p := fun w => by
  obtain ⟨x, y, z, e⟩ := h
  rw [w, e] at n
  cases n
theorem none_kp {H H' : Hp} {p t : Addr} (s : Kp p H H') (n : t ≠ p) (e : H' t = none) : H t = none := by
  cases h : H t with
  | none => rfl
  | some o =>
    rw [s _ _ n h] at e
    cases e
theorem none_of {H H' : Hp} {t : Addr} (s : Same H H') (n : H' t = none) : H t = none := by
  cases e : H t with
  | none => rfl
  | some o =>
    rw [s _ _ e] at n
    cases n
theorem same_app {H2 H4 : Hp} {t : Addr} {o : HO} (s : Same H2 H4) (n : H2 t = none) : Same H2 (upd H4 t o) := fun b u e => by
  rw [upd_ne (ne_of_none e n)]
  exact s _ _ e
theorem Kp.of {p : Addr} {H H' : Hp} (s : Same H H') : Kp p H H' := fun b o _ e => s b o e
/-- a place that was free takes what it takes -/
theorem kp_app {p : Addr} {H H4 : Hp} {t : Addr} {o : HO} (s : Kp p H H4) (n : H t = none) : Kp p H (upd H4 t o) := fun b u nb e => by
  rw [upd_ne (ne_of_none e n)]
  exact s _ _ nb e
theorem sqt_pool {K : PySem.W.Frag} {H H' : Hp} {a b : Addr} {xs : List V} (h : SqT K H b xs) (k : Kp a H H') (p : PoolAt H a) : SqT K H' b xs := by
  obtain ⟨x, y, z, e⟩ := p
  rcases h with (h | ⟨o, h⟩) | h
  · exact .inl (.inl (k _ _ (fun w => by rw [w, e] at h; cases h) h))
  · exact .inl (.inr ⟨o, k _ _ (fun w => by rw [w, e] at h; cases h) h⟩)
  · exact .inr h
theorem sqt_lst {K : PySem.W.Frag} {H H' : Hp} {a b : Addr} {xs ys : List V} (h : SqT K H b xs) (k : Kp a H H') (hl : H a = some (.lst ys)) : SqT K H' b xs := by
  rcases h with (h | ⟨o, h⟩) | h
  · exact .inl (.inl (k _ _ (fun w => by rw [w, hl] at h; cases h) h))
  · exact .inl (.inr ⟨o, k _ _ (fun w => by rw [w, hl] at h; cases h) h⟩)
  · exact .inr h
theorem iteB {b : Bool} {A B : Prop} (hA : b = true → A) (hB : b = false → B) : if b = true then A else B := by
  cases b
  · exact iteF (hB rfl)
  · exact iteT (hA rfl)
theorem iteNe {x y : V} {A B : Prop} (e : x = y) (h : B) : if (!decide (x = y)) = true then A else B := by
  rw [decide_eq_true e]
  exact iteF h
theorem pick4 {a b c d r : Int} (h0 : 0 ≤ r) (h1 : r < 4) : ∃ v : Int, atI [V.int a, V.int b, V.int c, V.int d] r = some (V.int v) ∧ (v = a ∨ v = b ∨ v = c ∨ v = d) := by
  have : r = 0 ∨ r = 1 ∨ r = 2 ∨ r = 3 := by omega
  rcases this with e | e | e | e
  · subst e; exact ⟨a, rfl, .inl rfl⟩
  · subst e; exact ⟨b, rfl, .inr (.inl rfl)⟩
  · subst e; exact ⟨c, rfl, .inr (.inr (.inl rfl))⟩
  · subst e; exact ⟨d, rfl, .inr (.inr (.inr rfl))⟩
theorem getD_at {α : Type} {l : List α} {i : Nat} {c d : α} (h : l[i]? = some c) : l.getD i d = c := by
  rw [List.getD_eq_getElem?_getD, h]
  rfl
theorem seq_ix {i : Int} {n : Nat} (h0 : 0 ≤ i) (h1 : i < (n : Int)) : seqIndex? i n = some i.toNat := by
  unfold seqIndex?
  first
    | (simp only; split <;> first | (split <;> first | rfl | omega) | omega)
    | (have e : ¬ i < 0 := by omega
       simp [e, h1, h0])
theorem cut_drop (xs : List V) (w : Nat) : cutV xs (some (w : Int)) none = xs.drop w := by
  have e0 : HT.sIx xs.length xs.length none = xs.length := rfl
  have e1 : HT.sIx xs.length 0 (some (w : Int)) = min w xs.length := by
    simp only [HT.sIx]
    split <;> omega
  unfold cutV
  rw [e0, e1]
  by_cases h : w ≤ xs.length
  · rw [Nat.min_eq_left h, List.take_of_length_le (by rw [List.length_drop]; omega)]
  · rw [Nat.min_eq_right (by omega), List.drop_length, List.drop_of_length_le (by omega), List.take_nil]
theorem cut_pre (ns : List Int) (w : Nat) : cutV (ns.map V.int) none (some (w : Int)) = (ns.take w).map V.int := by
  have e0 : HT.sIx (ns.map V.int).length 0 none = 0 := rfl
  have e1 : HT.sIx (ns.map V.int).length (ns.map V.int).length (some (w : Int)) = min w (ns.map V.int).length := by
    simp only [HT.sIx]
    split <;> omega
  unfold cutV
  rw [e0, e1, List.drop_zero, Nat.sub_zero, List.map_take]
  by_cases h : w ≤ (ns.map V.int).length
  · rw [Nat.min_eq_left h]
  · rw [Nat.min_eq_right (by omega), List.take_length, List.take_of_length_le (by omega)]
theorem sqb_same {K : PySem.W.Frag} {b : Bool} {H H' : Hp} {a : Addr} {xs : List V} (h : SqB K b H a xs) (e : Same H H') : SqB K b H' a xs := by
  cases b
  · exact Same.seq e h
  · exact sqt_same h e
theorem sqb_or {K : PySem.W.Frag} {b : Bool} {H : Hp} {a : Addr} {xs : List V} (h : SqB K b H a xs) : SqL K H a xs ∨ SqT K H a xs := by
  cases b
  · exact .inl h
  · exact .inr h
theorem take_snoc {α : Type} {l : List α} {i : Nat} {x : α} (h : l[i]? = some x) : l.take i ++ [x] = l.take (i + 1) := by
  rw [List.take_add_one, h]
  rfl
theorem ixN_nat {n k : Nat} (h : k < n) : ixN n ((k : Nat) : Int) = some k := by
  unfold ixN
  simp
  omega
theorem mk_same {H J : Hp} {x dx C : Addr} (hx : H x = none) (hdx : H dx = none) (k : Kp x (upd (upd H dx (.own x)) x (.ins C dx [])) J) : Same H J := fun b o e => k b o (ne_of_none e hx) (by
  rw [upd_ne (ne_of_none e hx), upd_ne (ne_of_none e hdx)]
  exact e)
def topS (i : Nat) : Stmt := PySem.Challenge.pw_onecable_k13_rule_text_there_and_back.main.body.getD i (.Pass ⟨0, 0, 0, 0⟩)
abbrev s_uterm_of : Stmt := topS 9
theorem sc_uterm_of : FnScope ["part", "side", "_", "word"] ["part"] (defScope s_uterm_of) := ⟨rfl, rfl, rfl, by decide +kernel, rfl, by decide +kernel, by decide +kernel⟩
abbrev s_Rule_init : Stmt := inClass (topS 10) 0
theorem sc_Rule_init : FnScope ["self", "terms", "words", "place", "side", "word"] ["self", "terms"] (defScope s_Rule_init) := ⟨rfl, rfl, rfl, by decide +kernel, rfl, by decide +kernel, by decide +kernel⟩
abbrev s_Rule_parse : Stmt := inClass (topS 10) 1
theorem sc_Rule_parse : FnScope ["cls", "text", "part"] ["cls", "text"] (defScope s_Rule_parse) := ⟨rfl, rfl, rfl, by decide +kernel, rfl, by decide +kernel, by decide +kernel⟩
abbrev s_Rule_str : Stmt := inClass (topS 10) 6
theorem sc_Rule_str : FnScope ["self", "side", "word"] ["self"] (defScope s_Rule_str) := ⟨rfl, rfl, rfl, by decide +kernel, rfl, by decide +kernel, by decide +kernel⟩
abbrev s_Rule_len : Stmt := inClass (topS 10) 7
theorem sc_Rule_len : FnScope ["self"] ["self"] (defScope s_Rule_len) := ⟨rfl, rfl, rfl, by decide +kernel, rfl, by decide +kernel, by decide +kernel⟩
abbrev s_Rule_iter : Stmt := inClass (topS 10) 8
theorem sc_Rule_iter : FnScope ["self"] ["self"] (defScope s_Rule_iter) := ⟨rfl, rfl, rfl, by decide +kernel, rfl, by decide +kernel, by decide +kernel⟩
abbrev s_Lcell : Stmt := topS 12
theorem sc_Lcell : FnScope ["_law_script", "_law_at"] ["_law_script", "_law_at"] (defScope s_Lcell) := ⟨rfl, rfl, rfl, by decide +kernel, rfl, by decide +kernel, by decide +kernel⟩
abbrev s_Lpool : Stmt := topS 13
theorem sc_Lpool : FnScope ["_law_cell_here"] ["_law_cell_here"] (defScope s_Lpool) := ⟨rfl, rfl, rfl, by decide +kernel, rfl, by decide +kernel, by decide +kernel⟩
abbrev s_Ltake : Stmt := topS 14
theorem sc_Ltake : FnScope ["_law_pool_here", "_law_many", "_law_digit", "_law_mixed"] ["_law_pool_here", "_law_many"] (defScope s_Ltake) := ⟨rfl, rfl, rfl, by decide +kernel, rfl, by decide +kernel, by decide +kernel⟩
abbrev s_Lsame : Stmt := topS 15
theorem sc_Lsame : FnScope ["_law_told", "_law_due", "_law_k"] ["_law_told", "_law_due"] (defScope s_Lsame) := ⟨rfl, rfl, rfl, by decide +kernel, rfl, by decide +kernel, by decide +kernel⟩
abbrev s_Lterms : Stmt := topS 16
theorem sc_Lterms : FnScope ["_law_pool_here", "_law_most", "_law_words", "_law_terms_here", "_law_k", "_law_word"] ["_law_pool_here", "_law_most"] (defScope s_Lterms) := ⟨rfl, rfl, rfl, by decide +kernel, rfl, by decide +kernel, by decide +kernel⟩
abbrev s_Lterms_text : Stmt := topS 17
theorem sc_Lterms_text : FnScope ["_law_terms_here", "_law_term_here"] ["_law_terms_here"] (defScope s_Lterms_text) := ⟨rfl, rfl, rfl, by decide +kernel, rfl, by decide +kernel, by decide +kernel⟩
abbrev s_Lsigns : Stmt := topS 18
theorem sc_Lsigns : FnScope ["_law_signs_here"] [] (defScope s_Lsigns) := ⟨rfl, rfl, rfl, by decide +kernel, rfl, by decide +kernel, by decide +kernel⟩
abbrev s_Lbent : Stmt := topS 19
theorem sc_Lbent : FnScope ["_law_pool_here", "_law_text", "_law_signs_here", "_law_at", "_law_sign", "_law_way"] ["_law_pool_here", "_law_text", "_law_signs_here"] (defScope s_Lbent) := ⟨rfl, rfl, rfl, by decide +kernel, rfl, by decide +kernel, by decide +kernel⟩
abbrev s_Lany : Stmt := topS 20
theorem sc_Lany : FnScope ["_law_pool_here", "_law_signs_here", "_law_k"] ["_law_pool_here", "_law_signs_here"] (defScope s_Lany) := ⟨rfl, rfl, rfl, by decide +kernel, rfl, by decide +kernel, by decide +kernel⟩
abbrev s_Lterm_text : Stmt := topS 21
theorem sc_Lterm_text : FnScope ["_law_pool_here", "_law_words", "_law_odd"] ["_law_pool_here"] (defScope s_Lterm_text) := ⟨rfl, rfl, rfl, by decide +kernel, rfl, by decide +kernel, by decide +kernel⟩
abbrev s_Lrow_of_parts : Stmt := topS 22
theorem sc_Lrow_of_parts : FnScope ["_law_pool_here", "_law_parts", "_law_between", "_law_k"] ["_law_pool_here"] (defScope s_Lrow_of_parts) := ⟨rfl, rfl, rfl, by decide +kernel, rfl, by decide +kernel, by decide +kernel⟩
abbrev s_Lshort_text : Stmt := topS 23
theorem sc_Lshort_text : FnScope ["_law_pool_here", "_law_texts"] ["_law_pool_here"] (defScope s_Lshort_text) := ⟨rfl, rfl, rfl, by decide +kernel, rfl, by decide +kernel, by decide +kernel⟩
abbrev s_Lcut : Stmt := topS 24
theorem sc_Lcut : FnScope ["_law_text", "_law_parts", "_law_word", "_law_skip", "_law_at"] ["_law_text"] (defScope s_Lcut) := ⟨rfl, rfl, rfl, by decide +kernel, rfl, by decide +kernel, by decide +kernel⟩
abbrev s_Lterm : Stmt := topS 25
theorem sc_Lterm : FnScope ["_law_part", "_law_side", "_law_word"] ["_law_part"] (defScope s_Lterm) := ⟨rfl, rfl, rfl, by decide +kernel, rfl, by decide +kernel, by decide +kernel⟩
abbrev s_Lreading : Stmt := topS 26
theorem sc_Lreading : FnScope ["_law_text", "_law_terms_here", "_law_part", "_law_term_here", "_law_old"] ["_law_text"] (defScope s_Lreading) := ⟨rfl, rfl, rfl, by decide +kernel, rfl, by decide +kernel, by decide +kernel⟩
abbrev s_Lreads : Stmt := topS 27
theorem sc_Lreads : FnScope ["_law_text", "_law_due", "_law_told", "_law_place", "e"] ["_law_text", "_law_due"] (defScope s_Lreads) := ⟨rfl, rfl, rfl, by decide +kernel, rfl, by decide +kernel, by decide +kernel⟩
abbrev s_law : Stmt := topS 28
theorem sc_law : FnScope ["_law_script", "_law_terms_here", "_law_pool_here", "_law_way", "_law_text"] ["_law_script"] (defScope s_law) := ⟨rfl, rfl, rfl, by decide +kernel, rfl, by decide +kernel, by decide +kernel⟩
def CarV (K : PySem.W.Frag) (H : Hp) (a : Addr) (s n l w : Int) : Prop := SqT K H a [.int s, .int n, .int l, .int w]
def sp_Lterms (K : PySem.W.Frag) : Sp := fun vs H Q _ => ∃ (p : Addr) (m : Nat), vs = [.ref p, .int (m : Int)] ∧ m ≤ 7 ∧ PoolAt H p ∧
  ∀ (H' : Hp) (q : Addr) (xs : List V) (ts : List (Bool × Nat)), Kp p H H' → PoolAt H' p → H q = none → H' q = some (.lst xs) → TermsV K H' xs ts → Okt ts → ts.length ≤ 7 → Q (.ref q) H'
def sp_Lmeasure (K : PySem.W.Frag) : Sp := fun vs H Q _ => ∃ (a : Addr) (k : Nat) (s n l w : Int), vs = [.ref a, .str (wd k)] ∧ k < 7 ∧ CarV K H a s n l w ∧ Q (.int (ms k s n l w)) H
def sp_Lkey (K : PySem.W.Frag) : Sp := fun vs H Q _ => ∃ (tl a : Addr) (xs : List V) (ts : List (Bool × Nat)) (s n l w : Int), vs = [.ref tl, .ref a] ∧ SqL K H tl xs ∧ TermsV K H xs ts ∧ ts.length ≤ 1000 ∧ CarV K H a s n l w ∧
  ∀ (H' : Hp) (q : Addr), Same H H' → H q = none → H' q = some (.lst (ts.map fun t => .int (kn t s n l w))) → Q (.ref q) H'
/-- an open car as the law draws it -/
structure CarOk (s n l w m : Int) : Prop where
  s1 : 1 ≤ s
  sm : s ≤ m
  n1 : 1 ≤ n
  ns : n ≤ s
  l1 : 1 ≤ l
  ls : l ≤ s
  w1 : 1 ≤ w
  wn : w ≤ n
def sp_Lcar (K : PySem.W.Frag) : Sp := fun vs H Q _ => ∃ (p : Addr) (m : Int), vs = [.ref p, .int m] ∧ 0 < m ∧ m < 2 ^ 60 ∧ PoolAt H p ∧
  ∀ (H' : Hp) (q : Addr) (s n l w : Int), Kp p H H' → PoolAt H' p → H q = none → H' q = some (.tup [.int s, .int n, .int l, .int w]) → CarOk s n l w m → Q (.ref q) H'
theorem sqt_kp {K : PySem.W.Frag} {H H' : Hp} {a b : Addr} {xs ys : List V} (h : SqT K H b xs) (k : Kp a H H') (hl : H a = some (.lst ys)) : SqT K H' b xs := by
  rcases h with (h | ⟨o, h⟩) | h
  · exact .inl (.inl (k _ _ (fun w => by rw [w, hl] at h; cases h) h))
  · exact .inl (.inr ⟨o, k _ _ (fun w => by rw [w, hl] at h; cases h) h⟩)
  · exact .inr h
theorem TermV.kp {K : PySem.W.Frag} {H H' : Hp} {a : Addr} {x : V} {t : Bool × Nat} {ys : List V} (h : TermV K H x t) (k : Kp a H H') (hl : H a = some (.lst ys)) : TermV K H' x t := by
  obtain ⟨h7, p, ex, hp⟩ := h
  exact ⟨h7, p, ex, sqt_kp hp k hl⟩
theorem TermsV.kp {K : PySem.W.Frag} {H H' : Hp} {a : Addr} {xs : List V} {ts : List (Bool × Nat)} {ys : List V} (h : TermsV K H xs ts) (k : Kp a H H') (hl : H a = some (.lst ys)) : TermsV K H' xs ts := ⟨h.1, fun i x t h1 h2 => (h.2 i x t h1 h2).kp k hl⟩
theorem erase_map {α β : Type} (f : α → β) : ∀ (l : List α) (i : Nat), (l.map f).eraseIdx i = (l.eraseIdx i).map f
  | [], _ => rfl
  | _ :: _, 0 => rfl
  | a :: l, i + 1 => by
    show f a :: (l.map f).eraseIdx i = f a :: (l.eraseIdx i).map f
    rw [erase_map f l i]
theorem get_erase_perm {α : Type} : ∀ {l : List α} {i : Nat} (h : i < l.length), (l[i] :: l.eraseIdx i).Perm l
  | _ :: _, 0, _ => .refl _
  | a :: l, i + 1, h => by
    have h' : i < l.length := Nat.lt_of_succ_lt_succ h
    show (l[i] :: a :: l.eraseIdx i).Perm (a :: l)
    exact (List.Perm.swap a l[i] _).trans (.cons a (get_erase_perm h'))
/-! ### texts of drawn signs -/
/-- all signs from the blank to ~ -/
def Asc (y : Str) : Prop := ∀ c ∈ y.cps.toList, 32 ≤ c ∧ c ≤ 126
theorem asc_app {a b : Str} (h : Asc a) (g : Asc b) : Asc (a ++ b) := fun c hc => by
  rw [show (a ++ b).cps = a.cps ++ b.cps from Str.cps_append a b, Array.toList_append, List.mem_append] at hc
  rcases hc with hc | hc
  · exact h c hc
  · exact g c hc
theorem asc_cut {a : Str} (lo hi : Option Int) (h : Asc a) : Asc (cutS a lo hi) := fun c hc => by
  unfold cutS at hc
  rw [List.toList_toArray] at hc
  exact h c (List.mem_of_mem_drop (List.mem_of_mem_take hc))
theorem cut_len (a : Str) (lo hi : Option Int) : (cutS a lo hi).length ≤ a.length := cutS_length a lo hi
def sgns : Str := " !\"#$&'()*+,-./0123456789:;<=>?@ABCDEFGHIJKLMNOPQRSTUVWXYZ[\\]^_`" ++ "abcdefghijklmnopqrstuvwxyz{|}~"
theorem sgns_len : sgns.length = 94 := by decide +kernel
theorem sgns_asc : Asc sgns := by
  unfold Asc
  decide +kernel
theorem asc_one {a : Str} {i : Int} {c : Nat} (h : Asc a) (e : atI a.cps.toList i = some c) : Asc ⟨#[c]⟩ := fun d hd => by
  have hd' : d = c := by simpa using hd
  subst hd'
  unfold atI at e
  cases hx : ixN a.cps.toList.length i with
  | none => rw [hx] at e; cases e
  | some j => rw [hx] at e; exact h d (List.mem_of_getElem? e)
theorem atI_in {α : Type} {xs : List α} {i : Int} (h0 : 0 ≤ i) (h1 : i < (xs.length : Int)) : ∃ c, atI xs i = some c := by
  have hj : i.toNat < xs.length := by omega
  refine ⟨xs[i.toNat], ?_⟩
  have e := atI_nat (List.getElem?_eq_getElem hj)
  rw [Int.toNat_of_nonneg h0] at e
  exact e
theorem app_len (a b : Str) : (a ++ b).length = a.length + b.length := Str.length_append a b
theorem small_line {n : Nat} (h : n ≤ 100000) : n ≤ sizeLine := by rw [sizeLine_eq]; omega
def sp_Lsigns : Sp := fun vs H Q _ => vs = [] ∧ Q (.str sgns) H
def sp_Lbent : Sp := fun vs H Q _ => ∃ (p : Addr) (y g : Str), vs = [.ref p, .str y, .str g] ∧ PoolAt H p ∧ Asc y ∧ Asc g ∧ 0 < g.length ∧ g.length ≤ 1000 ∧ y.length ≤ 1000 ∧
  ∀ (H' : Hp) (z : Str), Kp p H H' → PoolAt H' p → Asc z → z.length ≤ 2 * y.length + 1 → Q (.str z) H'
def sp_LbentN : Sp := fun vs H Q _ => ∃ (p : Addr) (y g : Str), vs = [.ref p, .str y, .str g] ∧ PoolAt H p ∧ 0 < g.length ∧ g.length ≤ 1000 ∧ y.length ≤ 10000 ∧
  ∀ (H' : Hp) (z : Str), Kp p H H' → PoolAt H' p → z.length ≤ 2 * y.length + 1 → Q (.str z) H'
/-- a sign of a text at a drawn place -/
theorem sign_at {g : Str} {r : Int} (h0 : 0 ≤ r) (h1 : r < (g.length : Int)) : ∃ c, atI g.cps.toList r = some c := atI_in h0 (by rw [Array.length_toList]; exact h1)
/-! ### pairs of texts, right or wrong, and the rule of them -/
def PairV (K : PySem.W.Frag) (H : Hp) (x : V) (p : Str × Str) : Prop := ∃ a : Addr, x = .ref a ∧ SqT K H a [.str p.1, .str p.2]
theorem PairV.same {K : PySem.W.Frag} {H H' : Hp} {x : V} {p : Str × Str} (h : PairV K H x p) (e : Same H H') : PairV K H' x p := by
  obtain ⟨a, ex, hp⟩ := h
  exact ⟨a, ex, sqt_same hp e⟩
theorem PairV.lst {K : PySem.W.Frag} {H H' : Hp} {a : Addr} {x : V} {p : Str × Str} {ys : List V} (h : PairV K H x p) (k : Kp a H H') (hl : H a = some (.lst ys)) : PairV K H' x p := by
  obtain ⟨b, ex, hp⟩ := h
  exact ⟨b, ex, sqt_lst hp k hl⟩
def sidesL : List Str := ["least", "most"]
def wordsL : List Str := ["stay", "need", "left", "want", "here", "got", "slack"]
def badP (ps : List (Str × Str)) (i : Nat) : Prop := ∃ p, ps[i]? = some p ∧ (¬ p.1 ∈ sidesL ∨ ¬ p.2 ∈ wordsL ∨ p.2 ∈ (ps.take i).map (·.2))
def PrAt (K : PySem.W.Frag) (C : Addr) (H : Hp) (a : Addr) (ps : List (Str × Str)) : Prop := ∃ (dx tp : Addr) (xs : List V), H a = some (.ins C dx (rlf tp)) ∧ H tp = some (.tup xs) ∧ Al (PairV K H) xs ps
def sp_Rule_initP (K : PySem.W.Frag) (C B : Addr) : Sp := fun vs H Q E => ∃ (x dx tp : Addr) (b : Bool) (xs : List V) (ps : List (Str × Str)), vs = [.ref x, .ref tp] ∧ H x = some (.ins C dx []) ∧ SqB K b H tp xs ∧ Al (PairV K H) xs ps ∧ ps.length ≤ 900 ∧
  ((∃ i, badP ps i ∧ (∀ j < i, ¬ badP ps j) ∧ ∀ (H' : Hp) (d : Addr), Same H H' → H' d = none → E (.ref B) (some d) (upd H' d (.xd [(("place" : Str), .int (i : Nat))]))) ∨
    ((∀ j, ¬ badP ps j) ∧ ∀ H', Kp x H H' → PrAt K C H' x ps → Q .non H'))
theorem inV_str {z : Str} : ∀ {ks : List Str}, inV (.str z) (ks.map V.str) = decide (z ∈ ks) := by
  intro ks
  rw [Bool.eq_iff_iff, decide_eq_true_iff]
  unfold inV
  rw [List.any_map, List.any_eq_true]
  constructor
  · rintro ⟨k, hk, e⟩
    have e' : k = z := eq_of_beq (show (k == z) = true from e)
    exact e' ▸ hk
  · intro h
    exact ⟨z, h, by show (z == z) = true; exact beq_self_eq_true _⟩
theorem flat_strs (l : List Str) : (l.map V.str).all flatV = true := by
  rw [List.all_map, List.all_eq_true]
  intro j _
  rfl
def sp_Lknown : Sp := fun vs H Q _ => vs = [] ∧ ∀ (H' : Hp) (q : Addr), Same H H' → H q = none → H' q = some (.lst (wordsL.map V.str)) → Q (.ref q) H'
def sp_Lword (K : PySem.W.Frag) : Sp := fun vs H Q _ => ∃ (p l : Addr) (ks : List Str), vs = [.ref p, .ref l] ∧ PoolAt H p ∧ l ≠ p ∧ H l = some (.lst (ks.map V.str)) ∧ 0 < ks.length ∧ ks.length ≤ 100 ∧ (∀ k ∈ ks, Asc k ∧ k.length ≤ 20) ∧
  ∀ (H' : Hp) (z : Str), Kp p H H' → PoolAt H' p → Q (.str z) H'
def sp_Lpairs (K : PySem.W.Frag) : Sp := fun vs H Q _ => ∃ (p : Addr) (n : Nat) (b : Bool), vs = [.ref p, .int (n : Nat), .bl b] ∧ n ≤ 13 ∧ PoolAt H p ∧
  ∀ (H' : Hp) (q : Addr) (xs : List V) (ps : List (Str × Str)), Kp p H H' → H q = none → H' q = some (.lst xs) → Al (PairV K H') xs ps → ps.length = n → Q (.ref q) H'
def sp_Lwrong (K : PySem.W.Frag) : Sp := fun vs H Q _ => ∃ (a : Addr) (xs : List V) (ps : List (Str × Str)), vs = [.ref a] ∧ SqL K H a xs ∧ Al (PairV K H) xs ps ∧ ps.length ≤ 900 ∧
  (∀ i, badP ps i → (∀ j < i, ¬ badP ps j) → ∀ H', Same H H' → Q (.int (i : Nat)) H') ∧ ((∀ j, ¬ badP ps j) → ∀ H', Same H H' → Q .non H')
theorem str_at {ks : List Str} {r : Int} (h0 : 0 ≤ r) (h1 : r < (ks.length : Int)) : ∃ k, k ∈ ks ∧ atI (ks.map V.str) r = some (V.str k) := by
  have hj : r.toNat < ks.length := by omega
  have e0 : (ks.map V.str)[r.toNat]? = some (V.str ks[r.toNat]) := by rw [List.getElem?_map, List.getElem?_eq_getElem hj] <;> rfl
  have e := atI_nat e0
  rw [Int.toNat_of_nonneg h0] at e
  exact ⟨_, List.getElem_mem hj, e⟩
theorem words_asc : ∀ k ∈ wordsL, Asc k ∧ k.length ≤ 20 := by
  unfold wordsL Asc
  decide +kernel
theorem sides_asc : ∀ k ∈ sidesL, Asc k ∧ k.length ≤ 20 := by
  unfold sidesL Asc
  decide +kernel
theorem eq_of_nev {a b : Str} (h : ¬ (!decide (V.str a = V.str b)) = true) : a = b := by
  by_cases e : a = b
  · exact e
  · rw [decide_eq_false (fun z => e (by injection z))] at h
    exact absurd rfl h
theorem ne_of_nev {a b : Str} (h : (!decide (V.str a = V.str b)) = true) : ¬ a = b := fun e => by
  rw [decide_eq_true (by rw [e])] at h
  cases h
theorem sum1 : ∀ {ys : List Str}, (∀ y ∈ ys, y.length = 1) → (ys.map (·.length)).sum = ys.length
  | [], _ => rfl
  | y :: ys, h => by
    rw [List.map_cons, List.sum_cons, sum1 (fun z hz => h z (List.mem_cons_of_mem _ hz)), h y (List.mem_cons_self ..), List.length_cons]
    omega
theorem PrAt.same {K : PySem.W.Frag} {C : Addr} {H H' : Hp} {a : Addr} {ps : List (Str × Str)} (h : PrAt K C H a ps) (e : Same H H') : PrAt K C H' a ps := by
  obtain ⟨dx, tp, xs, h1, h2, h3⟩ := h
  exact ⟨dx, tp, xs, e _ _ h1, e _ _ h2, Al.mono (fun _ _ h => h.same e) h3⟩
theorem PrAt.lst {K : PySem.W.Frag} {C : Addr} {H H' : Hp} {a c : Addr} {ps : List (Str × Str)} {ys : List V} (h : PrAt K C H a ps) (k : Kp c H H') (hl : H c = some (.lst ys)) : PrAt K C H' a ps := by
  obtain ⟨dx, tp, xs, h1, h2, h3⟩ := h
  exact ⟨dx, tp, xs, k _ _ (fun w => by rw [w, hl] at h1; cases h1) h1, k _ _ (fun w => by rw [w, hl] at h2; cases h2) h2, Al.mono (fun _ _ h => h.lst k hl) h3⟩
def sp_Lmade (K : PySem.W.Frag) (C : Addr) : Sp := fun vs H Q _ => ∃ (a : Addr) (b : Bool) (xs : List V) (ps : List (Str × Str)), vs = [.ref a] ∧ SqB K b H a xs ∧ Al (PairV K H) xs ps ∧ ps.length ≤ 900 ∧
  ((∃ i, badP ps i ∧ (∀ j < i, ¬ badP ps j) ∧ ∀ (H' : Hp) (p pl : Addr), Same H H' → H p = none → H' p = some (.lst [.non, .ref pl]) → H' pl = some (.lst [.int (i : Nat), .bl true]) → Q (.ref p) H') ∨
    ((∀ j, ¬ badP ps j) ∧ ∀ (H' : Hp) (p r : Addr), Same H H' → H p = none → H' p = some (.lst [.ref r, .non]) → PrAt K C H' r ps → Q (.ref p) H'))
def sp_P_len (K : PySem.W.Frag) (C : Addr) : Sp := fun vs H Q _ => ∃ (r : Addr) (ps : List (Str × Str)), vs = [.ref r] ∧ PrAt K C H r ps ∧ Q (.int (ps.length : Nat)) H
def sp_P_iter (K : PySem.W.Frag) (C : Addr) : Sp := fun vs H Q _ => ∃ (r tp dx : Addr) (xs : List V), vs = [.ref r] ∧ H r = some (.ins C dx (rlf tp)) ∧ H tp = some (.tup xs) ∧ ∀ it, H it = none → Q (.ref it) (upd H it (itO it tp 0))
def sp_P_has (K : PySem.W.Frag) (C : Addr) : Sp := fun vs H Q _ => ∃ (r : Addr) (y : Str) (ps : List (Str × Str)), vs = [.ref r, .str y] ∧ PrAt K C H r ps ∧ ps.length ≤ 900 ∧ ∀ H', Same H H' → Q (.bl (inV (.str y) ((ps.map (·.2)).map V.str))) H'
def sp_Lpruleis (K : PySem.W.Frag) (C : Addr) : Sp := fun vs H Q _ => ∃ (m r l : Addr) (xs : List V) (ps : List (Str × Str)), vs = [.ref m, .ref l] ∧ SqL K H m [.ref r, .non] ∧ PrAt K C H r ps ∧ SqL K H l xs ∧ Al (PairV K H) xs ps ∧ ps.length ≤ 20 ∧ ∀ H', Same H H' → Q (.bl true) H'
def sp_law (K : PySem.W.Frag) : Sp := fun vs H Q _ => ∃ (a : Addr) (ns : List Int), vs = [.ref a] ∧ SqL K H a (ns.map V.int) ∧ ns.length ≤ 63 ∧ ∀ H', Q (.bl true) H'
theorem bad_take {ps : List (Str × Str)} {i j : Nat} (h : badP (ps.take i) j) : j < i ∧ badP ps j := by
  obtain ⟨p, hp, h⟩ := h
  rw [List.getElem?_take] at hp
  by_cases hj : j < i
  · rw [if_pos hj] at hp
    refine ⟨hj, p, hp, ?_⟩
    rw [List.take_take, Nat.min_eq_left (by omega)] at h
    exact h
  · rw [if_neg hj] at hp
    cases hp
theorem bad_app {ps : List (Str × Str)} {x : Str × Str} {j : Nat} (hj : j < ps.length) (h : badP (ps ++ [x]) j) : badP ps j := by
  obtain ⟨p, hp, h⟩ := h
  rw [List.getElem?_append_left hj] at hp
  rw [List.take_append_of_le_length (by omega)] at h
  exact ⟨p, hp, h⟩
theorem bad_last {ps : List (Str × Str)} {x : Str × Str} (h : ¬ x.1 ∈ sidesL ∨ ¬ x.2 ∈ wordsL ∨ x.2 ∈ ps.map (·.2)) : badP (ps ++ [x]) ps.length := by
  refine ⟨x, by rw [List.getElem?_append_right (Nat.le_refl _), Nat.sub_self]; rfl, ?_⟩
  rw [List.take_append_of_le_length (Nat.le_refl _), List.take_length]
  exact h
theorem pool_at {H : Hp} {p t : Addr} {o : HO} (h : PoolAt H p) (n : t ≠ p) : PoolAt (upd H t o) p := by
  obtain ⟨x, y, z, e⟩ := h
  exact ⟨x, y, z, by rw [upd_ne n.symm]; exact e⟩
theorem pair_same {K : PySem.W.Frag} {H : Hp} {x y : V} {t : Str × Str} {n : Nat} (hx : PairV K H x t) (hy : PairV K H y t) : SameV K H (n + 1) x y := by
  obtain ⟨p, rfl, hp⟩ := hx
  obtain ⟨q, rfl, hq⟩ := hy
  exact .inr (.inr ⟨p, q, _, _, rfl, rfl, hp, hq, by rw [sizeLine_eq]; show 2 ≤ 16777216; decide, Pairs.refl fun y hy => by
      simp only [List.mem_cons, List.not_mem_nil, or_false] at hy
      rcases hy with rfl | rfl <;> exact SameV.flat rfl⟩)
theorem Al.pairs {α : Type} {R : V → α → Prop} {S : V → V → Prop} (h : ∀ x y c, R x c → R y c → S x y) {xs ys : List V} {cs : List α} (a : Al R xs cs) (b : Al R ys cs) : Pairs S xs ys :=
  ⟨by rw [a.len, b.len], fun i x y hx hy => by
    obtain ⟨c, hc, r⟩ := a.at hx
    obtain ⟨c', hc', r'⟩ := b.at hy
    rw [hc] at hc'
    cases hc'
    exact h _ _ _ r r'⟩
theorem pairs_sameL {K : PySem.W.Frag} {H : Hp} {a b : Addr} {xs ys : List V} {ts : List (Str × Str)} {n : Nat} (ha : SqL K H a xs) (hb : SqL K H b ys) (hx : Al (PairV K H) xs ts) (hy : Al (PairV K H) ys ts) (hz : ts.length ≤ 1000) : SameV K H (n + 2) (.ref a) (.ref b) :=
  .inr (.inl ⟨a, b, _, _, rfl, rfl, ha, hb, by rw [hx.len, sizeLine_eq]; omega, Al.pairs (R := PairV K H) (S := SameV K H (n + 1)) (fun _ _ _ h1 h2 => pair_same h1 h2) hx hy⟩)
theorem pairs_sameT {K : PySem.W.Frag} {H : Hp} {a b : Addr} {xs ys : List V} {ts : List (Str × Str)} {n : Nat} (ha : SqT K H a xs) (hb : SqT K H b ys) (hx : Al (PairV K H) xs ts) (hy : Al (PairV K H) ys ts) (hz : ts.length ≤ 1000) : SameV K H (n + 2) (.ref a) (.ref b) :=
  .inr (.inr ⟨a, b, _, _, rfl, rfl, ha, hb, by rw [hx.len, sizeLine_eq]; omega, Al.pairs (R := PairV K H) (S := SameV K H (n + 1)) (fun _ _ _ h1 h2 => pair_same h1 h2) hx hy⟩)
theorem pairs3 {R : V → V → Prop} {a b c a' b' c' : V} (h1 : R a a') (h2 : R b b') (h3 : R c c') : Pairs R [a, b, c] [a', b', c'] := by
  refine ⟨rfl, fun i x y hx hy => ?_⟩
  match i, hx, hy with
  | 0, hx, hy => cases hx; cases hy; exact h1
  | 1, hx, hy => cases hx; cases hy; exact h2
  | 2, hx, hy => cases hx; cases hy; exact h3
  | i + 3, hx, hy => simp at hx
theorem cut_pre' (xs : List V) (w : Nat) : cutV xs none (some (w : Int)) = xs.take w := by
  have e0 : HT.sIx xs.length 0 none = 0 := rfl
  have e1 : HT.sIx xs.length xs.length (some (w : Int)) = min w xs.length := by
    simp only [HT.sIx]
    split <;> omega
  unfold cutV
  rw [e0, e1, List.drop_zero, Nat.sub_zero]
  by_cases h : w ≤ xs.length
  · rw [Nat.min_eq_left h]
  · rw [Nat.min_eq_right (by omega), List.take_length, List.take_of_length_le (by omega)]
/-! ### texts cut at a separator, joined, parted -/
theorem split_len1 (x y : Str) : (Txt.split x y).length ≤ x.length + 2 := PyProof.Rows.split_le x y
theorem join_cut (x y : Str) : Txt.join y (Txt.split x y) = x := by
  rw [TL.join_eq]
  exact StrLaws.join_split x y
theorem part_tl (a : Str) (h : (Txt.partition a " ").2.2 ≠ "") : a = (Txt.partition a " ").1 ++ " " ++ (Txt.partition a " ").2.2 := by
  have e := StrLaws.partition_sum a " "
  have k := TL.partition_par a " " (by decide +kernel)
  revert e h
  rw [k]
  cases hp : TL.par (TL.tl " ") [] (TL.tl a) with
  | none => exact fun h _ => absurd (by decide +kernel : Str.empty = ("" : Str)) h
  | some p => exact fun _ e => e.symm
def ptn (z : Str) : Str × Str := ((Txt.partition z " ").1, (Txt.partition z " ").2.2)
theorem words_no : ∀ w ∈ wordsL, w ≠ "" := by
  unfold wordsL
  decide +kernel
theorem ptn_tx : ∀ s ∈ sidesL, ∀ w ∈ wordsL, ptn (s ++ " " ++ w) = (s, w) := by
  unfold sidesL wordsL ptn
  decide +kernel
theorem tx_free : ∀ s ∈ sidesL, ∀ w ∈ wordsL, (44 : Nat) ∉ TL.tl (s ++ " " ++ w) ∧ (s ++ " " ++ w).length ≤ 20 := by
  unfold sidesL wordsL
  decide +kernel
theorem ptn_ok {z : Str} (h2 : (ptn z).2 ∈ wordsL) : z = (ptn z).1 ++ " " ++ (ptn z).2 := part_tl z (words_no _ h2)
def psOf (y : Str) : List (Str × Str) := if y = "first come" then [] else (Txt.split y ", ").map ptn
def txP (p : Str × Str) : Str := p.1 ++ " " ++ p.2
def txtP (ps : List (Str × Str)) : Str := if ps.length = 0 then "first come" else Txt.join ", " (ps.map txP)
def OkP (ps : List (Str × Str)) : Prop := ∀ j, ¬ badP ps j
theorem okP_mem {ps : List (Str × Str)} (h : OkP ps) : ∀ p ∈ ps, p.1 ∈ sidesL ∧ p.2 ∈ wordsL := fun p hp => by
  obtain ⟨i, hi, e⟩ := List.getElem_of_mem hp
  have n := h i
  refine ⟨Classical.byContradiction fun z => n ⟨p, by rw [List.getElem?_eq_getElem hi, e], .inl z⟩, Classical.byContradiction fun z => n ⟨p, by rw [List.getElem?_eq_getElem hi, e], .inr (.inl z)⟩⟩
theorem sep_tl : TL.tl (", " : Str) = [44, 32] := by decide +kernel
/-- the pairs of a written rule are its terms -/
theorem psOf_txtP {ps : List (Str × Str)} (h : OkP ps) : psOf (txtP ps) = ps := by
  have hm := okP_mem h
  unfold txtP
  by_cases e : ps.length = 0
  · rw [if_pos e, List.eq_nil_of_length_eq_zero e]
    decide +kernel
  · rw [if_neg e]
    have hne : ps.map txP ≠ [] := fun z => e (by rw [List.map_eq_nil_iff] at z; rw [z]; rfl)
    have hs : Txt.split (Txt.join ", " (ps.map txP)) ", " = ps.map txP := TL.split_join sep_tl (by decide +kernel) hne fun p hp => by
      obtain ⟨t, ht, rfl⟩ := List.mem_map.mp hp
      exact (tx_free _ (hm t ht).1 _ (hm t ht).2).1
    have en : Txt.join ", " (ps.map txP) ≠ "first come" := fun z => by
      rw [z] at hs
      have e1 : Txt.split "first come" ", " = [("first come" : Str)] := by decide +kernel
      rw [e1] at hs
      have e2 : ("first come" : Str) ∈ ps.map txP := by rw [← hs]; exact List.mem_singleton.mpr rfl
      obtain ⟨t, ht, et⟩ := List.mem_map.mp e2
      have e3 := ptn_tx _ (hm t ht).1 _ (hm t ht).2
      have e4 : ptn "first come" = (t.1, t.2) := by rw [← et]; exact e3
      have e5 := (hm t ht).1
      rw [show t.1 = (ptn "first come").1 from (congrArg Prod.fst e4).symm] at e5
      revert e5
      unfold ptn sidesL
      decide +kernel
    unfold psOf
    rw [if_neg en, hs, List.map_map]
    conv => rhs; rw [← List.map_id ps]
    refine List.map_congr_left fun t ht => ?_
    exact ptn_tx _ (hm t ht).1 _ (hm t ht).2
/-- a text whose pairs are right is their written form -/
theorem txtP_psOf {y : Str} (h : OkP (psOf y)) : txtP (psOf y) = y := by
  have hm := okP_mem h
  unfold psOf at h hm ⊢
  by_cases e : y = "first come"
  · rw [if_pos e, e]
    rfl
  · rw [if_neg e] at h hm ⊢
    have hl : ¬ ((Txt.split y ", ").map ptn).length = 0 := fun z => by
      have e1 := join_cut y ", "
      rw [List.length_map] at z
      have e2 : TL.tl y = [] ∨ True := .inr trivial
      have e3 := TL.split_spl y ", " (by decide +kernel) (TL.kind_ok (by decide +kernel))
      rw [List.eq_nil_of_length_eq_zero z] at e3
      have e4 : ∀ (k : Nat) (acc l : List Nat), TL.spl (TL.tl ", ") k acc l ≠ [] := fun k acc l => by
        induction l generalizing k acc with
        | nil => rw [TL.spl_nil]; simp
        | cons c r ih =>
          cases k with
          | zero =>
            cases hp : TL.pre (TL.tl ", ") (c :: r) with
            | true => rw [TL.spl_hit hp]; simp
            | false => rw [TL.spl_miss hp]; exact ih _ _
          | succ k => exact ih k acc
      exact e4 _ _ _ e3.symm
    unfold txtP
    rw [if_neg hl, List.map_map]
    have e2 : (Txt.split y ", ").map (txP ∘ ptn) = Txt.split y ", " := by
      conv => rhs; rw [← List.map_id (Txt.split y ", ")]
      refine List.map_congr_left fun z hz => ?_
      exact (ptn_ok (hm _ (List.mem_map_of_mem hz)).2).symm
    rw [e2, join_cut]
theorem okP_len {ps : List (Str × Str)} (h : OkP ps) : ps.length ≤ 7 := by
  have nd : ∀ n, ((ps.take n).map (·.2)).Nodup := fun n => by
    induction n with
    | zero => simp
    | succ n ih =>
      cases e : ps[n]? with
      | none => rw [List.take_of_length_le (by rw [List.getElem?_eq_none_iff] at e; omega)]; rw [List.take_of_length_le (by rw [List.getElem?_eq_none_iff] at e; omega)] at ih; exact ih
      | some p =>
        rw [← take_snoc e, List.map_append, List.nodup_append]
        refine ⟨ih, by simp, fun a ha b hb eab => ?_⟩
        have hb' : b = p.2 := by simpa using hb
        subst eab
        rw [hb'] at ha
        exact h n ⟨p, e, .inr (.inr ha)⟩
  have nd' := nd ps.length
  rw [List.take_length] at nd'
  have sub : ps.map (·.2) ⊆ wordsL := fun w hw => by
    obtain ⟨p, hp, rfl⟩ := List.mem_map.mp hw
    exact (okP_mem h p hp).2
  have z := List.Nodup.length_le_of_subset nd' sub
  rw [List.length_map] at z
  exact z
theorem txtP_len {ps : List (Str × Str)} (h : OkP ps) : (txtP ps).length ≤ 200 ∧ ((ps.map txP).map (·.length)).sum + (ps.map txP).length * (", " : Str).length ≤ 200 := by
  have hm := okP_mem h
  have h7 := okP_len h
  have e3 : (", " : Str).length = 2 := by decide +kernel
  have s20 : ∀ l : List (Str × Str), (∀ p ∈ l, p.1 ∈ sidesL ∧ p.2 ∈ wordsL) → ((l.map txP).map (·.length)).sum ≤ 20 * l.length := fun l => by
    induction l with
    | nil => intro _; exact Nat.zero_le _
    | cons p l ih =>
      intro hl
      have e := ih fun q hq => hl q (List.mem_cons_of_mem _ hq)
      have e2 := (tx_free _ (hl p (List.mem_cons_self ..)).1 _ (hl p (List.mem_cons_self ..)).2).2
      rw [List.map_cons, List.map_cons, List.sum_cons, List.length_cons]
      have e4 : (txP p).length ≤ 20 := e2
      omega
  have s1 := s20 ps hm
  refine ⟨?_, by rw [e3, List.length_map]; omega⟩
  unfold txtP
  by_cases e : ps.length = 0
  · rw [if_pos e]
    decide +kernel
  · rw [if_neg e]
    rw [TL.join_eq]
    cases hp : ps.map txP with
    | nil => decide +kernel
    | cons a l =>
      rw [PyProof.Rows.len_join_cons, ← hp, e3]
      have e5 := congrArg List.length hp
      rw [List.length_map, List.length_cons] at e5
      omega
theorem mem_le_sum : ∀ {l : List Nat} {n : Nat}, n ∈ l → n ≤ l.sum
  | [], _, h => by cases h
  | a :: l, n, h => by
    rw [List.sum_cons]
    rcases List.mem_cons.mp h with rfl | h
    · omega
    · have := mem_le_sum h
      omega
def sp_term_of : Sp := fun vs H Q _ => ∃ y : Str, vs = [.str y] ∧ y.length ≤ 1000 ∧ ∀ (H' : Hp) (p : Addr), Same H H' → H p = none → H' p = some (.tup [.str (ptn y).1, .str (ptn y).2]) → Q (.ref p) H'
def sp_parseP (K : PySem.W.Frag) (C B : Addr) : Sp := fun vs H Q E => ∃ y : Str, vs = [.ref C, .str y] ∧ y.length ≤ 800 ∧ ((∃ i, badP (psOf y) i ∧ (∀ j < i, ¬ badP (psOf y) j) ∧ ∀ (H' : Hp) (d : Addr), Same H H' → H' d = none → E (.ref B) (some d) (upd H' d (.xd [(("place" : Str), .int (i : Nat))]))) ∨
  (OkP (psOf y) ∧ ∀ (H' : Hp) (q : Addr), Same H H' → PrAt K C H' q (psOf y) → Q (.ref q) H'))
def sp_strP (K : PySem.W.Frag) (C : Addr) : Sp := fun vs H Q _ => ∃ (r : Addr) (ps : List (Str × Str)), vs = [.ref r] ∧ PrAt K C H r ps ∧ OkP ps ∧ ∀ H', Same H H' → Q (.str (txtP ps)) H'
def sp_LtextP (K : PySem.W.Frag) : Sp := fun vs H Q _ => ∃ (l : Addr) (xs : List V) (ps : List (Str × Str)), vs = [.ref l] ∧ SqL K H l xs ∧ Al (PairV K H) xs ps ∧ OkP ps ∧ ∀ H', Same H H' → Q (.str (txtP ps)) H'
def sp_Lany : Sp := fun vs H Q _ => ∃ (p : Addr) (g : Str), vs = [.ref p, .str g] ∧ PoolAt H p ∧ 0 < g.length ∧ g.length ≤ 1000 ∧ ∀ (H' : Hp) (z : Str), Kp p H H' → z.length ≤ 40 → Q (.str z) H'
def sp_Ltermtext : Sp := fun vs H Q _ => ∃ p : Addr, vs = [.ref p] ∧ PoolAt H p ∧ ∀ (H' : Hp) (z : Str), Kp p H H' → PoolAt H' p → z.length ≤ 20 → Q (.str z) H'
def sp_Lrow : Sp := fun vs H Q _ => ∃ p : Addr, vs = [.ref p] ∧ PoolAt H p ∧ ∀ (H' : Hp) (z : Str), Kp p H H' → z.length ≤ 200 → Q (.str z) H'
def sp_Lcut : Sp := fun vs H Q _ => ∃ y : Str, vs = [.str y] ∧ y.length ≤ 800 ∧ ∀ (H' : Hp) (q : Addr), Same H H' → H q = none → H' q = some (.lst ((Txt.split y ", ").map V.str)) → Q (.ref q) H'
def sp_Lterm : Sp := fun vs H Q _ => ∃ z : Str, vs = [.str z] ∧ (∀ s ∈ sidesL, ∀ w ∈ wordsL, z = s ++ " " ++ w → ∀ (H' : Hp) (p : Addr), Same H H' → H p = none → H' p = some (.tup [.str s, .str w]) → Q (.ref p) H') ∧ ((∀ s ∈ sidesL, ∀ w ∈ wordsL, z ≠ s ++ " " ++ w) → ∀ H', Same H H' → Q .non H')
def sp_Lreading (K : PySem.W.Frag) : Sp := fun vs H Q _ => ∃ y : Str, vs = [.str y] ∧ y.length ≤ 800 ∧ (∀ i, badP (psOf y) i → (∀ j < i, ¬ badP (psOf y) j) → ∀ (H' : Hp) (q : Addr), Same H H' → H' q = some (.lst [.non, .int (i : Nat)]) → Q (.ref q) H') ∧
  (OkP (psOf y) → ∀ (H' : Hp) (q tl : Addr) (xs : List V), Same H H' → H' q = some (.lst [.ref tl, .non]) → H' tl = some (.lst xs) → Al (PairV K H') xs (psOf y) → Q (.ref q) H')
def sp_Lreads (K : PySem.W.Frag) : Sp := fun vs H Q _ => ∃ (y : Str) (d : Addr), vs = [.str y, .ref d] ∧ y.length ≤ 800 ∧ ((∃ i, badP (psOf y) i ∧ (∀ j < i, ¬ badP (psOf y) j) ∧ SqL K H d [.non, .int (i : Nat)]) ∨ (OkP (psOf y) ∧ ∃ (tl : Addr) (xs : List V), SqL K H d [.ref tl, .non] ∧ SqL K H tl xs ∧ Al (PairV K H) xs (psOf y))) ∧ ∀ H', Same H H' → Q (.bl true) H'
theorem tx_l2 : ∀ s ∈ sidesL, ∀ w ∈ wordsL, (Str.empty ++ s).length ≤ 20 ∧ (Str.empty ++ s ++ " ").length ≤ 20 ∧ (Str.empty ++ s ++ " " ++ w).length ≤ 20 ∧ s.length ≤ 20 ∧ w.length ≤ 20 ∧ (s ++ " " ++ w).length ≤ 20 ∧ (s ++ " ").length ≤ 20 ∧ (Str.empty ++ s ++ " ") ++ w = s ++ " " ++ w := by
  unfold sidesL wordsL
  decide +kernel
theorem l20 {n : Nat} (h : n ≤ 20) : n ≤ sizeLine := Nat.le_of_lt (small1000 (by omega))
theorem two_same {K : PySem.W.Frag} {H : Hp} {a b : Addr} {n : Nat} {u v : V} (ha : H a = some (.lst [u, .bl true])) (hb : H b = some (.lst [v, .bl true])) (e : u = v) (f : flatD u = true) : SameV K H (n + 1) (.ref a) (.ref b) := by
  subst e
  exact .inr (.inl ⟨a, b, _, _, rfl, rfl, SqL.of ha, SqL.of hb, (by show 2 ≤ sizeLine; decide), Pairs.refl fun x hx => by
    simp only [List.mem_cons, List.not_mem_nil, or_false] at hx
    rcases hx with rfl | rfl
    · exact SameV.flat f
    · exact SameV.flat rfl⟩)
/-- the drawn terms as pairs of texts -/
def prT (t : Bool × Nat) : Str × Str := (sd t.1, wd t.2)
theorem terms_pairs {K : PySem.W.Frag} {H : Hp} {xs : List V} {ts : List (Bool × Nat)} (h : TermsV K H xs ts) : Al (PairV K H) xs (ts.map prT) := by
  obtain ⟨hl, h⟩ := h
  induction xs generalizing ts with
  | nil =>
    cases ts with
    | nil => exact .nil
    | cons t ts => cases hl
  | cons x xs ih =>
    cases ts with
    | nil => cases hl
    | cons t ts =>
      obtain ⟨_, p, ex, hp⟩ := h 0 x t rfl rfl
      exact .cons ⟨p, ex, hp⟩ (ih (by simpa using hl) fun i y u h1 h2 => h (i + 1) y u h1 h2)
theorem wd_in : ∀ k < 7, wd k ∈ wordsL := by unfold wordsL; decide +kernel
theorem sd_in : ∀ b : Bool, sd b ∈ sidesL := by unfold sidesL; decide +kernel
theorem wd_inj7 : ∀ j < 7, ∀ k < 7, wd j = wd k → j = k := by decide +kernel
theorem okt_okP {ts : List (Bool × Nat)} (h : Okt ts) : OkP (ts.map prT) := by
  rintro j ⟨p, hp, hb⟩
  rw [List.getElem?_map] at hp
  cases e : ts[j]? with
  | none => rw [e] at hp; cases hp
  | some t =>
    rw [e] at hp
    cases hp
    have t7 := h.2 t (List.mem_of_getElem? e)
    rcases hb with hb | hb | hb
    · exact hb (sd_in _)
    · exact hb (wd_in _ t7)
    · rw [← List.map_take, List.map_map] at hb
      obtain ⟨u, hu, eu⟩ := List.mem_map.mp hb
      have u7 := h.2 u (List.mem_of_mem_take hu)
      have e2 : u.2 = t.2 := wd_inj7 _ u7 _ t7 eu
      obtain ⟨i, hi, ei⟩ := List.getElem_of_mem hu
      rw [List.getElem_take] at ei
      rw [List.length_take] at hi
      have hj := (List.getElem?_eq_some_iff.mp e)
      obtain ⟨hj, ej⟩ := hj
      have z := (List.getElem_inj h.1 (i := i) (j := j) (h₀ := by rw [List.length_map]; omega) (h₁ := by rw [List.length_map]; omega)).mp (by rw [List.getElem_map, List.getElem_map, ei, ej, e2])
      omega
theorem side_at {r : Int} (h0 : 0 ≤ r) (h1 : r < 2) : atI [V.str "least", V.str "most"] r = some (.str (sd (decide (r = 0)))) := by
  have : r = 0 ∨ r = 1 := by omega
  rcases this with e | e
  · subst e; rfl
  · subst e; rfl
def oddsL : List Str := ["", "least", "least  slack", " least slack", "least slack ", "slack least", "first come", "Most left", "least slack most"]
def sepsL : List Str := [",", ",  ", ", ", ", ", ", ", ", ", ", ", ", "]
def shortsL : List Str := ["", "first come", "first  come", "First come", "first come, least got", "least got, first come", ",", ", ", "least got, ", ", least got", " first come", "first come "]
theorem odds_len : ∀ k ∈ oddsL, k.length ≤ 20 := by unfold oddsL; decide +kernel
theorem seps_len : ∀ k ∈ sepsL, k.length ≤ 3 := by unfold sepsL; decide +kernel
theorem shorts_len : ∀ k ∈ shortsL, k.length ≤ 40 := by unfold shortsL; decide +kernel
theorem join_le (y : Str) (l : List Str) : (Txt.join y l).length ≤ (l.map (·.length)).sum + l.length * y.length := by
  rw [TL.join_eq]
  cases l with
  | nil => exact Nat.zero_le _
  | cons a r =>
    rw [PyProof.Rows.len_join_cons, List.length_cons, Nat.add_mul]
    omega
theorem sum_le20 : ∀ {ys : List Str}, (∀ y ∈ ys, y.length ≤ 20) → (ys.map (·.length)).sum ≤ 20 * ys.length
  | [], _ => Nat.zero_le _
  | y :: ys, h => by
    have e := sum_le20 fun z hz => h z (List.mem_cons_of_mem _ hz)
    have e2 := h y (List.mem_cons_self ..)
    rw [List.map_cons, List.sum_cons, List.length_cons]
    omega
theorem cut_tl2 {y : Str} {i : Nat} (h : i ≤ y.length) : TL.tl (cutS y (some (i : Int)) (some ((i : Int) + 2))) = ((TL.tl y).drop i).take 2 := by
  have hl := TL.len_tl y
  have e0 : HT.sIx y.length 0 (some (i : Int)) = i := by
    simp only [HT.sIx]
    split <;> omega
  have e1 : HT.sIx y.length y.length (some ((i : Int) + 2)) = min (i + 2) y.length := by
    simp only [HT.sIx]
    split <;> omega
  show ((y.cps.toList.drop (HT.sIx y.length 0 (some (i : Int)))).take (HT.sIx y.length y.length (some ((i : Int) + 2)) - HT.sIx y.length 0 (some (i : Int)))).toArray.toList = _
  rw [e0, e1, List.toList_toArray]
  by_cases h2 : i + 2 ≤ y.length
  · rw [Nat.min_eq_left h2]
    congr 1
    omega
  · rw [Nat.min_eq_right (by omega), List.take_of_length_le (by rw [List.length_drop]; show (TL.tl y).length - i ≤ _; omega), List.take_of_length_le (by rw [List.length_drop]; omega)]
theorem cut_pre2 {y : Str} {i : Nat} (h : i ≤ y.length) : cutS y (some (i : Int)) (some ((i : Int) + 2)) = ", " ↔ TL.pre [44, 32] ((TL.tl y).drop i) = true := by
  unfold TL.pre
  rw [beq_iff_eq, show ([44, 32] : List Nat).length = 2 from rfl, ← cut_tl2 h, ← sep_tl]
  exact ⟨fun e => by rw [e], fun e => TL.ext_tl e⟩
theorem str_of {ks : List Str} {i : Nat} {x : V} (h : (ks.map V.str)[i]? = some x) : ∃ k, ks[i]? = some k ∧ x = .str k := by
  rw [List.getElem?_map] at h
  cases e : ks[i]? with
  | none => rw [e] at h; cases h
  | some k => rw [e] at h; cases h; exact ⟨k, rfl, rfl⟩
theorem empty_len : ("" : Str).length = 0 := by decide +kernel
structure Txt (P : Program) (w : World) (K : PySem.W.Frag) (mg : Str → Option Value) (C_BadRule C_CableError C_Rule A_WORDS A_OTHER_SIDE : Addr) : Prop where
  g_BadRule : mg "BadRule" = some (.ref C_BadRule)
  err_BadRule : ∃ fI : Addr, PySem.ErrX.ErrTxt P K mg C_BadRule fI
  k_BadRule : PySem.W.keepIn K (.ref C_BadRule) = true
  b_BadRule : PySem.W.subIn K (.ref C_BadRule) (.type "BaseException") = some true
  t_BadRule : PySem.W.typeIn K (.ref C_BadRule) = some (.type "type")
  ic_BadRule : PySem.W.isClsIn K C_BadRule = true
  s_BadRule : PySem.W.subIn K (.ref C_BadRule) (.ref C_BadRule) = some true
  e_BadRule : ExcC K C_BadRule
  g_CableError : mg "CableError" = some (.ref C_CableError)
  g_Rule : mg "Rule" = some (.ref C_Rule)
  cl_Rule : Cls K C_Rule
  nf_Rule_terms : NoAttr K C_Rule "terms"
  cr_Rule : ClX.CRead K C_Rule (.type "type")
  i_Rule : C8.InsC K C_Rule
  c_WORDS : mg "WORDS" = some (.ref A_WORDS)
  q_WORDS : ∀ H : Hp, SqT K H A_WORDS [V.str "stay", V.str "need", V.str "left", V.str "want", V.str "here", V.str "got", V.str "slack"]
  c_OTHER_SIDE : mg "OTHER_SIDE" = some (.ref A_OTHER_SIDE)
  d_OTHER_SIDE : ∃ (es : Array DictEntry) (n : Nat), KDict K w A_OTHER_SIDE es n
  no_OTHER_SIDE : ∀ z : Str, ¬ z ∈ (["least", "most"] : List Str) → PySem.W.nsIn K A_OTHER_SIDE z = some none
  e_OTHER_SIDE_least : ∃ u : Value, PySem.W.nsIn K A_OTHER_SIDE "least" = some (some u) ∧ RelV (.str "most") u
  e_OTHER_SIDE_most : ∃ u : Value, PySem.W.nsIn K A_OTHER_SIDE "most" = some (some u) ∧ RelV (.str "least") u
  n_enumerate : mg "enumerate" = none
  n_tuple : mg "tuple" = none
  n_len : mg "len" = none
  n_iter : mg "iter" = none
  n_int : mg "int" = none
  n_abs : mg "abs" = none
  n_isinstance : mg "isinstance" = none
  n_bool : mg "bool" = none
  n_str : mg "str" = none
  n_list : mg "list" = none
  n_range : mg "range" = none
  n_ValueError : mg "ValueError" = none
  kt_cable : PySem.W.kitOne K (.ref C_BadRule) (.ref C_CableError) = some true
  kt_value : PySem.W.kitOne K (.ref C_BadRule) (.type "ValueError") = some true

section
variable {P : Program} {w : World} {K : PySem.W.Frag} {mg : Str → Option Value} {base : Heap} {C_BadRule C_CableError C_Rule A_WORDS A_OTHER_SIDE : Addr}
theorem ok_Rule_init {f : Addr} {fd : FuncData} (F : Fun K "__init__" "Rule.__init__" s_Rule_init f fd) (T : Txt P w K mg C_BadRule C_CableError C_Rule A_WORDS A_OTHER_SIDE)  :
    FnOk P w K mg base (L2.CX P w) 1 f fd ["self", "terms"] (sp_Rule_initP K C_Rule C_BadRule) := by
  refine F.okX sc_Rule_init (fun vs H Q E h => ?_) (fun cdv A outer s H vs Q E hr h => ?_)
  · obtain ⟨x, dx, tp, b, xs, ps, rfl, _⟩ := h
    rfl
  · obtain ⟨x, dx, tp, bb, xs, ps, rfl, hx, htp, hps, hz, q⟩ := h
    refine ⟨_, (pss_cons (ps_set (i := 2) sc_Rule_init.nd rfl (Or.inl rfl) (pe_lst pa_nil))
      (pss_cons (ps_for (passes_of rfl) rfl (pi_enumS (by rfl) T.n_enumerate (pa_cons (pv 1) pa_nil)) (pg_tup rfl (pgs_cons (pg_name (i := 3) sc_Rule_init.nd rfl (Or.inl rfl)) (pgs_cons (pg_tup rfl (pgs_cons (pg_name (i := 4) sc_Rule_init.nd rfl (Or.inl rfl)) (pgs_cons (pg_name (i := 5) sc_Rule_init.nd rfl (Or.inl rfl)) pgs_nil))) pgs_nil)))
        (pss_cons (ps_if (PW.pt (pw_or (pt_cmpR (op_notIn_kdE T.d_OTHER_SIDE) (pv 4) (pe_glob (v := .ref A_OTHER_SIDE) rfl T.c_OTHER_SIDE rfl) (by rfl)) (pw_or (pt_cmpR op_notIn_seq (pv 5) (pe_glob (v := .ref A_WORDS) rfl T.c_WORDS rfl) (by rfl)) (pw_or1 (pt_cmpR op_in_seq (pv 5) (pv 2) (by rfl)))))) (pss_one (ps_raise rfl (takes_of rfl rfl rfl rfl) (pmk_errE T.err_BadRule T.g_BadRule hr (pa_cons (pv 3) pa_nil)))) pss_nil)
      (pss_one (ps_expr (pe_bm PySem.F.plainAttrs_list PySem.F.slot_list_append PySem.F.type_list_append mt_append (pv 2) (pa_cons (pv 5) pa_nil))))))
      (pss_one (ps_fld (pv 0) (pe_callTy call_tuple_of (by rfl) T.n_tuple (by decide +kernel) (pa_cons (pe_lc (own := [("side", 4), ("word", 5)]) (g := (gTup K 2 (gCons (gName 4) (gCons (gName 5) gNil)))) (tt := tYes) rfl sc_Rule_init.nd (pi_seqB (pv 1)) (blkOk_by (own := [("side", 4), ("word", 5)]) (N := ["self", "terms", "words", "place", "side", "word"]) (sc := defScope s_Rule_init) (by decide +kernel)) (fun _ _ _ _ _ => (pg_tup rfl (pgs_cons (pg_name (i := 4) sc_Rule_init.nd rfl (Or.inl rfl)) (pgs_cons (pg_name (i := 5) sc_Rule_init.nd rfl (Or.inl rfl)) pgs_nil)))) (fun _ _ _ _ _ => pts_nil) (fun _ _ _ _ _ => (pe_tup (pa_cons (pv 4) (pa_cons (pv 5) pa_nil))))) pa_nil)) rfl)))), ?_⟩
    have hlen := hps.len
    refine ⟨Nat.zero_le _, fun lw hlw => ?_⟩
    have s0 : Same H (upd H lw (.lst [])) := same_upd hlw
    refine ⟨_, rfl, tp, xs, bb, rfl, sqb_same htp s0, for_enumB (K := K) (bb := bb) (a := tp) (xs := xs) (fun i σ H' => ∃ v3 v4 v5 : Option V, σ = [some (.ref x), some (.ref tp), some (.ref lw), v3, v4, v5] ∧ Same H H' ∧ H' lw = some (.lst (((ps.take i).map (·.2)).map V.str)) ∧ ∀ j < i, ¬ badP ps j)
      ⟨none, none, none, rfl, s0, upd_same, fun j hj => by omega⟩ (fun i σ H' _ ⟨_, _, _, _, s1, _⟩ => sqb_same htp s1) ?_ ?_⟩
    · rintro i y σ H' T' hy ⟨v3, v4, v5, rfl, s1, hlw1, hb⟩ hT
      obtain ⟨pr, hpr, pt, rfl, hpt⟩ := hps.at hy
      have hi : i < ps.length := (List.getElem?_eq_some_iff.mp hpr).1
      have sT := same_upd (o := .tup [.int (i : Nat), .ref pt]) hT
      have s2 := s1.trans sT
      have hlw2 := sT _ _ hlw1
      have hlog : ((i : Nat) : Int).natAbs.log2 < 1920 := Nat.lt_of_lt_of_le (PySem.Flt.log2_lt_of (k := 200) (by decide) (by rw [Int.natAbs_natCast]; exact Nat.lt_of_lt_of_le (show i < 100001 by omega) (by decide))) (by decide)
      have bad : badP ps i → ∀ d : Addr, upd H' T' (.tup [.int (i : Nat), .ref pt]) d = none → E (.ref C_BadRule) (some d) (upd (upd H' T' (.tup [.int (i : Nat), .ref pt])) d (.xd [(("place" : Str), .int (i : Nat))])) := fun hbad d hd => by
        rcases q with ⟨k, hk, hk2, q⟩ | ⟨hok, _⟩
        · have e : k = i := by
            rcases Nat.lt_trichotomy k i with h | h | h
            · exact absurd hk (hb k h)
            · exact h
            · exact absurd hbad (hk2 i h)
          subst e
          exact q _ d s2 hd
        · exact absurd hbad (hok i)
      obtain ⟨r, hr1, hr2⟩ : ∃ r : Option Value, PySem.W.nsIn K A_OTHER_SIDE pr.1 = some r ∧ r.isSome = decide (pr.1 ∈ sidesL) := by
        by_cases e1 : pr.1 = "least"
        · obtain ⟨u, h1, _⟩ := T.e_OTHER_SIDE_least
          exact ⟨some u, by rw [e1]; exact h1, by rw [e1]; exact (by decide +kernel : true = decide (("least" : Str) ∈ sidesL))⟩
        · by_cases e2 : pr.1 = "most"
          · obtain ⟨u, h1, _⟩ := T.e_OTHER_SIDE_most
            exact ⟨some u, by rw [e2]; exact h1, by rw [e2]; exact (by decide +kernel : true = decide (("most" : Str) ∈ sidesL))⟩
          · have hn : ¬ pr.1 ∈ sidesL := by
              unfold sidesL
              simp only [List.mem_cons, List.not_mem_nil, or_false, not_or]
              exact ⟨e1, e2⟩
            exact ⟨none, T.no_OTHER_SIDE _ hn, by rw [decide_eq_false hn]; rfl⟩
      refine ⟨T', _, rfl, SqT.of upd_same, rfl, _, _, rfl, _, _, rfl, pt, _, rfl, sqt_same hpt s2, rfl, _, _, rfl, _, _, rfl, rfl, rfl, ?_⟩
      refine ⟨_, rfl, _, r, rfl, rfl, hr1, _, rfl, ?_⟩
      refine iteB (fun hc => ?_) (fun hc => ?_)
      · have n1 : ¬ pr.1 ∈ sidesL := fun z => by
          rw [decide_eq_true z] at hr2
          rw [hr2] at hc
          cases hc
        exact iteT ⟨_, rfl, _, rfl, hlog, fun d hd => bad ⟨pr, hpr, .inl n1⟩ d hd⟩
      · have n1 : pr.1 ∈ sidesL := by
          by_cases z : pr.1 ∈ sidesL
          · exact z
          · rw [decide_eq_false z] at hr2
            rw [hr2] at hc
            cases hc
        have hw : inV (.str pr.2) [V.str "stay", V.str "need", V.str "left", V.str "want", V.str "here", V.str "got", V.str "slack"] = decide (pr.2 ∈ wordsL) := inV_str (ks := wordsL)
        refine ⟨_, rfl, A_WORDS, _, rfl, .inr (T.q_WORDS _), rfl, rfl, _, rfl, iteB (fun hc2 => ?_) (fun hc2 => ?_)⟩
        · have hc3 : (!inV (.str pr.2) [V.str "stay", V.str "need", V.str "left", V.str "want", V.str "here", V.str "got", V.str "slack"]) = true := hc2
          rw [hw] at hc3
          have n2 : ¬ pr.2 ∈ wordsL := fun z => by rw [decide_eq_true z] at hc3; cases hc3
          exact iteT ⟨_, rfl, _, rfl, hlog, fun d hd => bad ⟨pr, hpr, .inr (.inl n2)⟩ d hd⟩
        · have hc3 : (!inV (.str pr.2) [V.str "stay", V.str "need", V.str "left", V.str "want", V.str "here", V.str "got", V.str "slack"]) = false := hc2
          rw [hw] at hc3
          have n2 : pr.2 ∈ wordsL := by
            by_cases z : pr.2 ∈ wordsL
            · exact z
            · rw [decide_eq_false z] at hc3
              cases hc3
          have he : inV (.str pr.2) (((ps.take i).map (·.2)).map V.str) = decide (pr.2 ∈ (ps.take i).map (·.2)) := inV_str
          refine ⟨_, rfl, _, rfl, lw, _, rfl, .inl (SqL.of hlw2), rfl, flat_strs _, _, rfl, ?_⟩
          refine iteB (fun hc4 => ?_) (fun hc4 => ?_)
          · have hc5 : inV (.str pr.2) (((ps.take i).map (·.2)).map V.str) = true := hc4
            rw [he] at hc5
            exact ⟨_, rfl, _, rfl, hlog, fun d hd => bad ⟨pr, hpr, .inr (.inr (of_decide_eq_true hc5))⟩ d hd⟩
          · have hc5 : inV (.str pr.2) (((ps.take i).map (·.2)).map V.str) = false := hc4
            rw [he] at hc5
            have n3 : ¬ pr.2 ∈ (ps.take i).map (·.2) := fun z => by rw [decide_eq_true z] at hc5; cases hc5
            refine ⟨_, rfl, .inl ⟨rfl, _, SqL.of hlw2⟩, _, rfl, lw, _, _, rfl, rfl, hlw2, small1000 (by rw [List.length_map, List.length_map, List.length_take]; omega), ?_⟩
            refine ⟨_, _, _, rfl, same_app s2 hlw, ?_, fun j hj => ?_⟩
            · rw [upd_same, ← take_snoc hpr, List.map_append, List.map_append]
              rfl
            · by_cases e : j = i
              · subst e
                rintro ⟨p', hp', h⟩
                rw [hpr] at hp'
                cases hp'
                rcases h with h | h | h
                · exact h n1
                · exact h n2
                · exact n3 h
              · exact hb j (by omega)
    · rintro σ H' ⟨v3, v4, v5, rfl, s1, hlw1, hb⟩
      rw [hlen] at hb
      have hok : ∀ j, ¬ badP ps j := fun j hj => by
        by_cases h : j < ps.length
        · exact hb j h hj
        · obtain ⟨n, hn, _⟩ := hj
          have := (List.getElem?_eq_some_iff.mp hn).1
          omega
      have q' : ∀ H', Kp x H H' → PrAt K C_Rule H' x ps → Q .non H' := by
        rcases q with ⟨i, hi, _⟩ | ⟨_, q⟩
        · exact absurd hi (hok i)
        · exact q
      have htp1 := sqb_same htp s1
      refine ⟨_, rfl, tp, _, bb, rfl, htp1, fun D hD => lc_seqB (K := K) (bb := bb) (a := tp) (xs := xs) (fun i H2 => Same H' H2 ∧ ∃ ys, H2 D = some (.lst ys) ∧ Al (PairV K H2) ys (ps.take i)) ⟨same_upd hD, [], upd_same, .nil⟩ (fun i H2 _ ⟨s2, _⟩ => sqb_same htp1 s2) ?_ ?_⟩
      · rintro i y H2 hy ⟨s2, ys, hD2, hys⟩
        obtain ⟨pr, hpr, pt, rfl, hpt⟩ := hps.at hy
        have hpt' := sqt_same hpt (s1.trans s2)
        refine ⟨pt, _, rfl, hpt', rfl, _, _, rfl, _, _, rfl, rfl, rfl, tyes ?_⟩
        refine ⟨_, rfl, _, rfl, (by show 2 ≤ sizeLine; decide), fun T' hT => ?_⟩
        have sT := same_upd (o := .tup [.str pr.1, .str pr.2]) hT
        have hD3 := sT _ _ hD2
        have e1 : ys.length ≤ 900 := by rw [hys.len, List.length_take]; omega
        refine ⟨ys, hD3, small1000 (by omega), same_app (s2.trans sT) hD, _, upd_same, ?_⟩
        have nTD : T' ≠ D := fun z => by rw [z, hD2] at hT; cases hT
        rw [← take_snoc hpr]
        exact (Al.mono (fun _ _ h => (h.same sT).lst Kp.upd hD3) hys).snoc ⟨T', rfl, SqT.of (by rw [upd_ne nTD, upd_same])⟩
      · rintro H2 ⟨s2, ys, hD2, hys⟩
        rw [hlen, List.take_length] at hys
        refine ⟨D, _, rfl, .inl ⟨SqL.of hD2, fun z hz => ?_⟩⟩
        have s12 := s1.trans s2
        have sz := same_upd (o := .tup ys) hz
        have hx3 := (s12.trans sz) _ _ hx
        refine ⟨_, rfl, x, C_Rule, dx, [], rfl, hx3, T.cl_Rule, T.nf_Rule_terms, (by show 0 < 1000; decide), ?_⟩
        have nzx : z ≠ x := fun w => by rw [w, s12 _ _ hx] at hz; cases hz
        refine q' _ (fun b o nb e => by rw [upd_ne nb]; exact sz _ _ (s12 _ _ e)) ⟨dx, z, ys, upd_same, by rw [upd_ne nzx, upd_same], ?_⟩
        refine Al.mono (fun v p h => ?_) hys
        obtain ⟨c, ec, hc⟩ := h.same sz
        refine ⟨c, ec, ?_⟩
        rcases hc with (h | ⟨o, h⟩) | h
        · exact .inl (.inl (by rw [upd_ne (fun w => by rw [w, hx3] at h; cases h)]; exact h))
        · exact .inl (.inr ⟨o, by rw [upd_ne (fun w => by rw [w, hx3] at h; cases h)]; exact h⟩)
        · exact .inr h
theorem ok_Rule_len {f : Addr} {fd : FuncData} (F : Fun K "__len__" "Rule.__len__" s_Rule_len f fd) (T : Txt P w K mg C_BadRule C_CableError C_Rule A_WORDS A_OTHER_SIDE)  :
    FnOk P w K mg base CX0 1 f fd ["self"] (sp_P_len K C_Rule) := by
  refine F.ok sc_Rule_len (fun vs H Q E h => ?_) (fun cdv A outer s H vs Q E hr h => ?_)
  · obtain ⟨r, ts, rfl, _⟩ := h
    rfl
  · obtain ⟨r, ts, rfl, ⟨dx, tp, xs, hr0, htp, hts⟩, q⟩ := h
    refine ⟨_, (pss_one (ps_ret (pe_callB call_len_seq (by rfl) T.n_len PySem.boot_len (pa_cons (pe_fld (pv 0) rfl) pa_nil)))), ?_⟩
    refine ⟨_, rfl, r, C_Rule, dx, _, _, rfl, hr0, T.cl_Rule, T.nf_Rule_terms, rlf_terms _, tp, _, rfl, .inr (SqT.of htp), ?_⟩
    rw [hts.len]
    exact q
theorem ok_Rule_iter {f : Addr} {fd : FuncData} (F : Fun K "__iter__" "Rule.__iter__" s_Rule_iter f fd) (T : Txt P w K mg C_BadRule C_CableError C_Rule A_WORDS A_OTHER_SIDE)  :
    FnOk P w K mg base CX0 1 f fd ["self"] (sp_P_iter K C_Rule) := by
  refine F.ok sc_Rule_iter (fun vs H Q E h => ?_) (fun cdv A outer s H vs Q E hr h => ?_)
  · obtain ⟨r, tp, dx, xs, rfl, _⟩ := h
    rfl
  · obtain ⟨r, tp, dx, xs, rfl, hr0, htp, q⟩ := h
    refine ⟨_, (pss_one (ps_ret (pe_callB call_iterT (by rfl) T.n_iter (by decide +kernel) (pa_cons (pe_fld (pv 0) rfl) pa_nil)))), ?_⟩
    exact ⟨_, rfl, r, C_Rule, dx, _, _, rfl, hr0, T.cl_Rule, T.nf_Rule_terms, rlf_terms _, tp, _, rfl, SqT.of htp, q⟩
theorem ok_uterm_of {f : Addr} {fd : FuncData} (F : Fun K "_term_of" "_term_of" s_uterm_of f fd) (T : Txt P w K mg C_BadRule C_CableError C_Rule A_WORDS A_OTHER_SIDE)  :
    FnOk P w K mg base CX0 1 f fd ["part"] sp_term_of := by
  refine F.ok sc_uterm_of (fun vs H Q E h => ?_) (fun cdv A outer s H vs Q E hr h => ?_)
  · obtain ⟨y, rfl, _⟩ := h
    rfl
  · obtain ⟨y, rfl, hl, q⟩ := h
    refine ⟨_, (pss_cons (ps_asg (pe_bm PySem.F.plainAttrs_str PySem.F.slot_str_partition PySem.F.type_str_partition mt_partition (pv 0) (pa_cons pe_str pa_nil)) (pg_tup rfl (pgs_cons (pg_name (i := 1) sc_uterm_of.nd rfl (Or.inl rfl)) (pgs_cons (pg_name (i := 2) sc_uterm_of.nd rfl (Or.inl rfl)) (pgs_cons (pg_name (i := 3) sc_uterm_of.nd rfl (Or.inl rfl)) pgs_nil)))))
      (pss_one (ps_ret (pe_tup (pa_cons (pv 1) (pa_cons (pv 3) pa_nil)))))), ?_⟩
    refine ⟨_, rfl, rfl, y, _, rfl, rfl, rfl, Nat.le_of_lt (small1000 hl), fun p hp => ?_⟩
    have sp := same_upd (o := .tup [.str (Txt.partition y " ").1, .str (Txt.partition y " ").2.1, .str (Txt.partition y " ").2.2]) hp
    refine ⟨p, _, rfl, SqT.of upd_same, rfl, _, _, rfl, _, _, rfl, _, _, rfl, rfl, ?_⟩
    exact ⟨_, rfl, _, rfl, (by show 2 ≤ sizeLine; decide), fun z hz => q _ z (sp.trans (same_upd hz)) (none_of sp hz) upd_same⟩
theorem ok_Rule_parse {f : Addr} {fd : FuncData} (F : Fun K "parse" "Rule.parse" s_Rule_parse f fd) (T : Txt P w K mg C_BadRule C_CableError C_Rule A_WORDS A_OTHER_SIDE) (c_Rule : Mak (L2.CX P w) P w K mg base 1 "Rule" C_Rule (sp_Rule_initP K C_Rule C_BadRule)) (c_uterm_of : Cal CX0 P w K mg base 1 "_term_of" sp_term_of) :
    FnOk P w K mg base (L2.CX P w) 3 f fd ["cls", "text"] (sp_parseP K C_Rule C_BadRule) := by
  refine F.okX sc_Rule_parse (fun vs H Q E h => ?_) (fun cdv A outer s H vs Q E hr h => ?_)
  · obtain ⟨y, rfl, _⟩ := h
    rfl
  · obtain ⟨y, rfl, hl, q⟩ := h
    refine ⟨_, (pss_cons (ps_if (pt_cmpR op_eq (pv 1) pe_str (nomark _)) (pss_one (ps_ret (pc_mkL (i := 0) c_Rule hr (by decide) rfl (Or.inl rfl) (passes_call (takes_of rfl rfl rfl rfl) fun _ _ _ _ h => h) (pa_cons (pe_lst pa_nil) pa_nil)))) pss_nil)
      (pss_one (ps_ret (pc_mkL (i := 0) c_Rule hr (by decide) rfl (Or.inl rfl) (passes_call (takes_of rfl rfl rfl rfl) fun _ _ _ _ h => h) (pa_cons (pe_lc (own := [("part", 2)]) (g := (gName 2)) (tt := tYes) rfl sc_Rule_parse.nd (pi_list (pe_bm PySem.F.plainAttrs_str PySem.F.slot_str_split PySem.F.type_str_split mt_split (pv 1) (pa_cons pe_str pa_nil))) (blkOk_by (own := [("part", 2)]) (N := ["cls", "text", "part"]) (sc := defScope s_Rule_parse) (by decide +kernel)) (fun _ _ _ _ _ => (pg_name (i := 2) sc_Rule_parse.nd rfl (Or.inl rfl))) (fun _ _ _ _ _ => pts_nil) (fun _ _ _ _ _ => (pc_c c_uterm_of hr (by decide) rfl pass0 (pa_cons (pv 2) pa_nil)))) pa_nil))))), ?_⟩
    have mk : ∀ (H1 : Hp) (D : Addr) (xs : List V), Same H H1 → H1 D = some (.lst xs) → Al (PairV K H1) xs (psOf y) → (psOf y).length ≤ 900 → ∀ x dx, H1 x = none → H1 dx = none → dx ≠ x → sp_Rule_initP K C_Rule C_BadRule (.ref x :: ([.ref D] ++ [])) (upd (upd H1 dx (.own x)) x (.ins C_Rule dx [])) (fun v H2 => v = .non ∧ Q (.ref x) H2) E := fun H1 D xs s1 hD hxs hz x dx nx ndx ne => by
      have s0 : Same H1 (upd (upd H1 dx (.own x)) x (.ins C_Rule dx [])) := mk_same nx ndx Kp.refl
      refine ⟨x, dx, D, false, xs, psOf y, rfl, upd_same, SqL.of (s0 _ _ hD), Al.mono (fun _ _ h => h.same s0) hxs, hz, ?_⟩
      rcases q with ⟨i, hi, hj, q⟩ | ⟨hok, q⟩
      · exact .inl ⟨i, hi, hj, fun H' d s hd => q H' d ((s1.trans s0).trans s) hd⟩
      · exact .inr ⟨hok, fun H' k1 hr => ⟨rfl, q _ x (s1.trans (mk_same nx ndx k1)) hr⟩⟩
    refine ⟨_, rfl, rfl, _, rfl, ite2 (fun hc => ?_) (fun hc => ?_)⟩
    · have e : y = "first come" := by
        have := of_decide_eq_true hc
        injection this
      have e2 : psOf y = [] := by
        unfold psOf
        rw [if_pos e]
      exact ⟨rfl, Nat.zero_le _, fun D hD => mk _ D [] (same_upd hD) upd_same (by rw [e2]; exact .nil) (by rw [e2]; decide)⟩
    · have e : y ≠ "first come" := fun z => hc (by rw [z]; exact decide_eq_true rfl)
      have e2 : psOf y = (Txt.split y ", ").map ptn := by
        unfold psOf
        rw [if_neg e]
      have hsl := split_len1 y ", "
      refine ⟨rfl, _, rfl, rfl, y, _, rfl, rfl, rfl, (by rw [sizeLine_eq]; omega), fun p hp => ?_⟩
      have sp := same_upd (o := .lst ((Txt.split y ", ").map V.str)) hp
      have hpp : (upd H p (.lst ((Txt.split y ", ").map V.str))) p = some (.lst ((Txt.split y ", ").map V.str)) := upd_same
      generalize upd H p (.lst ((Txt.split y ", ").map V.str)) = H1 at sp hpp ⊢
      refine ⟨p, rfl, ⟨_, SqL.of hpp⟩, fun D hD => lc_list (K := K) (a := p) (xs := (Txt.split y ", ").map V.str) (fun i H' => Same H1 H' ∧ ∃ zs, H' D = some (.lst zs) ∧ Al (PairV K H') zs (((Txt.split y ", ").take i).map ptn))
        ⟨same_upd hD, [], upd_same, .nil⟩ (fun i H' _ ⟨s1, _⟩ => SqL.of (s1 _ _ hpp)) ?_ ?_⟩
      · rintro i x H' hx ⟨s1, zs, hD1, hzs⟩
        rw [List.getElem?_map] at hx
        cases ez : (Txt.split y ", ")[i]? with
        | none => rw [ez] at hx; cases hx
        | some z =>
          rw [ez] at hx
          cases hx
          have zl : z.length ≤ 1000 := by
            have w := PyProof.Rows.split_weight y ", " (by decide +kernel)
            have m : z.length ≤ ((Txt.split y ", ").map (·.length)).sum := mem_le_sum (List.mem_map_of_mem (List.mem_of_getElem? ez))
            omega
          refine ⟨rfl, tyes ⟨_, rfl, z, rfl, zl, fun H2 t s2 nt ht => ?_⟩⟩
          have hD2 := s2 _ _ hD1
          have ntD : t ≠ D := fun z => by rw [z, hD1] at nt; cases nt
          have zsl := hzs.len
          rw [List.length_map, List.length_take] at zsl
          refine ⟨_, hD2, small1000 (by omega), same_app (s1.trans s2) hD, _, upd_same, ?_⟩
          rw [← take_snoc ez, List.map_append]
          refine (Al.mono (fun _ _ h => (h.same s2).lst Kp.upd hD2) hzs).snoc ⟨t, rfl, SqT.of ?_⟩
          rw [upd_ne ntD, ht]
      · rintro H' ⟨s1, zs, hD1, hzs⟩
        rw [List.length_map, List.take_length, ← e2] at hzs
        exact mk _ D zs (sp.trans s1) hD1 hzs (by rw [e2, List.length_map]; omega)
theorem ok_Rule_str {f : Addr} {fd : FuncData} (F : Fun K "__str__" "Rule.__str__" s_Rule_str f fd) (T : Txt P w K mg C_BadRule C_CableError C_Rule A_WORDS A_OTHER_SIDE)  :
    FnOk P w K mg base CX0 1 f fd ["self"] (sp_strP K C_Rule) := by
  refine F.ok sc_Rule_str (fun vs H Q E h => ?_) (fun cdv A outer s H vs Q E hr h => ?_)
  · obtain ⟨r, ps, rfl, _⟩ := h
    rfl
  · obtain ⟨r, ps, rfl, ⟨dx, tp, xs, hr0, htp, hps⟩, okp, q⟩ := h
    refine ⟨_, (pss_cons (ps_if (pt_cmpR op_eq (pe_callB call_len_seq (by rfl) T.n_len PySem.boot_len (pa_cons (pe_fld (pv 0) rfl) pa_nil)) pe_int (nomark _)) (pss_one (ps_ret pe_str)) pss_nil)
      (pss_one (ps_ret (pe_bm PySem.F.plainAttrs_str PySem.F.slot_str_join PySem.F.type_str_join mt_join pe_str (pa_cons (pe_lc (own := [("side", 1), ("word", 2)]) (g := (gTup K 2 (gCons (gName 1) (gCons (gName 2) gNil)))) (tt := tYes) rfl sc_Rule_str.nd (pi_tup (pe_fld (pv 0) rfl)) (blkOk_by (own := [("side", 1), ("word", 2)]) (N := ["self", "side", "word"]) (sc := defScope s_Rule_str) (by decide +kernel)) (fun _ _ _ _ _ => (pg_tup rfl (pgs_cons (pg_name (i := 1) sc_Rule_str.nd rfl (Or.inl rfl)) (pgs_cons (pg_name (i := 2) sc_Rule_str.nd rfl (Or.inl rfl)) pgs_nil)))) (fun _ _ _ _ _ => pts_nil) (fun _ _ _ _ _ => (pe_joinedD (PJ.cons (pe_fmt (pv 1)) (PJ.cons pe_str (PJ.cons (pe_fmt (pv 2)) PJ.nil)))))) pa_nil))))), ?_⟩
    have l7 := okP_len okp
    have hlen := hps.len
    have hm := okP_mem okp
    refine ⟨_, rfl, r, C_Rule, dx, _, _, rfl, hr0, T.cl_Rule, T.nf_Rule_terms, rlf_terms _, tp, _, rfl, .inr (SqT.of htp), rfl, _, rfl, ite2 (fun hc => ?_) (fun hc => ?_)⟩
    · have e : ps.length = 0 := by
        have z := of_decide_eq_true hc
        have := V.int.inj z
        omega
      have q' := q H (Same.of _)
      unfold txtP at q'
      rw [if_pos e] at q'
      exact q'
    · have e : ¬ ps.length = 0 := fun z => hc (by rw [hlen, z]; rfl)
      refine ⟨rfl, _, rfl, r, C_Rule, dx, _, _, rfl, hr0, T.cl_Rule, T.nf_Rule_terms, rlf_terms _, tp, rfl, ⟨_, SqT.of htp⟩, fun D hD => lc_tup (K := K) (a := tp) (xs := xs) (fun i H' => Same H H' ∧ H' D = some (.lst (((ps.take i).map txP).map V.str)))
        ⟨same_upd hD, upd_same⟩ (fun i H' _ ⟨s1, _⟩ => SqT.of (s1 _ _ htp)) ?_ ?_⟩
      · rintro i x H' hx ⟨s1, hD1⟩
        obtain ⟨t, ht, pt, rfl, hpt⟩ := hps.at hx
        have mt := hm t (List.mem_of_getElem? ht)
        have lt := tx_l2 t.1 mt.1 t.2 mt.2
        refine ⟨pt, _, rfl, sqt_same hpt s1, rfl, _, _, rfl, _, _, rfl, rfl, rfl, tyes ?_⟩
        refine ⟨_, rfl, .inl ⟨_, rfl, l20 lt.2.2.2.1, _, rfl, l20 lt.1, _, rfl, l20 lt.2.1, _, rfl, .inl ⟨_, rfl, l20 lt.2.2.2.2.1, _, rfl, l20 lt.2.2.1, ?_⟩⟩⟩
        refine ⟨_, hD1, small1000 (by rw [List.length_map, List.length_map, List.length_take]; omega), same_app s1 hD, ?_⟩
        rw [upd_same, ← take_snoc ht, List.map_append, List.map_append, lt.2.2.2.2.2.2.2]
        rfl
      · rintro H' ⟨s1, hD1⟩
        rw [hlen, List.take_length] at hD1
        refine ⟨_, D, ps.map txP, rfl, rfl, .inl (SqL.of hD1), (by have := (txtP_len okp).2; omega), ?_⟩
        have q' := q H' s1
        unfold txtP at q'
        rw [if_neg e] at q'
        exact q'
theorem ok_Lcell {f : Addr} {fd : FuncData} (F : Fun K "_law_cell" "_law_cell" s_Lcell f fd) (T : Txt P w K mg C_BadRule C_CableError C_Rule A_WORDS A_OTHER_SIDE)  :
    FnOk P w K mg base CX0 1 f fd ["_law_script", "_law_at"] (sp_Lcell K) := by
  refine F.ok sc_Lcell (fun vs H Q E h => ?_) (fun cdv A outer s H vs Q E hr h => ?_)
  · obtain ⟨l, ns, j, rfl, _⟩ := h
    rfl
  · obtain ⟨l, ns, j, rfl, hs, q⟩ := h
    refine ⟨_, (pss_cons (ps_if (pt_cmpR op_lt (pv 1) (pe_callB call_len_seq (by rfl) T.n_len PySem.boot_len (pa_cons (pv 0) pa_nil)) (nomark _)) (pss_one (ps_ret (pe_callB call_abs (by rfl) T.n_abs (by decide +kernel) (pa_cons (pe_callTy call_int1 (by rfl) T.n_int (by decide +kernel) (pa_cons (pe_ix ix_list (pv 0) (pv 1) (fun _ _ => rfl)) pa_nil)) pa_nil)))) pss_nil)
      (pss_one (ps_ret pe_int))), ?_⟩
    refine ⟨_, rfl, _, rfl, l, _, rfl, .inl hs, _, _, rfl, rfl, _, rfl, ?_⟩
    refine ite2 (fun hlt => ?_) (fun _ => q 0 (by decide))
    have hj : j < ns.length := by
      have z := of_decide_eq_true hlt
      rw [List.length_map] at z
      omega
    have hat : (ns.map V.int)[j]? = some (V.int ns[j]) := by rw [List.getElem?_map, List.getElem?_eq_getElem hj] <;> rfl
    refine ⟨_, rfl, _, rfl, l, _, _, _, rfl, rfl, hs, atI_nat hat, .inl ⟨_, rfl, _, rfl, q _ ?_⟩⟩
    split <;> omega
theorem ok_Lpool {f : Addr} {fd : FuncData} (F : Fun K "_law_pool" "_law_pool" s_Lpool f fd) (T : Txt P w K mg C_BadRule C_CableError C_Rule A_WORDS A_OTHER_SIDE)  :
    FnOk P w K mg base CX0 1 f fd ["_law_cell_here"] sp_Lpool := by
  refine F.ok sc_Lpool (fun vs H Q E h => ?_) (fun cdv A outer s H vs Q E hr h => ?_)
  · obtain ⟨c, rfl, _⟩ := h
    rfl
  · obtain ⟨c, rfl, q⟩ := h
    refine ⟨_, (pss_cons (ps_if (pt_cmpR op_ge (pv 0) (pe_op op_pow pe_int pe_int) (nomark _)) (pss_one (ps_ret (pe_lst (pa_cons (pv 0) (pa_cons (pv 0) (pa_cons pe_int pa_nil)))))) pss_nil)
      (pss_one (ps_ret (pe_lst (pa_cons pe_int (pa_cons (pv 0) (pa_cons pe_int pa_nil))))))), ?_⟩
    refine ⟨_, rfl, _, _, rfl, rfl, ⟨by decide, by decide, by decide⟩, _, _, rfl, rfl, _, rfl, ?_⟩
    refine ite2 (fun _ => ?_) (fun _ => ?_)
    · exact ⟨_, rfl, _, rfl, (by show 3 ≤ sizeLine; decide), fun p hp => q p _ hp (same_upd hp) ⟨_, _, _, upd_same⟩⟩
    · exact ⟨_, rfl, (by show 3 ≤ sizeLine; decide), fun p hp => q p _ hp (same_upd hp) ⟨_, _, _, upd_same⟩⟩
theorem ok_Ltake {f : Addr} {fd : FuncData} (F : Fun K "_law_take" "_law_take" s_Ltake f fd) (T : Txt P w K mg C_BadRule C_CableError C_Rule A_WORDS A_OTHER_SIDE)  :
    FnOk P w K mg base CX0 1 f fd ["_law_pool_here", "_law_many"] sp_Ltake := by
  refine F.ok sc_Ltake (fun vs H Q E h => ?_) (fun cdv A outer s H vs Q E hr h => ?_)
  · obtain ⟨p, many, rfl, _⟩ := h
    rfl
  · obtain ⟨p, many, rfl, ⟨x, y, z, hp⟩, hm, hb, q⟩ := h
    refine ⟨_, (pss_cons (ps_asg (pe_op op_add (pe_ix ix_list (pv 0) pe_int (fun _ _ => rfl)) pe_int) (pg_sub (pv 0) pe_int set_list))
      (pss_cons (ps_if (pt_cmpR op_gt (pe_ix ix_list (pv 0) pe_int (fun _ _ => rfl)) pe_int (nomark _)) (pss_cons (ps_set (i := 2) sc_Ltake.nd rfl (Or.inl rfl) (pe_op op_mod (pe_callTy call_int1 (by rfl) T.n_int (by decide +kernel) (pa_cons (pe_ix ix_list (pv 0) pe_int (fun _ _ => rfl)) pa_nil)) (pv 1)))
      (pss_cons (ps_asg (pe_op op_fdivW (pe_ix ix_list (pv 0) pe_int (fun _ _ => rfl)) (pv 1)) (pg_sub (pv 0) pe_int set_list))
      (pss_one (ps_ret (pv 2))))) pss_nil)
      (pss_cons (ps_set (i := 3) sc_Ltake.nd rfl (Or.inl rfl) (pe_op op_mod (pe_callTy call_int1 (by rfl) T.n_int (by decide +kernel) (pa_cons (pe_op op_mulA (pe_op op_add (pe_ix ix_list (pv 0) pe_int (fun _ _ => rfl)) (pe_op op_mulA pe_int (pe_ix ix_list (pv 0) pe_int (fun _ _ => rfl)))) pe_int) pa_nil)) pe_int))
      (pss_cons (ps_set (i := 3) sc_Ltake.nd rfl (Or.inl rfl) (pe_op op_mod (pe_callTy call_int1 (by rfl) T.n_int (by decide +kernel) (pa_cons (pe_op op_add (pe_op op_mulA (pv 3) pe_int) (pe_op op_mulA pe_int (pe_ix ix_list (pv 0) pe_int (fun _ _ => rfl)))) pa_nil)) pe_int))
      (pss_one (ps_ret (pe_op op_mod (pe_callTy call_int1 (by rfl) T.n_int (by decide +kernel) (pa_cons (pe_op op_fdivW (pv 3) pe_int) pa_nil)) (pv 1)))))))), ?_⟩
    refine ⟨_, rfl, p, _, _, _, rfl, rfl, SqL.of hp, at2, _, _, rfl, rfl, _, rfl, p, _, _, _, rfl, rfl, hp, rfl, ?_⟩
    refine ⟨_, rfl, p, _, _, _, rfl, rfl, SqL.of upd_same, at0, _, _, rfl, rfl, _, rfl, ?_⟩
    refine ite2 (fun _ => ?_) (fun _ => ?_)
    · refine ⟨_, rfl, p, _, _, _, rfl, rfl, SqL.of upd_same, at0, .inl ⟨_, rfl, _, rfl, _, _, rfl, rfl, hm, ?_⟩⟩
      refine ⟨_, rfl, p, _, _, _, rfl, rfl, SqL.of upd_same, at0, _, rfl, _, _, rfl, rfl, wide_div hm hb (by decide) (by decide), _, rfl, p, _, _, _, rfl, rfl, upd_same, rfl, ?_⟩
      exact ⟨_, rfl, q _ _ (Kp.trans Kp.upd Kp.upd) ⟨_, _, _, upd_same⟩ (Int.emod_nonneg _ (by omega)) (Int.emod_lt_of_pos _ hm)⟩
    · refine ⟨_, rfl, p, _, _, _, rfl, rfl, SqL.of upd_same, at1, _, rfl, p, _, _, _, rfl, rfl, SqL.of upd_same, at2, _, _, rfl, rfl, .inl (.inl ⟨by decide, by decide⟩), _, _, rfl, rfl, _, _, rfl, rfl, .inl (.inr ⟨by decide, by decide⟩), .inl ⟨_, rfl, _, _, rfl, rfl, (by show (0 : Int) < 2147483647; decide), ?_⟩⟩
      refine ⟨_, rfl, _, _, rfl, rfl, .inl (.inr ⟨by decide, by decide⟩), _, rfl, p, _, _, _, rfl, rfl, SqL.of upd_same, at2, _, _, rfl, rfl, .inl (.inl ⟨by decide, by decide⟩), _, _, rfl, rfl, .inl ⟨_, rfl, _, _, rfl, rfl, (by show (0 : Int) < 2147483399; decide), ?_⟩⟩
      refine ⟨_, rfl, _, _, rfl, rfl, wide_div (b := 300) (by decide) (by decide) (by decide) (by decide), .inl ⟨_, rfl, _, rfl, _, _, rfl, rfl, hm, ?_⟩⟩
      exact q _ _ Kp.upd ⟨_, _, _, upd_same⟩ (Int.emod_nonneg _ (by omega)) (Int.emod_lt_of_pos _ hm)
theorem okr_Lsame {f : Addr} {fd : FuncData} {j n : Nat} (F : Fun K "_law_same" "_law_same" s_Lsame f fd) (T : Txt P w K mg C_BadRule C_CableError C_Rule A_WORDS A_OTHER_SIDE) (c_Lsame : Cal CX0 P w K mg base j "_law_same" (sp_Lsame K n)) :
    FnOk P w K mg base CX0 (j + 1) f fd ["_law_told", "_law_due"] (sp_Lsame K (n + 1)) := by
  refine F.ok sc_Lsame (fun vs H Q E h => ?_) (fun cdv A outer s H vs Q E hr h => ?_)
  · obtain ⟨x, y, rfl, _⟩ := h
    rfl
  · obtain ⟨x, y, rfl, hv, q⟩ := h
    refine ⟨_, (pss_cons (ps_if (pt_cmpR op_isN (pv 1) pe_non (nomark _)) (pss_one (ps_ret (pe_cmpR op_isN (pv 0) pe_non (nomark _)))) pss_nil)
      (pss_cons (ps_if (pt_cmpR op_isB (pv 1) pe_bl (nomark _)) (pss_one (ps_ret (pe_cmpR op_isB (pv 0) pe_bl (nomark _)))) pss_nil)
      (pss_cons (ps_if (pt_cmpR op_isB (pv 1) pe_bl (nomark _)) (pss_one (ps_ret (pe_cmpR op_isB (pv 0) pe_bl (nomark _)))) pss_nil)
      (pss_cons (ps_if (pt_val (pe_callB call_isi (by rfl) T.n_isinstance (by decide +kernel) (pa_cons (pv 1) (pa_cons (pe_bltn (v := .ty "int") (by rfl) T.n_int (by decide +kernel) rfl) pa_nil)))) (pss_one (ps_ret (pe_and (pe_callB call_isi (by rfl) T.n_isinstance (by decide +kernel) (pa_cons (pv 0) (pa_cons (pe_bltn (v := .ty "int") (by rfl) T.n_int (by decide +kernel) rfl) pa_nil))) (pe_and (pe_not (pe_callB call_isi (by rfl) T.n_isinstance (by decide +kernel) (pa_cons (pv 0) (pa_cons (pe_bltn (v := .ty "bool") (by rfl) T.n_bool (by decide +kernel) rfl) pa_nil)))) (pe_one (pe_cmpR op_eq (pv 0) (pv 1) (nomark _))))))) pss_nil)
      (pss_cons (ps_if (pt_val (pe_callB call_isi (by rfl) T.n_isinstance (by decide +kernel) (pa_cons (pv 1) (pa_cons (pe_bltn (v := .ty "str") (by rfl) T.n_str (by decide +kernel) rfl) pa_nil)))) (pss_one (ps_ret (pe_and (pe_callB call_isi (by rfl) T.n_isinstance (by decide +kernel) (pa_cons (pv 0) (pa_cons (pe_bltn (v := .ty "str") (by rfl) T.n_str (by decide +kernel) rfl) pa_nil))) (pe_one (pe_cmpR op_eq (pv 0) (pv 1) (nomark _)))))) pss_nil)
      (pss_cons (ps_if (PW.pt (pw_and (pt_val (pe_callB call_isi (by rfl) T.n_isinstance (by decide +kernel) (pa_cons (pv 1) (pa_cons (pe_bltn (v := .ty "tuple") (by rfl) T.n_tuple (by decide +kernel) rfl) pa_nil)))) (pw_and1 (pt_not (pt_val (pe_callB call_isi (by rfl) T.n_isinstance (by decide +kernel) (pa_cons (pv 0) (pa_cons (pe_bltn (v := .ty "tuple") (by rfl) T.n_tuple (by decide +kernel) rfl) pa_nil)))))))) (pss_one (ps_ret pe_bl)) pss_nil)
      (pss_cons (ps_if (PW.pt (pw_and (pt_val (pe_callB call_isi (by rfl) T.n_isinstance (by decide +kernel) (pa_cons (pv 1) (pa_cons (pe_bltn (v := .ty "list") (by rfl) T.n_list (by decide +kernel) rfl) pa_nil)))) (pw_and1 (pt_not (pt_val (pe_callB call_isi (by rfl) T.n_isinstance (by decide +kernel) (pa_cons (pv 0) (pa_cons (pe_bltn (v := .ty "list") (by rfl) T.n_list (by decide +kernel) rfl) pa_nil)))))))) (pss_one (ps_ret pe_bl)) pss_nil)
      (pss_cons (ps_if (pt_cmpR op_ne (pe_callB call_len_seq (by rfl) T.n_len PySem.boot_len (pa_cons (pv 0) pa_nil)) (pe_callB call_len_seq (by rfl) T.n_len PySem.boot_len (pa_cons (pv 1) pa_nil)) (nomark _)) (pss_one (ps_ret pe_bl)) pss_nil)
      (pss_cons (ps_for PassesOwn.never rfl (pi_range1 (by rfl) T.n_range (pa_cons (pe_callB call_len_seq (by rfl) T.n_len PySem.boot_len (pa_cons (pv 1) pa_nil)) pa_nil)) (pg_name (i := 2) sc_Lsame.nd rfl (Or.inl rfl))
        (pss_one (ps_if (pt_not (pt_val (pc_c c_Lsame hr (Nat.le_refl _) rfl pass0 (pa_cons (pe_ix ix_seq (pv 0) (pv 2) (fun _ _ => rfl)) (pa_cons (pe_ix ix_seq (pv 1) (pv 2) (fun _ _ => rfl)) pa_nil))))) (pss_one (ps_ret pe_bl)) pss_nil)))
      (pss_one (ps_ret pe_bl))))))))))), ?_⟩
    have kL1 : PySem.W.kitOne K (.type "list") (.type "int") = some false := kit_ty (by decide +kernel)
    have kL2 : PySem.W.kitOne K (.type "list") (.type "str") = some false := kit_ty (by decide +kernel)
    have kL3 : PySem.W.kitOne K (.type "list") (.type "tuple") = some false := kit_ty (by decide +kernel)
    have kL4 : PySem.W.kitOne K (.type "list") (.type "list") = some true := kit_ty (by decide +kernel)
    have kT1 : PySem.W.kitOne K (.type "tuple") (.type "int") = some false := kit_ty (by decide +kernel)
    have kT2 : PySem.W.kitOne K (.type "tuple") (.type "str") = some false := kit_ty (by decide +kernel)
    have kT3 : PySem.W.kitOne K (.type "tuple") (.type "tuple") = some true := kit_ty (by decide +kernel)
    have kT4 : PySem.W.kitOne K (.type "tuple") (.type "list") = some false := kit_ty (by decide +kernel)
    have hv' : (flatD x = true ∧ x = y) ∨ (∃ m, n = m + 1 ∧ ∃ (a b : Addr) (xs ys : List V), x = .ref a ∧ y = .ref b ∧ SqL K H a xs ∧ SqL K H b ys ∧ xs.length ≤ sizeLine ∧ Pairs (SameV K H m) xs ys) ∨
        (∃ m, n = m + 1 ∧ ∃ (a b : Addr) (xs ys : List V), x = .ref a ∧ y = .ref b ∧ SqT K H a xs ∧ SqT K H b ys ∧ xs.length ≤ sizeLine ∧ Pairs (SameV K H m) xs ys) := by
      cases n with
      | zero => exact .inl hv
      | succ m =>
        rcases hv with h | h | h
        · exact .inl h
        · exact .inr (.inl ⟨m, rfl, h⟩)
        · exact .inr (.inr ⟨m, rfl, h⟩)
    rcases hv' with ⟨hf, e⟩ | ⟨m, rfl, a, b, xs, ys, rfl, rfl, ha, hb, hl, hp⟩ | ⟨m, rfl, a, b, xs, ys, rfl, rfl, ha, hb, hl, hp⟩
    · subst e
      cases x with
      | non => exact ⟨_, rfl, rfl, _, rfl, iteDT rfl ⟨_, rfl, rfl, q⟩⟩
      | bl b =>
        refine ⟨_, rfl, rfl, _, rfl, iteDF (by intro z; cases z) ?_⟩
        cases b with
        | true => exact ⟨_, rfl, _, rfl, _, rfl, iteDT rfl ⟨_, rfl, _, rfl, q⟩⟩
        | false => exact ⟨_, rfl, _, rfl, _, rfl, iteDF (by intro z; cases z) ⟨_, rfl, _, rfl, _, rfl, iteDT rfl ⟨_, rfl, _, rfl, q⟩⟩⟩
      | int i =>
        refine ⟨_, rfl, rfl, _, rfl, iteDF (by intro z; cases z) ?_⟩
        refine ⟨_, rfl, _, rfl, _, rfl, iteDF (by intro z; cases z) ?_⟩
        refine ⟨_, rfl, _, rfl, _, rfl, iteDF (by intro z; cases z) ?_⟩
        refine ⟨_, rfl, _, _, _, .type "int", true, rfl, .ty "int", .base (.int i), kit_ty (by decide +kernel), true, rfl, iteT ?_⟩
        refine ⟨_, rfl, _, _, _, .type "int", true, rfl, .ty "int", .base (.int i), kit_ty (by decide +kernel), true, rfl, iteT ?_⟩
        refine ⟨_, rfl, _, _, _, .type "bool", false, rfl, .ty "bool", .base (.int i), kit_ty (by decide +kernel), false, rfl, true, rfl, iteT ?_⟩
        refine ⟨_, rfl, _, rfl, rfl, ?_⟩
        rw [decide_eq_true (show V.int i = V.int i from rfl)]
        exact q
      | str i =>
        refine ⟨_, rfl, rfl, _, rfl, iteDF (by intro z; cases z) ?_⟩
        refine ⟨_, rfl, _, rfl, _, rfl, iteDF (by intro z; cases z) ?_⟩
        refine ⟨_, rfl, _, rfl, _, rfl, iteDF (by intro z; cases z) ?_⟩
        refine ⟨_, rfl, _, _, _, .type "int", false, rfl, .ty "int", .base (.str i), kit_ty (by decide +kernel), false, rfl, iteF ?_⟩
        refine ⟨_, rfl, _, _, _, .type "str", true, rfl, .ty "str", .base (.str i), kit_ty (by decide +kernel), true, rfl, iteT ?_⟩
        refine ⟨_, rfl, _, _, _, .type "str", true, rfl, .ty "str", .base (.str i), kit_ty (by decide +kernel), true, rfl, iteT ?_⟩
        refine ⟨_, rfl, _, rfl, rfl, ?_⟩
        rw [decide_eq_true (show V.str i = V.str i from rfl)]
        exact q
      | _ => exact absurd (show false = true from hf) Bool.false_ne_true
    · refine ⟨_, rfl, rfl, _, rfl, iteDF (by intro z; cases z) ?_⟩
      refine ⟨_, rfl, _, rfl, _, rfl, iteDF (by intro z; cases z) ?_⟩
      refine ⟨_, rfl, _, rfl, _, rfl, iteDF (by intro z; cases z) ?_⟩
      refine ⟨_, rfl, _, _, _, .type "int", false, rfl, .ty "int", tyx_list hb, kL1, false, rfl, iteF ?_⟩
      refine ⟨_, rfl, _, _, _, .type "str", false, rfl, .ty "str", tyx_list hb, kL2, false, rfl, iteF ?_⟩
      refine ⟨_, rfl, _, _, _, .type "tuple", false, rfl, .ty "tuple", tyx_list hb, kL3, false, rfl, iteF (iteF ?_)⟩
      refine ⟨_, rfl, _, _, _, .type "list", true, rfl, .ty "list", tyx_list hb, kL4, true, rfl, iteT ?_⟩
      refine ⟨_, rfl, _, _, _, .type "list", true, rfl, .ty "list", tyx_list ha, kL4, true, rfl, iteF ?_⟩
      refine ⟨_, rfl, a, _, rfl, .inl ha, _, rfl, b, _, rfl, .inl hb, rfl, _, rfl, ?_⟩
      rw [decide_eq_true (show V.int (xs.length : Nat) = V.int (ys.length : Nat) by rw [hp.1])]
      refine iteF ?_
      have hy : ys.length ≤ 16777216 := by rw [← hp.1, ← sizeLine_eq]; exact hl
      refine ⟨_, rfl, b, _, rfl, .inl hb, _, rfl, by omega, by omega, for_range (lo := 0) (n := ((ys.length : Nat) : Int).toNat) (fun i σ H' => H' = H ∧ ∃ v : Option V, σ = [some (.ref a), some (.ref b), v]) ⟨rfl, none, rfl⟩ ?_ ?_⟩
      · rintro i σ H' hi ⟨rfl, v, rfl⟩
        have i1 : i < ys.length := by omega
        have i2 : i < xs.length := by rw [hp.1]; exact i1
        have ex : xs[i]? = some xs[i] := List.getElem?_eq_getElem i2
        have ey : ys[i]? = some ys[i] := List.getElem?_eq_getElem i1
        have ex' := atI_nat ex
        have ey' := atI_nat ey
        rw [show ((i : Nat) : Int) = 0 + ((i : Nat) : Int) by omega] at ex' ey'
        refine ⟨_, rfl, _, rfl, .inl ⟨a, _, _, _, rfl, rfl, ha, ex', _, rfl, _, rfl, .inl ⟨b, _, _, _, rfl, rfl, hb, ey', _, _, rfl, hp.2 i _ _ ex ey, true, rfl, iteF ?_⟩⟩⟩
        exact ⟨rfl, _, rfl⟩
      · rintro σ H' ⟨rfl, v, rfl⟩
        exact q
    · refine ⟨_, rfl, rfl, _, rfl, iteDF (by intro z; cases z) ?_⟩
      refine ⟨_, rfl, _, rfl, _, rfl, iteDF (by intro z; cases z) ?_⟩
      refine ⟨_, rfl, _, rfl, _, rfl, iteDF (by intro z; cases z) ?_⟩
      refine ⟨_, rfl, _, _, _, .type "int", false, rfl, .ty "int", tyx_tup hb, kT1, false, rfl, iteF ?_⟩
      refine ⟨_, rfl, _, _, _, .type "str", false, rfl, .ty "str", tyx_tup hb, kT2, false, rfl, iteF ?_⟩
      refine ⟨_, rfl, _, _, _, .type "tuple", true, rfl, .ty "tuple", tyx_tup hb, kT3, true, rfl, iteT ?_⟩
      refine ⟨_, rfl, _, _, _, .type "tuple", true, rfl, .ty "tuple", tyx_tup ha, kT3, true, rfl, iteF ?_⟩
      refine ⟨_, rfl, _, _, _, .type "list", false, rfl, .ty "list", tyx_tup hb, kT4, false, rfl, iteF (iteF ?_)⟩
      refine ⟨_, rfl, a, _, rfl, .inr ha, _, rfl, b, _, rfl, .inr hb, rfl, _, rfl, ?_⟩
      rw [decide_eq_true (show V.int (xs.length : Nat) = V.int (ys.length : Nat) by rw [hp.1])]
      refine iteF ?_
      have hy : ys.length ≤ 16777216 := by rw [← hp.1, ← sizeLine_eq]; exact hl
      refine ⟨_, rfl, b, _, rfl, .inr hb, _, rfl, by omega, by omega, for_range (lo := 0) (n := ((ys.length : Nat) : Int).toNat) (fun i σ H' => H' = H ∧ ∃ v : Option V, σ = [some (.ref a), some (.ref b), v]) ⟨rfl, none, rfl⟩ ?_ ?_⟩
      · rintro i σ H' hi ⟨rfl, v, rfl⟩
        have i1 : i < ys.length := by omega
        have i2 : i < xs.length := by rw [hp.1]; exact i1
        have ex : xs[i]? = some xs[i] := List.getElem?_eq_getElem i2
        have ey : ys[i]? = some ys[i] := List.getElem?_eq_getElem i1
        have ex' := atI_nat ex
        have ey' := atI_nat ey
        rw [show ((i : Nat) : Int) = 0 + ((i : Nat) : Int) by omega] at ex' ey'
        refine ⟨_, rfl, _, rfl, .inr (.inl ⟨a, _, _, _, rfl, rfl, ha, ex', _, rfl, _, rfl, .inr (.inl ⟨b, _, _, _, rfl, rfl, hb, ey', _, _, rfl, hp.2 i _ _ ex ey, true, rfl, iteF ?_⟩)⟩)⟩
        exact ⟨rfl, _, rfl⟩
      · rintro σ H' ⟨rfl, v, rfl⟩
        exact q
theorem ok_Lsame {f : Addr} {fd : FuncData} (F : Fun K "_law_same" "_law_same" s_Lsame f fd) (T : Txt P w K mg C_BadRule C_CableError C_Rule A_WORDS A_OTHER_SIDE) (m : mg "_law_same" = some (.ref f)) (kp : PySem.W.keepIn K (.ref f) = true) (b : Binds K fd ["_law_told", "_law_due"] []) :
    ∀ n : Nat, FnOk P w K mg base CX0 (n + 1) f fd ["_law_told", "_law_due"] (sp_Lsame K n)
  | 0 => F.ok sc_Lsame (fun _ _ _ _ h => False.elim h) (fun _ _ _ _ _ _ _ _ _ h => False.elim h)
  | n + 1 => okr_Lsame F T (cal_mk (ok_Lsame F T m kp b n) m kp b)
theorem ok_Lterms {f : Addr} {fd : FuncData} (F : Fun K "_law_terms" "_law_terms" s_Lterms f fd) (T : Txt P w K mg C_BadRule C_CableError C_Rule A_WORDS A_OTHER_SIDE) (c_Ltake : Cal CX0 P w K mg base 1 "_law_take" sp_Ltake) :
    FnOk P w K mg base CX0 2 f fd ["_law_pool_here", "_law_most"] (sp_Lterms K) := by
  refine F.ok sc_Lterms (fun vs H Q E h => ?_) (fun cdv A outer s H vs Q E hr h => ?_)
  · obtain ⟨p, m, rfl, _⟩ := h
    rfl
  · obtain ⟨p, m, rfl, hm, hp, q⟩ := h
    refine ⟨_, (pss_cons (ps_set (i := 2) sc_Lterms.nd rfl (Or.inl rfl) (pe_lst (pa_cons pe_str (pa_cons pe_str (pa_cons pe_str (pa_cons pe_str (pa_cons pe_str (pa_cons pe_str (pa_cons pe_str pa_nil)))))))))
      (pss_cons (ps_set (i := 3) sc_Lterms.nd rfl (Or.inl rfl) (pe_lst pa_nil))
      (pss_cons (ps_for PassesOwn.never rfl (pi_range1 (by rfl) T.n_range (pa_cons (pc_c c_Ltake hr (by decide) rfl pass0 (pa_cons (pv 0) (pa_cons (pe_op op_add (pv 1) pe_int) pa_nil))) pa_nil)) (pg_name (i := 4) sc_Lterms.nd rfl (Or.inl rfl))
        (pss_cons (ps_set (i := 5) sc_Lterms.nd rfl (Or.inl rfl) (pe_bm PySem.F.plainAttrs_list PySem.F.slot_list_pop PySem.F.type_list_pop mt_popAt (pv 2) (pa_cons (pc_c c_Ltake hr (by decide) rfl pass0 (pa_cons (pv 0) (pa_cons (pe_callB call_len_seq (by rfl) T.n_len PySem.boot_len (pa_cons (pv 2) pa_nil)) pa_nil))) pa_nil)))
      (pss_one (ps_expr (pe_bm PySem.F.plainAttrs_list PySem.F.slot_list_append PySem.F.type_list_append mt_append (pv 3) (pa_cons (pe_tup (pa_cons (pe_ix ix_list (pe_lst (pa_cons pe_str (pa_cons pe_str pa_nil))) (pc_c c_Ltake hr (by decide) rfl pass0 (pa_cons (pv 0) (pa_cons pe_int pa_nil))) (fun _ _ => rfl)) (pa_cons (pv 5) pa_nil))) pa_nil))))))
      (pss_one (ps_ret (pv 3)))))), ?_⟩
    refine ⟨(by show 7 ≤ sizeLine; decide), fun lw hlw => ?_⟩
    refine ⟨Nat.zero_le _, fun lt hlt => ?_⟩
    have nlt : lt ≠ lw := fun w => by rw [w, upd_same] at hlt; cases hlt
    have hlt0 : H lt = none := by rw [upd_ne nlt] at hlt; exact hlt
    have npw : p ≠ lw := fun w => by obtain ⟨x, y, z, e⟩ := hp; rw [w, hlw] at e; cases e
    have npt : p ≠ lt := fun w => by obtain ⟨x, y, z, e⟩ := hp; rw [w, hlt0] at e; cases e
    have s0 : Same H (upd (upd H lw (.lst [.str "stay", .str "need", .str "left", .str "want", .str "here", .str "got", .str "slack"])) lt (.lst [])) := (same_upd hlw).trans (same_upd hlt)
    refine ⟨_, rfl, _, rfl, _, _, rfl, rfl, p, _, rfl, hp.same s0, by omega, by omega, fun H1 r k1 p1 r0 r1 => ?_⟩
    refine ⟨r, rfl, by omega, by omega, for_range (lo := 0) (n := r.toNat) (fun i σ H' => ∃ (v4 v5 : Option V) (W : List Nat) (ts : List (Bool × Nat)) (xs : List V), σ = [some (.ref p), some (.int (m : Int)), some (.ref lw), some (.ref lt), v4, v5] ∧ Kp p H H' ∧ PoolAt H' p ∧
        H' lw = some (.lst (W.map fun k => V.str (wd k))) ∧ H' lt = some (.lst xs) ∧ TermsV K H' xs ts ∧ W.length + i = 7 ∧ ts.length = i ∧ (W ++ ts.map (·.2)).Nodup ∧ (∀ k ∈ W, k < 7) ∧ (∀ t ∈ ts, t.2 < 7))
      ⟨none, none, [0, 1, 2, 3, 4, 5, 6], [], [], rfl, fun b o nb e => k1 _ _ nb (s0 _ _ e), p1, k1 _ _ npw.symm (by rw [upd_ne nlt.symm, upd_same] <;> rfl), k1 _ _ npt.symm upd_same, TermsV.nil, rfl, rfl, by decide, by decide, by intro t ht; cases ht⟩ ?_ ?_⟩
    · rintro i σ H' hi ⟨v4, v5, W, ts, xs, rfl, kk, pp, hw, ht, hts, hW, hT, hnd, hW7, hT7⟩
      have i7 : i < 7 := by omega
      have hz : (W.map fun k => V.str (wd k)).length = W.length := List.length_map ..
      refine ⟨_, rfl, .inl ⟨rfl, _, SqL.of hw⟩, _, rfl, _, rfl, lw, _, rfl, .inl (SqL.of hw), p, _, rfl, pp, by rw [hz]; omega, by rw [hz]; omega, fun H2 r2 k2 p2 a0 a1 => ?_⟩
      rw [hz] at a1
      have kW : r2.toNat < W.length := by omega
      have hw2 := k2 _ _ npw.symm hw
      have ht2 := k2 _ _ npt.symm ht
      obtain ⟨x0, y0, z0, e0⟩ := id pp
      have hts2 := hts.kp k2 e0
      have hget : (W.map fun k => V.str (wd k))[r2.toNat]? = some (.str (wd W[r2.toNat])) := by rw [List.getElem?_map, List.getElem?_eq_getElem kW] <;> rfl
      refine ⟨lw, _, r2, r2.toNat, _, rfl, rfl, hw2, by omega, by omega, seq_ix a0 (by rw [hz]; exact a1), hget, ?_⟩
      have kL : Kp lw H2 (upd H2 lw (.lst ((W.map fun k => V.str (wd k)).eraseIdx r2.toNat))) := Kp.upd
      have hts3 := hts2.kp kL hw2
      have ht3 := kL _ _ nlt ht2
      have p3 : PoolAt (upd H2 lw (.lst ((W.map fun k => V.str (wd k)).eraseIdx r2.toNat))) p := p2.kp kL npw
      have hw3 : (upd H2 lw (.lst ((W.map fun k => V.str (wd k)).eraseIdx r2.toNat))) lw = some (.lst ((W.eraseIdx r2.toNat).map fun k => V.str (wd k))) := by rw [upd_same, erase_map]
      generalize hH3 : upd H2 lw (.lst ((W.map fun k => V.str (wd k)).eraseIdx r2.toNat)) = H3 at *
      have kk3 : Kp p H H3 := fun b o nb e => kL _ _ (fun w => by rw [w, hlw] at e; cases e) (k2 _ _ nb (kk _ _ nb e))
      refine ⟨_, rfl, .inl ⟨rfl, _, SqL.of ht3⟩, (by show 2 ≤ sizeLine; decide), fun z hz' => ?_⟩
      have sz : Same H3 (upd H3 z (.lst [.str "least", .str "most"])) := same_upd hz'
      refine ⟨_, rfl, p, 2, rfl, p3.same sz, by decide, by decide, fun H4 r4 k4 p4 c0 c1 => ?_⟩
      have npz : p ≠ z := fun w => by obtain ⟨x, y, zz, e⟩ := p3; rw [w, hz'] at e; cases e
      have hz4 := k4 z _ npz.symm upd_same
      refine ⟨z, _, _, _, rfl, rfl, SqL.of hz4, side_at c0 c1, _, rfl, (by show 2 ≤ sizeLine; decide), fun T' hT' => ?_⟩
      obtain ⟨x3, y3, z3, e3⟩ := p3.same sz
      have hts4 := ((hts3.same sz).kp k4 e3).same (same_upd (o := .tup [.str (sd (decide (r4 = 0))), .str (wd W[r2.toNat])]) hT')
      have ht4 : (upd H4 T' (.tup [.str (sd (decide (r4 = 0))), .str (wd W[r2.toNat])])) lt = some (.lst xs) := same_upd hT' _ _ (k4 _ _ npt.symm (sz _ _ ht3))
      have hw4 : (upd H4 T' (.tup [.str (sd (decide (r4 = 0))), .str (wd W[r2.toNat])])) lw = some (.lst ((W.eraseIdx r2.toNat).map fun k => V.str (wd k))) := same_upd hT' _ _ (k4 _ _ npw.symm (sz _ _ hw3))
      refine ⟨lt, _, _, rfl, rfl, ht4, small1000 (by rw [hts.1]; omega), ?_⟩
      have kT : Kp lt (upd H4 T' (.tup [.str (sd (decide (r4 = 0))), .str (wd W[r2.toNat])])) (upd (upd H4 T' (.tup [.str (sd (decide (r4 = 0))), .str (wd W[r2.toNat])])) lt (.lst (xs ++ [.ref T']))) := Kp.upd
      have nTt : T' ≠ lt := fun w => by rw [w] at hT'; have := k4 _ _ npt.symm (sz _ _ ht3); rw [this] at hT'; cases hT'
      have pm : (W.eraseIdx r2.toNat ++ (ts ++ [(decide (r4 = 0), W[r2.toNat])]).map (·.2)).Perm (W ++ ts.map (·.2)) := by
        rw [List.map_append]
        have p1 := get_erase_perm kW
        refine List.Perm.trans ?_ (List.Perm.append_right (ts.map (·.2)) p1)
        rw [← List.append_assoc]
        exact List.perm_append_comm.trans (List.Perm.refl _)
      refine ⟨_, _, W.eraseIdx r2.toNat, ts ++ [(decide (r4 = 0), W[r2.toNat])], xs ++ [.ref T'], rfl, fun b o nb e => ?_, ?_, kT _ _ nlt.symm hw4, upd_same, (hts4.kp kT ht4).snoc ⟨hW7 _ (List.getElem_mem kW), T', rfl, SqT.of (kT _ _ nTt upd_same)⟩, ?_, ?_, pm.nodup_iff.mpr hnd, fun k hk => hW7 k (List.mem_of_mem_eraseIdx hk), fun t h' => ?_⟩
      · exact kT _ _ (fun w => by rw [w, hlt0] at e; cases e) (same_upd hT' _ _ (k4 _ _ nb (sz _ _ (kk3 _ _ nb e))))
      · exact (p4.same (same_upd hT')).kp kT npt
      · rw [List.length_eraseIdx_of_lt kW]; omega
      · rw [List.length_append, hT] <;> rfl
      · rcases List.mem_append.mp h' with h' | h'
        · exact hT7 t h'
        · rw [List.mem_singleton] at h'
          rw [h']
          exact hW7 _ (List.getElem_mem kW)
    · rintro σ H' ⟨v4, v5, W, ts, xs, rfl, kk, pp, hw, ht, hts, hW, hT, hnd, hW7, hT7⟩
      exact ⟨_, rfl, q _ lt xs ts kk pp hlt0 ht hts ⟨(List.nodup_append.mp hnd).2.1, hT7⟩ (by omega)⟩
theorem ok_Lsigns {f : Addr} {fd : FuncData} (F : Fun K "_law_signs" "_law_signs" s_Lsigns f fd) (T : Txt P w K mg C_BadRule C_CableError C_Rule A_WORDS A_OTHER_SIDE)  :
    FnOk P w K mg base CX0 1 f fd [] sp_Lsigns := by
  refine F.ok sc_Lsigns (fun vs H Q E h => ?_) (fun cdv A outer s H vs Q E hr h => ?_)
  · obtain ⟨rfl, _⟩ := h
    rfl
  · obtain ⟨rfl, q⟩ := h
    refine ⟨_, (pss_cons (ps_set (i := 0) sc_Lsigns.nd rfl (Or.inl rfl) pe_str)
      (pss_one (ps_ret (pe_op op_add_str (pv 0) pe_str)))), ?_⟩
    exact ⟨_, rfl, _, _, rfl, rfl, (by decide +kernel), q⟩
theorem ok_Lbent {f : Addr} {fd : FuncData} (F : Fun K "_law_bent" "_law_bent" s_Lbent f fd) (T : Txt P w K mg C_BadRule C_CableError C_Rule A_WORDS A_OTHER_SIDE) (c_Ltake : Cal CX0 P w K mg base 1 "_law_take" sp_Ltake) :
    FnOk P w K mg base CX0 2 f fd ["_law_pool_here", "_law_text", "_law_signs_here"] sp_LbentN := by
  refine F.ok sc_Lbent (fun vs H Q E h => ?_) (fun cdv A outer s H vs Q E hr h => ?_)
  · obtain ⟨p, y, g, rfl, _⟩ := h
    rfl
  · obtain ⟨p, y, g, rfl, hp, g0, g1, y1, q⟩ := h
    refine ⟨_, (pss_cons (ps_set (i := 3) sc_Lbent.nd rfl (Or.inl rfl) (pc_c c_Ltake hr (by decide) rfl pass0 (pa_cons (pv 0) (pa_cons (pe_op op_add (pe_callB call_len_str (by rfl) T.n_len PySem.boot_len (pa_cons (pv 1) pa_nil)) pe_int) pa_nil))))
      (pss_cons (ps_set (i := 4) sc_Lbent.nd rfl (Or.inl rfl) (pe_ix ix_str (pv 2) (pc_c c_Ltake hr (by decide) rfl pass0 (pa_cons (pv 0) (pa_cons (pe_callB call_len_str (by rfl) T.n_len PySem.boot_len (pa_cons (pv 2) pa_nil)) pa_nil))) (fun _ _ => rfl)))
      (pss_cons (ps_set (i := 5) sc_Lbent.nd rfl (Or.inl rfl) (pc_c c_Ltake hr (by decide) rfl pass0 (pa_cons (pv 0) (pa_cons pe_int pa_nil))))
      (pss_cons (ps_if (pt_cmpR op_eq (pv 5) pe_int (nomark _)) (pss_one (ps_ret (pe_op op_add_str (pe_op op_add_str (pe_slice sl_str (pv 1) po_none (po_some (pv 3))) (pv 4)) (pe_slice sl_str (pv 1) (po_some (pv 3)) po_none)))) pss_nil)
      (pss_cons (ps_if (pt_cmpR op_eq (pv 5) pe_int (nomark _)) (pss_one (ps_ret (pe_op op_add_str (pe_op op_add_str (pe_slice sl_str (pv 1) po_none (po_some (pv 3))) (pv 4)) (pe_slice sl_str (pv 1) (po_some (pe_op op_add (pv 3) pe_int)) po_none)))) pss_nil)
      (pss_one (ps_ret (pe_op op_add_str (pe_slice sl_str (pv 1) po_none (po_some (pv 3))) (pe_slice sl_str (pv 1) (po_some (pe_op op_add (pv 3) pe_int)) po_none))))))))), ?_⟩
    have big : ∀ n : Nat, n ≤ 100000 → n ≤ sizeLine := fun n h => small_line h
    have nb : ∀ r : Int, 0 ≤ r → r ≤ 100000 → r.natAbs < 2 ^ 300 := fun r h0 h1 => Nat.lt_of_lt_of_le (by omega : r.natAbs < 2 ^ 20) (by decide)
    refine ⟨_, rfl, _, rfl, y, rfl, big _ (by omega), _, _, rfl, rfl, p, _, rfl, hp, by omega, nb _ (by omega) (by omega), fun H1 a k1 p1 a0 a1 => ?_⟩
    refine ⟨_, rfl, _, rfl, _, rfl, g, rfl, big _ (by omega), p, _, rfl, p1, by omega, nb _ (by omega) (by omega), fun H2 b k2 p2 b0 b1 => ?_⟩
    obtain ⟨c, hc⟩ := atI_in (xs := g.cps.toList) b0 (by rw [Array.length_toList]; exact b1)
    refine ⟨g, b, c, rfl, rfl, big _ (by omega), hc, ?_⟩
    refine ⟨_, rfl, p, 3, rfl, p2, by decide, by decide, fun H3 wy k3 p3 w0 w1 => ?_⟩
    have kk := (k1.trans k2).trans k3
    have c1 : ∀ lo hi, (cutS y lo hi).length ≤ y.length := fun lo hi => cut_len y lo hi
    have one : (⟨#[c]⟩ : Str).length = 1 := rfl
    refine ⟨_, rfl, rfl, _, rfl, ite2 (fun _ => ?_) (fun _ => ?_)⟩
    · have x1 := c1 none (some a)
      have x2 := c1 (some a) none
      exact ⟨_, rfl, _, rfl, _, rfl, y, rfl, big _ (by omega), _, rfl, _, _, rfl, rfl, big _ (by omega), _, rfl, _, rfl, _, rfl, y, rfl, big _ (by omega), _, _, rfl, rfl, big _ (by rw [app_len]; omega), q _ _ kk p3 (by rw [app_len, app_len]; omega)⟩
    · have x1 := c1 none (some a)
      have x2 := c1 (some (a + 1)) none
      refine ⟨_, rfl, rfl, _, rfl, ite2 (fun _ => ?_) (fun _ => ?_)⟩
      · exact ⟨_, rfl, _, rfl, _, rfl, y, rfl, big _ (by omega), _, rfl, _, _, rfl, rfl, big _ (by omega), _, rfl, _, rfl, _, _, rfl, rfl, _, rfl, y, rfl, big _ (by omega), _, _, rfl, rfl, big _ (by rw [app_len]; omega), q _ _ kk p3 (by rw [app_len, app_len]; omega)⟩
      · exact ⟨_, rfl, _, rfl, _, rfl, y, rfl, big _ (by omega), _, rfl, _, rfl, _, _, rfl, rfl, _, rfl, y, rfl, big _ (by omega), _, _, rfl, rfl, big _ (by omega), q _ _ kk p3 (by rw [app_len]; omega)⟩
theorem y0p {p : Str × Str} : atI [V.str p.1, V.str p.2] 0 = some (.str p.1) := rfl
theorem y1p {p : Str × Str} : atI [V.str p.1, V.str p.2] 1 = some (.str p.2) := rfl
theorem ok_Lterms_text {f : Addr} {fd : FuncData} (F : Fun K "_law_terms_text" "_law_terms_text" s_Lterms_text f fd) (T : Txt P w K mg C_BadRule C_CableError C_Rule A_WORDS A_OTHER_SIDE)  :
    FnOk P w K mg base CX0 1 f fd ["_law_terms_here"] (sp_LtextP K) := by
  refine F.ok sc_Lterms_text (fun vs H Q E h => ?_) (fun cdv A outer s H vs Q E hr h => ?_)
  · obtain ⟨l, xs, ps, rfl, _⟩ := h
    rfl
  · obtain ⟨l, xs, ps, rfl, hl, hps, okp, q⟩ := h
    refine ⟨_, (pss_cons (ps_if (pt_cmpR op_eq (pe_callB call_len_seq (by rfl) T.n_len PySem.boot_len (pa_cons (pv 0) pa_nil)) pe_int (nomark _)) (pss_one (ps_ret pe_str)) pss_nil)
      (pss_one (ps_ret (pe_bm PySem.F.plainAttrs_str PySem.F.slot_str_join PySem.F.type_str_join mt_join pe_str (pa_cons (pe_lc (own := [("_law_term_here", 1)]) (g := (gName 1)) (tt := tYes) rfl sc_Lterms_text.nd (pi_list (pv 0)) (blkOk_by (own := [("_law_term_here", 1)]) (N := ["_law_terms_here", "_law_term_here"]) (sc := defScope s_Lterms_text) (by decide +kernel)) (fun _ _ _ _ _ => (pg_name (i := 1) sc_Lterms_text.nd rfl (Or.inl rfl))) (fun _ _ _ _ _ => pts_nil) (fun _ _ _ _ _ => (pe_op op_add_str (pe_op op_add_str (pe_ix (show IxR _ (rIxT K) from ix_tup) (pv 1) pe_int (fun _ _ => rfl)) pe_str) (pe_ix (show IxR _ (rIxT K) from ix_tup) (pv 1) pe_int (fun _ _ => rfl))))) pa_nil))))), ?_⟩
    have l7 := okP_len okp
    have hlen := hps.len
    have hm := okP_mem okp
    refine ⟨_, rfl, l, _, rfl, .inl hl, rfl, _, rfl, ite2 (fun hc => ?_) (fun hc => ?_)⟩
    · have e : ps.length = 0 := by
        have z := of_decide_eq_true hc
        have := V.int.inj z
        omega
      have q' := q H (Same.of _)
      unfold txtP at q'
      rw [if_pos e] at q'
      exact q'
    · have e : ¬ ps.length = 0 := fun z => hc (by rw [hlen, z]; rfl)
      refine ⟨rfl, _, rfl, l, rfl, ⟨_, hl⟩, fun D hD => lc_list (K := K) (a := l) (xs := xs) (fun i H' => Same H H' ∧ H' D = some (.lst (((ps.take i).map txP).map V.str)))
        ⟨same_upd hD, upd_same⟩ (fun i H' _ ⟨s1, _⟩ => Same.seq s1 hl) ?_ ?_⟩
      · rintro i x H' hx ⟨s1, hD1⟩
        obtain ⟨t, ht, pt, rfl, hpt⟩ := hps.at hx
        have mt := hm t (List.mem_of_getElem? ht)
        have lt := tx_l2 t.1 mt.1 t.2 mt.2
        have hpt1 := sqt_same hpt s1
        have es : (" " : Str).length = 1 := by decide +kernel
        refine ⟨rfl, tyes ?_⟩
        refine ⟨_, rfl, pt, _, _, _, rfl, rfl, hpt1, y0p, _, _, rfl, rfl, Nat.le_of_lt (small1000 (by omega)), _, rfl, pt, _, _, _, rfl, rfl, hpt1, y1p, _, _, rfl, rfl, Nat.le_of_lt (small1000 (by omega)), ?_⟩
        refine ⟨_, hD1, small1000 (by rw [List.length_map, List.length_map, List.length_take]; omega), same_app s1 hD, ?_⟩
        rw [upd_same, ← take_snoc ht, List.map_append, List.map_append]
        rfl
      · rintro H' ⟨s1, hD1⟩
        rw [hlen, List.take_length] at hD1
        refine ⟨_, D, ps.map txP, rfl, rfl, .inl (SqL.of hD1), (by have := (txtP_len okp).2; omega), ?_⟩
        have q' := q H' s1
        unfold txtP at q'
        rw [if_neg e] at q'
        exact q'
theorem ok_Lany {f : Addr} {fd : FuncData} (F : Fun K "_law_any" "_law_any" s_Lany f fd) (T : Txt P w K mg C_BadRule C_CableError C_Rule A_WORDS A_OTHER_SIDE) (c_Ltake : Cal CX0 P w K mg base 1 "_law_take" sp_Ltake) :
    FnOk P w K mg base CX0 2 f fd ["_law_pool_here", "_law_signs_here"] sp_Lany := by
  refine F.ok sc_Lany (fun vs H Q E h => ?_) (fun cdv A outer s H vs Q E hr h => ?_)
  · obtain ⟨p, g, rfl, _⟩ := h
    rfl
  · obtain ⟨p, g, rfl, hp, g0, g1, q⟩ := h
    refine ⟨_, (pss_one (ps_ret (pe_bm PySem.F.plainAttrs_str PySem.F.slot_str_join PySem.F.type_str_join mt_join pe_str (pa_cons (pe_lc (own := [("_law_k", 2)]) (g := (gName 2)) (tt := tYes) rfl sc_Lany.nd (pi_range1 (by rfl) T.n_range (pa_cons (pc_c c_Ltake hr (by decide) rfl pass0 (pa_cons (pv 0) (pa_cons pe_int pa_nil))) pa_nil)) (blkOk_by (own := [("_law_k", 2)]) (N := ["_law_pool_here", "_law_signs_here", "_law_k"]) (sc := defScope s_Lany) (by decide +kernel)) (fun _ _ _ _ _ => (pg_name (i := 2) sc_Lany.nd rfl (Or.inl rfl))) (fun _ _ _ _ _ => pts_nil) (fun _ _ _ _ _ => (pe_ix ix_str (pv 1) (pc_c c_Ltake hr (by decide) rfl pass0 (pa_cons (pv 0) (pa_cons (pe_callB call_len_str (by rfl) T.n_len PySem.boot_len (pa_cons (pv 1) pa_nil)) pa_nil))) (fun _ _ => rfl)))) pa_nil)))), ?_⟩
    have nb : ∀ r : Int, 0 ≤ r → r ≤ 100000 → r.natAbs < 2 ^ 300 := fun r h0 h1 => Nat.lt_of_lt_of_le (by omega : r.natAbs < 2 ^ 20) (by decide)
    refine ⟨rfl, _, rfl, p, 41, rfl, hp, by decide, by decide, fun H2 r kk2 p2 r0 r1 => ?_⟩
    refine ⟨r, rfl, by omega, by omega, fun D hD => lc_range (lo := 0) (n := r.toNat) (fun i H' => Kp p H2 H' ∧ PoolAt H' p ∧ ∃ ys : List Str, ys.length = i ∧ (∀ y ∈ ys, y.length = 1) ∧ H' D = some (.lst (ys.map V.str)))
      ⟨Kp.of (same_upd hD), p2.same (same_upd hD), [], rfl, (fun _ z => by cases z), upd_same⟩ ?_ ?_⟩
    · rintro i H' hi ⟨kk3, p3, ys, e1, e2, hD1⟩
      refine ⟨rfl, tyes ⟨_, rfl, _, rfl, _, rfl, g, rfl, small_line (by omega), p, _, rfl, p3, by omega, nb _ (by omega) (by omega), fun H4 t kk4 p4 t0 t1 => ?_⟩⟩
      obtain ⟨c, hc⟩ := sign_at t0 t1
      refine ⟨g, t, c, rfl, rfl, small_line (by omega), hc, ?_⟩
      have nD := pool_ne p2 hD
      refine ⟨_, kk4 _ _ nD hD1, small1000 (by rw [List.length_map]; omega), kp_app (kk3.trans kk4) hD, pool_at p4 nD, ys ++ [⟨#[c]⟩], ?_, fun y hy => ?_, ?_⟩
      · rw [List.length_append, e1]
        rfl
      · rw [List.mem_append, List.mem_singleton] at hy
        rcases hy with hy | rfl
        · exact e2 y hy
        · rfl
      · rw [upd_same, List.map_append]
        rfl
    · rintro H3 ⟨kk3, p3, ys, e1, e2, hD1⟩
      have e3 : ("" : Str).length = 0 := by decide +kernel
      have hs := sum1 e2
      refine ⟨_, D, ys, rfl, rfl, .inl (SqL.of hD1), by rw [hs, e3]; omega, q _ _ (kk2.trans kk3) ?_⟩
      have z := join_le "" ys
      rw [hs, e3] at z
      omega
theorem ok_Lterm_text {f : Addr} {fd : FuncData} (F : Fun K "_law_term_text" "_law_term_text" s_Lterm_text f fd) (T : Txt P w K mg C_BadRule C_CableError C_Rule A_WORDS A_OTHER_SIDE) (c_Ltake : Cal CX0 P w K mg base 1 "_law_take" sp_Ltake) :
    FnOk P w K mg base CX0 2 f fd ["_law_pool_here"] sp_Ltermtext := by
  refine F.ok sc_Lterm_text (fun vs H Q E h => ?_) (fun cdv A outer s H vs Q E hr h => ?_)
  · obtain ⟨p, rfl, _⟩ := h
    rfl
  · obtain ⟨p, rfl, hp, q⟩ := h
    refine ⟨_, (pss_cons (ps_set (i := 1) sc_Lterm_text.nd rfl (Or.inl rfl) (pe_lst (pa_cons pe_str (pa_cons pe_str (pa_cons pe_str (pa_cons pe_str (pa_cons pe_str (pa_cons pe_str (pa_cons pe_str pa_nil)))))))))
      (pss_cons (ps_if (pt_cmpR op_eq (pc_c c_Ltake hr (by decide) rfl pass0 (pa_cons (pv 0) (pa_cons pe_int pa_nil))) pe_int (nomark _)) (pss_cons (ps_set (i := 2) sc_Lterm_text.nd rfl (Or.inl rfl) (pe_lst (pa_cons pe_str (pa_cons pe_str (pa_cons pe_str (pa_cons pe_str (pa_cons pe_str (pa_cons pe_str (pa_cons pe_str (pa_cons pe_str pa_nil))))))))))
      (pss_one (ps_ret (pe_ix ix_list (pe_op op_cat (pv 2) (pe_lst (pa_cons pe_str pa_nil))) (pc_c c_Ltake hr (by decide) rfl pass0 (pa_cons (pv 0) (pa_cons pe_int pa_nil))) (fun _ _ => rfl))))) pss_nil)
      (pss_one (ps_ret (pe_op op_add_str (pe_ix ix_list (pe_lst (pa_cons pe_str (pa_cons pe_str pa_nil))) (pc_c c_Ltake hr (by decide) rfl pass0 (pa_cons (pv 0) (pa_cons pe_int pa_nil))) (fun _ _ => rfl)) (pe_ix ix_list (pv 1) (pc_c c_Ltake hr (by decide) rfl pass0 (pa_cons (pv 0) (pa_cons pe_int pa_nil))) (fun _ _ => rfl))))))), ?_⟩
    refine ⟨(by show 7 ≤ sizeLine; decide), fun l1 hl1 => ?_⟩
    have s1 := same_upd (o := .lst (wordsL.map V.str)) hl1
    have n1 := pool_ne hp hl1
    refine ⟨_, rfl, p, 6, rfl, hp.same s1, by decide, by decide, fun H2 r k2 p2 r0 r1 => ⟨rfl, _, rfl, ite2 (fun _ => ?_) (fun _ => ?_)⟩⟩
    · refine ⟨(by show 8 ≤ sizeLine; decide), fun l2 hl2 => ?_⟩
      have s2 := same_upd (o := .lst (([("" : Str), "least", "least  slack", " least slack", "least slack ", "slack least", "first come", "Most left"] : List Str).map V.str)) hl2
      refine ⟨_, rfl, (by show 1 ≤ sizeLine; decide), fun l3 hl3 => ?_⟩
      have s3 := same_upd (o := .lst [V.str "least slack most"]) hl3
      refine ⟨l2, l3, _, _, rfl, rfl, s3 _ _ upd_same, upd_same, (by show 9 ≤ sizeLine; decide), fun l4 hl4 => ?_⟩
      have s4 := same_upd (o := .lst (oddsL.map V.str)) hl4
      have s24 := (s2.trans s3).trans s4
      have p4 := p2.same s24
      have n4 := pool_ne (p2.same (s2.trans s3)) hl4
      refine ⟨_, rfl, p, 9, rfl, p4, by decide, by decide, fun H3 r' k3 p3 a0 a1 => ?_⟩
      obtain ⟨k, hk, hat⟩ := str_at (ks := oddsL) a0 a1
      exact ⟨l4, _, _, _, rfl, rfl, SqL.of (k3 _ _ n4 upd_same), hat, q _ k ((((Kp.of s1).trans k2).trans (Kp.of s24)).trans k3) p3 (odds_len k hk)⟩
    · have hl12 := k2 _ _ n1 upd_same
      refine ⟨(by show 2 ≤ sizeLine; decide), fun l2 hl2 => ?_⟩
      have s2 := same_upd (o := .lst (([("least " : Str), "most "] : List Str).map V.str)) hl2
      have n2 := pool_ne p2 hl2
      refine ⟨_, rfl, p, 2, rfl, p2.same s2, by decide, by decide, fun H3 r' k3 p3 a0 a1 => ?_⟩
      obtain ⟨k, hk, hat⟩ := str_at (ks := [("least " : Str), "most "]) a0 a1
      have lk : ∀ k ∈ ([("least " : Str), "most "] : List Str), k.length ≤ 6 := by decide +kernel
      refine ⟨l2, _, _, _, rfl, rfl, SqL.of (k3 _ _ n2 upd_same), hat, ?_⟩
      refine ⟨_, rfl, _, rfl, p, 7, rfl, p3, by decide, by decide, fun H4 r2 k4 p4 b0 b1 => ?_⟩
      obtain ⟨k', hk', hat'⟩ := str_at (ks := wordsL) b0 b1
      have lw : ∀ k ∈ wordsL, k.length ≤ 5 := by unfold wordsL; decide +kernel
      have e1 := lk k hk
      have e2 := lw k' hk'
      refine ⟨l1, _, _, _, rfl, rfl, SqL.of (k4 _ _ n1 (k3 _ _ n1 (s2 _ _ hl12))), hat', _, _, rfl, rfl, small_line (by omega), q _ _ (((((Kp.of s1).trans k2).trans (Kp.of s2)).trans k3).trans k4) p4 (by rw [app_len]; omega)⟩
theorem ok_Lrow_of_parts {f : Addr} {fd : FuncData} (F : Fun K "_law_row_of_parts" "_law_row_of_parts" s_Lrow_of_parts f fd) (T : Txt P w K mg C_BadRule C_CableError C_Rule A_WORDS A_OTHER_SIDE) (c_Ltake : Cal CX0 P w K mg base 1 "_law_take" sp_Ltake) (c_Lterm_text : Cal CX0 P w K mg base 2 "_law_term_text" sp_Ltermtext) :
    FnOk P w K mg base CX0 3 f fd ["_law_pool_here"] sp_Lrow := by
  refine F.ok sc_Lrow_of_parts (fun vs H Q E h => ?_) (fun cdv A outer s H vs Q E hr h => ?_)
  · obtain ⟨p, rfl, _⟩ := h
    rfl
  · obtain ⟨p, rfl, hp, q⟩ := h
    refine ⟨_, (pss_cons (ps_setLc (i := 1) (own := [("_law_k", 3)]) (g := (gName 3)) (tt := tYes) rfl sc_Lrow_of_parts.nd rfl rfl (sw_true rfl rfl rfl (by decide +kernel)) (pi_range1 (by rfl) T.n_range (pa_cons (pc_c c_Ltake hr (by decide) rfl pass0 (pa_cons (pv 0) (pa_cons pe_int pa_nil))) pa_nil)) (blkOk_by (own := [("_law_k", 3)]) (N := ["_law_pool_here", "_law_parts", "_law_between", "_law_k"]) (sc := defScope s_Lrow_of_parts) (by decide +kernel)) (fun _ _ _ _ _ => (pg_name (i := 3) sc_Lrow_of_parts.nd rfl (Or.inl rfl))) (fun _ _ _ _ _ => pts_nil) (fun _ _ _ _ _ => (pc_c c_Lterm_text hr (by decide) rfl pass0 (pa_cons (pv 0) pa_nil))))
      (pss_cons (ps_set (i := 2) sc_Lrow_of_parts.nd rfl (Or.inl rfl) (pe_ix ix_list (pe_lst (pa_cons pe_str (pa_cons pe_str (pa_cons pe_str (pa_cons pe_str (pa_cons pe_str (pa_cons pe_str (pa_cons pe_str (pa_cons pe_str pa_nil))))))))) (pc_c c_Ltake hr (by decide) rfl pass0 (pa_cons (pv 0) (pa_cons pe_int pa_nil))) (fun _ _ => rfl)))
      (pss_one (ps_ret (pe_bm PySem.F.plainAttrs_str PySem.F.slot_str_join PySem.F.type_str_join mt_join (pv 2) (pa_cons (pv 1) pa_nil)))))), ?_⟩
    refine ⟨_, rfl, p, 7, rfl, hp, by decide, by decide, fun H2 r k2 p2 r0 r1 => ?_⟩
    refine ⟨r, rfl, by omega, by omega, fun D hD => lc_range (lo := 0) (n := r.toNat) (fun i H' => Kp p H2 H' ∧ PoolAt H' p ∧ ∃ ys : List Str, ys.length = i ∧ (∀ y ∈ ys, y.length ≤ 20) ∧ H' D = some (.lst (ys.map V.str)))
      ⟨Kp.of (same_upd hD), p2.same (same_upd hD), [], rfl, (fun _ z => by cases z), upd_same⟩ ?_ ?_⟩
    · rintro i H' hi ⟨kk3, p3, ys, e1, e2, hD1⟩
      refine ⟨rfl, tyes ⟨_, rfl, p, rfl, p3, fun H4 z kk4 p4 hz => ?_⟩⟩
      have nD := pool_ne p2 hD
      refine ⟨_, kk4 _ _ nD hD1, small1000 (by rw [List.length_map]; omega), kp_app (kk3.trans kk4) hD, pool_at p4 nD, ys ++ [z], ?_, fun y hy => ?_, ?_⟩
      · rw [List.length_append, e1]
        rfl
      · rw [List.mem_append, List.mem_singleton] at hy
        rcases hy with hy | rfl
        · exact e2 y hy
        · exact hz
      · rw [upd_same, List.map_append]
        rfl
    · rintro H3 ⟨kk3, p3, ys, e1, e2, hD1⟩
      refine ⟨(by show 8 ≤ sizeLine; decide), fun l2 hl2 => ?_⟩
      have s2 := same_upd (o := .lst (sepsL.map V.str)) hl2
      have n2 := pool_ne p3 hl2
      have nD := pool_ne p2 hD
      refine ⟨_, rfl, p, 8, rfl, p3.same s2, by decide, by decide, fun H4 r' k3 p4 a0 a1 => ?_⟩
      obtain ⟨k, hk, hat⟩ := str_at (ks := sepsL) a0 a1
      refine ⟨l2, _, _, _, rfl, rfl, SqL.of (k3 _ _ n2 upd_same), hat, ?_⟩
      have e3 := seps_len k hk
      have hs := sum_le20 e2
      have hm : ys.length * k.length ≤ 6 * 3 := Nat.mul_le_mul (by omega) e3
      have z := join_le k ys
      exact ⟨_, rfl, rfl, _, rfl, k, D, ys, rfl, rfl, .inl (SqL.of (k3 _ _ nD (s2 _ _ hD1))), by omega, q _ _ (((k2.trans kk3).trans (Kp.of s2)).trans k3) (by omega)⟩
theorem ok_Lshort_text {f : Addr} {fd : FuncData} (F : Fun K "_law_short_text" "_law_short_text" s_Lshort_text f fd) (T : Txt P w K mg C_BadRule C_CableError C_Rule A_WORDS A_OTHER_SIDE) (c_Ltake : Cal CX0 P w K mg base 1 "_law_take" sp_Ltake) :
    FnOk P w K mg base CX0 2 f fd ["_law_pool_here"] sp_Lrow := by
  refine F.ok sc_Lshort_text (fun vs H Q E h => ?_) (fun cdv A outer s H vs Q E hr h => ?_)
  · obtain ⟨p, rfl, _⟩ := h
    rfl
  · obtain ⟨p, rfl, hp, q⟩ := h
    refine ⟨_, (pss_cons (ps_set (i := 1) sc_Lshort_text.nd rfl (Or.inl rfl) (pe_lst (pa_cons pe_str (pa_cons pe_str (pa_cons pe_str (pa_cons pe_str (pa_cons pe_str (pa_cons pe_str (pa_cons pe_str pa_nil)))))))))
      (pss_cons (ps_set (i := 1) sc_Lshort_text.nd rfl (Or.inl rfl) (pe_op op_cat (pv 1) (pe_lst (pa_cons pe_str (pa_cons pe_str (pa_cons pe_str (pa_cons pe_str (pa_cons pe_str pa_nil))))))))
      (pss_one (ps_ret (pe_ix ix_list (pv 1) (pc_c c_Ltake hr (by decide) rfl pass0 (pa_cons (pv 0) (pa_cons pe_int pa_nil))) (fun _ _ => rfl)))))), ?_⟩
    refine ⟨(by show 7 ≤ sizeLine; decide), fun l2 hl2 => ?_⟩
    have s2 := same_upd (o := .lst (([("" : Str), "first come", "first  come", "First come", "first come, least got", "least got, first come", ","] : List Str).map V.str)) hl2
    refine ⟨_, rfl, (by show 5 ≤ sizeLine; decide), fun l3 hl3 => ?_⟩
    have s3 := same_upd (o := .lst (([(", " : Str), "least got, ", ", least got", " first come", "first come "] : List Str).map V.str)) hl3
    refine ⟨l2, l3, _, _, rfl, rfl, s3 _ _ upd_same, upd_same, (by show 12 ≤ sizeLine; decide), fun l4 hl4 => ?_⟩
    have s4 := same_upd (o := .lst (shortsL.map V.str)) hl4
    have s24 := (s2.trans s3).trans s4
    have n4 := pool_ne (hp.same (s2.trans s3)) hl4
    refine ⟨_, rfl, _, rfl, p, 12, rfl, hp.same s24, by decide, by decide, fun H3 r' k3 p3 a0 a1 => ?_⟩
    obtain ⟨k, hk, hat⟩ := str_at (ks := shortsL) a0 a1
    have := shorts_len k hk
    exact ⟨l4, _, _, _, rfl, rfl, SqL.of (k3 _ _ n4 upd_same), hat, q _ k ((Kp.of s24).trans k3) (by omega)⟩
theorem ok_Lcut {f : Addr} {fd : FuncData} (F : Fun K "_law_cut" "_law_cut" s_Lcut f fd) (T : Txt P w K mg C_BadRule C_CableError C_Rule A_WORDS A_OTHER_SIDE)  :
    FnOk P w K mg base CX0 1 f fd ["_law_text"] sp_Lcut := by
  refine F.ok sc_Lcut (fun vs H Q E h => ?_) (fun cdv A outer s H vs Q E hr h => ?_)
  · obtain ⟨y, rfl, _⟩ := h
    rfl
  · obtain ⟨y, rfl, hl, q⟩ := h
    refine ⟨_, (pss_cons (ps_set (i := 1) sc_Lcut.nd rfl (Or.inl rfl) (pe_lst pa_nil))
      (pss_cons (ps_set (i := 2) sc_Lcut.nd rfl (Or.inl rfl) pe_str)
      (pss_cons (ps_set (i := 3) sc_Lcut.nd rfl (Or.inl rfl) pe_bl)
      (pss_cons (ps_for PassesOwn.never rfl (pi_range1 (by rfl) T.n_range (pa_cons (pe_callB call_len_str (by rfl) T.n_len PySem.boot_len (pa_cons (pv 0) pa_nil)) pa_nil)) (pg_name (i := 4) sc_Lcut.nd rfl (Or.inl rfl))
        (pss_one (ps_if (pt_val (pv 3)) (pss_one (ps_set (i := 3) sc_Lcut.nd rfl (Or.inl rfl) pe_bl)) (pss_one (ps_if (pt_cmpR op_eq (pe_slice sl_str (pv 0) (po_some (pv 4)) (po_some (pe_op op_add (pv 4) pe_int))) pe_str (nomark _)) (pss_cons (ps_expr (pe_bm PySem.F.plainAttrs_list PySem.F.slot_list_append PySem.F.type_list_append mt_append (pv 1) (pa_cons (pv 2) pa_nil)))
      (pss_cons (ps_set (i := 2) sc_Lcut.nd rfl (Or.inl rfl) pe_str)
      (pss_one (ps_set (i := 3) sc_Lcut.nd rfl (Or.inl rfl) pe_bl)))) (pss_one (ps_set (i := 2) sc_Lcut.nd rfl (Or.inl rfl) (pe_op op_add_str (pv 2) (pe_ix ix_str (pv 0) (pv 4) (fun _ _ => rfl))))))))))
      (pss_cons (ps_expr (pe_bm PySem.F.plainAttrs_list PySem.F.slot_list_append PySem.F.type_list_append mt_append (pv 1) (pa_cons (pv 2) pa_nil)))
      (pss_one (ps_ret (pv 1)))))))), ?_⟩
    have hyl : y.length = (TL.tl y).length := TL.len_tl y
    refine ⟨Nat.zero_le _, fun D hD => ?_⟩
    refine ⟨_, rfl, y, rfl, small_line (by omega), _, rfl, by omega, by omega, for_range (lo := 0) (n := ((y.length : Nat) : Int).toNat) (fun i σ H' => ∃ (v4 : Option V) (ps : List Str) (w : Str) (sk : Bool), σ = [some (.str y), some (.ref D), some (.str w), some (.bl sk), v4] ∧ Same H H' ∧ H' D = some (.lst (ps.map V.str)) ∧
        ps.map TL.tl ++ TL.spl [44, 32] (if sk = true then 1 else 0) (TL.tl w) ((TL.tl y).drop i) = TL.spl [44, 32] 0 [] (TL.tl y) ∧ ps.length ≤ i ∧ w.length ≤ i)
      ⟨none, [], "", false, rfl, same_upd hD, upd_same, rfl, Nat.le_refl _, by decide +kernel⟩ ?_ ?_⟩
    · rintro i σ H' hi ⟨v4, ps, w, sk, rfl, s1, hD1, he, hp, hw⟩
      have hi' : i < y.length := by omega
      obtain ⟨c, hc⟩ := TL.getElem_drop_cons (L := TL.tl y) (a := i) (by omega)
      rw [hc] at he
      refine ⟨_, rfl, sk, rfl, iteB (fun hk => ?_) (fun hk => ?_)⟩
      · subst hk
        exact ⟨_, ps, w, false, rfl, s1, hD1, he, by omega, by omega⟩
      · subst hk
        rw [if_neg Bool.false_ne_true] at he
        refine ⟨_, rfl, _, rfl, _, rfl, _, rfl, _, _, rfl, rfl, _, rfl, y, rfl, small_line (by omega), rfl, _, rfl, ?_⟩
        rw [Int.zero_add]
        refine ite2 (fun hc2 => ?_) (fun hc2 => ?_)
        · have e2 : cutS y (some (i : Int)) (some ((i : Int) + 2)) = ", " := by
            have := of_decide_eq_true hc2
            injection this
          have hpre : TL.pre [44, 32] (c :: (TL.tl y).drop (i + 1)) = true := by
            rw [← hc]
            exact (cut_pre2 (Nat.le_of_lt hi')).mp e2
          rw [TL.spl_hit hpre] at he
          refine ⟨_, rfl, .inl ⟨rfl, _, SqL.of hD1⟩, _, rfl, D, _, _, rfl, rfl, hD1, small1000 (by rw [List.length_map]; omega), ?_⟩
          refine ⟨_, ps ++ [w], "", true, rfl, same_app s1 hD, by rw [upd_same, List.map_append]; rfl, ?_, by rw [List.length_append]; exact Nat.succ_le_succ hp, (by rw [empty_len]; exact Nat.zero_le _)⟩
          rw [List.map_append, List.append_assoc]
          exact he
        · have e2 : ¬ cutS y (some (i : Int)) (some ((i : Int) + 2)) = ", " := fun z => hc2 (by rw [z]; exact decide_eq_true rfl)
          have hpre : TL.pre [44, 32] (c :: (TL.tl y).drop (i + 1)) = false := by
            rw [← hc]
            exact Bool.eq_false_iff.mpr fun z => e2 ((cut_pre2 (Nat.le_of_lt hi')).mpr z)
          rw [TL.spl_miss hpre] at he
          have hat : atI y.cps.toList (i : Int) = some c := by
            refine atI_nat ?_
            have z := congrArg (fun l : List Nat => l[0]?) hc
            simp only [List.getElem?_drop, Nat.add_zero, List.getElem?_cons_zero] at z
            exact z
          refine ⟨_, rfl, _, rfl, _, rfl, y, _, c, rfl, rfl, small_line (by omega), hat, w, _, rfl, rfl, small_line (by show w.length + 1 ≤ _; omega), ?_⟩
          refine ⟨_, ps, w ++ ⟨#[c]⟩, false, rfl, s1, hD1, ?_, by omega, by rw [app_len]; exact Nat.succ_le_succ hw⟩
          rw [TL.tl_append]
          exact he
    · rintro σ H' ⟨v4, ps, w, sk, rfl, s1, hD1, he, hp, hw⟩
      rw [show ((y.length : Nat) : Int).toNat = (TL.tl y).length by omega, List.drop_length, TL.spl_nil] at he
      have e : ps ++ [w] = Txt.split y ", " := by
        refine TL.map_tl_inj ?_
        rw [TL.split_spl y ", " (by decide +kernel) (TL.kind_ok (by decide +kernel)), sep_tl, ← he, List.map_append]
        rfl
      refine ⟨_, rfl, .inl ⟨rfl, _, SqL.of hD1⟩, _, rfl, D, _, _, rfl, rfl, hD1, small1000 (by rw [List.length_map]; omega), ?_⟩
      refine ⟨_, rfl, q _ D (same_app s1 hD) hD ?_⟩
      rw [upd_same, ← e, List.map_append]
      rfl
theorem ok_Lterm {f : Addr} {fd : FuncData} (F : Fun K "_law_term" "_law_term" s_Lterm f fd) (T : Txt P w K mg C_BadRule C_CableError C_Rule A_WORDS A_OTHER_SIDE)  :
    FnOk P w K mg base CX0 1 f fd ["_law_part"] sp_Lterm := by
  refine F.ok sc_Lterm (fun vs H Q E h => ?_) (fun cdv A outer s H vs Q E hr h => ?_)
  · obtain ⟨z, rfl, _⟩ := h
    rfl
  · obtain ⟨z, rfl, q1, q2⟩ := h
    refine ⟨_, (pss_cons (ps_for PassesOwn.never rfl (pi_list (pe_lst (pa_cons pe_str (pa_cons pe_str pa_nil)))) (pg_name (i := 1) sc_Lterm.nd rfl (Or.inl rfl))
        (pss_one (ps_for PassesOwn.never rfl (pi_list (pe_lst (pa_cons pe_str (pa_cons pe_str (pa_cons pe_str (pa_cons pe_str (pa_cons pe_str (pa_cons pe_str (pa_cons pe_str pa_nil))))))))) (pg_name (i := 2) sc_Lterm.nd rfl (Or.inl rfl))
        (pss_one (ps_if (pt_cmpR op_eq (pv 0) (pe_op op_add_str (pe_op op_add_str (pv 1) pe_str) (pv 2)) (nomark _)) (pss_one (ps_ret (pe_tup (pa_cons (pv 1) (pa_cons (pv 2) pa_nil))))) pss_nil)))))
      (pss_one (ps_ret pe_non))), ?_⟩
    refine ⟨(by show 2 ≤ sizeLine; decide), fun l1 hl1 => ?_⟩
    have s1 := same_upd (o := .lst (sidesL.map V.str)) hl1
    refine ⟨l1, rfl, ⟨_, SqL.of upd_same⟩, for_list (K := K) (a := l1) (xs := sidesL.map V.str) (fun i σ H' => ∃ v1 v2 : Option V, σ = [some (.str z), v1, v2] ∧ Same H H' ∧ H' l1 = some (.lst (sidesL.map V.str)) ∧ ∀ s ∈ sidesL.take i, ∀ w ∈ wordsL, z ≠ s ++ " " ++ w)
      ⟨none, none, rfl, s1, upd_same, fun s hs => by cases hs⟩ (fun i σ H' _ ⟨_, _, _, _, h, _⟩ => SqL.of h) ?_ ?_⟩
    · rintro i x σ H' hx ⟨v1, v2, rfl, s2, hl2, hno⟩
      obtain ⟨sd0, hsd, rfl⟩ := str_of hx
      have hsm := List.mem_of_getElem? hsd
      refine ⟨(by show 7 ≤ sizeLine; decide), fun l2 hl3 => ?_⟩
      have s3 := same_upd (o := .lst (wordsL.map V.str)) hl3
      refine ⟨l2, rfl, ⟨_, SqL.of upd_same⟩, for_list (K := K) (a := l2) (xs := wordsL.map V.str) (fun j σ H2 => ∃ v2 : Option V, σ = [some (.str z), some (.str sd0), v2] ∧ Same H' H2 ∧ H2 l2 = some (.lst (wordsL.map V.str)) ∧ ∀ w ∈ wordsL.take j, z ≠ sd0 ++ " " ++ w)
        ⟨_, rfl, s3, upd_same, fun w hw => by cases hw⟩ (fun i σ H' _ ⟨_, _, _, h, _⟩ => SqL.of h) ?_ ?_⟩
      · rintro j x σ H2 hx ⟨v2, rfl, s4, hl4, hno2⟩
        obtain ⟨w0, hw0, rfl⟩ := str_of hx
        have hwm := List.mem_of_getElem? hw0
        have lt := tx_l2 sd0 hsm w0 hwm
        have es : (" " : Str).length = 1 := by decide +kernel
        refine ⟨_, rfl, _, rfl, _, _, rfl, rfl, small_line (by omega), _, rfl, _, _, rfl, rfl, small_line (by omega), rfl, _, rfl, ite2 (fun hc => ?_) (fun hc => ?_)⟩
        · have e : z = sd0 ++ " " ++ w0 := by
            have := of_decide_eq_true hc
            injection this
          exact ⟨_, rfl, _, rfl, (by show 2 ≤ sizeLine; decide), fun t ht => q1 sd0 hsm w0 hwm e _ t ((s2.trans s4).trans (same_upd ht)) (none_of (s2.trans s4) ht) upd_same⟩
        · have e : ¬ z = sd0 ++ " " ++ w0 := fun e => hc (by rw [← e]; exact decide_eq_true rfl)
          refine ⟨_, rfl, s4, hl4, fun w hw => ?_⟩
          rw [← take_snoc hw0, List.mem_append, List.mem_singleton] at hw
          rcases hw with hw | rfl
          · exact hno2 w hw
          · exact e
      · rintro σ H2 ⟨v2, rfl, s4, hl4, hno2⟩
        rw [List.length_map, List.take_length] at hno2
        refine ⟨_, _, rfl, s2.trans s4, s4 _ _ hl2, fun s hs w hw => ?_⟩
        rw [← take_snoc hsd, List.mem_append, List.mem_singleton] at hs
        rcases hs with hs | rfl
        · exact hno s hs w hw
        · exact hno2 w hw
    · rintro σ H' ⟨v1, v2, rfl, s2, _, hno⟩
      rw [List.length_map, List.take_length] at hno
      exact q2 hno _ s2
theorem ok_Lreading {f : Addr} {fd : FuncData} (F : Fun K "_law_reading" "_law_reading" s_Lreading f fd) (T : Txt P w K mg C_BadRule C_CableError C_Rule A_WORDS A_OTHER_SIDE) (c_Lcut : Cal CX0 P w K mg base 1 "_law_cut" sp_Lcut) (c_Lterm : Cal CX0 P w K mg base 1 "_law_term" sp_Lterm) :
    FnOk P w K mg base CX0 2 f fd ["_law_text"] (sp_Lreading K) := by
  refine F.ok sc_Lreading (fun vs H Q E h => ?_) (fun cdv A outer s H vs Q E hr h => ?_)
  · obtain ⟨y, rfl, _⟩ := h
    rfl
  · obtain ⟨y, rfl, hl, q1, q2⟩ := h
    refine ⟨_, (pss_cons (ps_set (i := 1) sc_Lreading.nd rfl (Or.inl rfl) (pe_lst pa_nil))
      (pss_cons (ps_if (pt_cmpR op_eq (pv 0) pe_str (nomark _)) (pss_one (ps_ret (pe_lst (pa_cons (pv 1) (pa_cons pe_non pa_nil))))) pss_nil)
      (pss_cons (ps_for PassesOwn.never rfl (pi_list (pc_c c_Lcut hr (by decide) rfl pass0 (pa_cons (pv 0) pa_nil))) (pg_name (i := 2) sc_Lreading.nd rfl (Or.inl rfl))
        (pss_cons (ps_set (i := 3) sc_Lreading.nd rfl (Or.inl rfl) (pc_c c_Lterm hr (by decide) rfl pass0 (pa_cons (pv 2) pa_nil)))
      (pss_cons (ps_if (pt_cmpR op_isN (pv 3) pe_non (nomark _)) (pss_one (ps_ret (pe_lst (pa_cons pe_non (pa_cons (pe_callB call_len_seq (by rfl) T.n_len PySem.boot_len (pa_cons (pv 1) pa_nil)) pa_nil))))) pss_nil)
      (pss_cons (ps_if (pt_cmpR op_in_seq (pe_ix ix_tup (pv 3) pe_int (fun _ _ => rfl)) (pe_lc (own := [("_law_old", 4)]) (g := (gName 4)) (tt := tYes) rfl sc_Lreading.nd (pi_list (pv 1)) (blkOk_by (own := [("_law_old", 4)]) (N := ["_law_text", "_law_terms_here", "_law_part", "_law_term_here", "_law_old"]) (sc := defScope s_Lreading) (by decide +kernel)) (fun _ _ _ _ _ => (pg_name (i := 4) sc_Lreading.nd rfl (Or.inl rfl))) (fun _ _ _ _ _ => pts_nil) (fun _ _ _ _ _ => (pe_ix (show IxR _ (rIxT K) from ix_tup) (pv 4) pe_int (fun _ _ => rfl)))) (by rfl)) (pss_one (ps_ret (pe_lst (pa_cons pe_non (pa_cons (pe_callB call_len_seq (by rfl) T.n_len PySem.boot_len (pa_cons (pv 1) pa_nil)) pa_nil))))) pss_nil)
      (pss_one (ps_expr (pe_bm PySem.F.plainAttrs_list PySem.F.slot_list_append PySem.F.type_list_append mt_append (pv 1) (pa_cons (pv 3) pa_nil))))))))
      (pss_one (ps_ret (pe_lst (pa_cons (pv 1) (pa_cons pe_non pa_nil)))))))), ?_⟩
    refine ⟨Nat.zero_le _, fun D hD => ⟨_, rfl, rfl, _, rfl, ite2 (fun hc => ?_) (fun hc => ?_)⟩⟩
    · have e : y = "first come" := by
        have := of_decide_eq_true hc
        injection this
      have e2 : psOf y = [] := by
        unfold psOf
        rw [if_pos e]
      have sD := same_upd (o := .lst []) hD
      exact ⟨_, rfl, (by show 2 ≤ sizeLine; decide), fun g hg => q2 (by rw [e2]; rintro j ⟨p, hp, _⟩; cases hp) _ g D [] (sD.trans (same_upd hg)) upd_same (same_upd hg _ _ upd_same) (by rw [e2]; exact .nil)⟩
    · have e : y ≠ "first come" := fun z => hc (by rw [z]; exact decide_eq_true rfl)
      have e2 : psOf y = (Txt.split y ", ").map ptn := by
        unfold psOf
        rw [if_neg e]
      have hsl := split_len1 y ", "
      have sD := same_upd (o := .lst []) hD
      refine ⟨_, rfl, y, rfl, hl, fun H1 l s1 nl hl1 => ?_⟩
      have s01 := sD.trans s1
      have hD1 := s1 _ _ upd_same
      have nDl : D ≠ l := fun z => by rw [← z, upd_same] at nl; cases nl
      refine ⟨l, rfl, ⟨_, SqL.of hl1⟩, for_list (K := K) (a := l) (xs := (Txt.split y ", ").map V.str) (fun i σ H' => ∃ (v2 v3 : Option V) (zs : List V), σ = [some (.str y), some (.ref D), v2, v3, none] ∧ Same H H' ∧ H' l = some (.lst ((Txt.split y ", ").map V.str)) ∧ H' D = some (.lst zs) ∧ Al (PairV K H') zs (((Txt.split y ", ").take i).map ptn) ∧ ∀ j < i, ¬ badP (psOf y) j)
        ⟨none, none, [], rfl, s01, hl1, hD1, .nil, fun j hj => by omega⟩ (fun i σ H' _ ⟨_, _, _, _, _, h, _⟩ => SqL.of h) ?_ ?_⟩
      · rintro i x σ H' hx ⟨v2, v3, zs, rfl, s2, hl2, hD2, hzs, hno⟩
        obtain ⟨z, hz, rfl⟩ := str_of hx
        have hzl := hzs.len
        have hi : i < (Txt.split y ", ").length := (List.getElem?_eq_some_iff.mp hz).1
        rw [List.length_map, List.length_take, Nat.min_eq_left (by omega)] at hzl
        have hpi : (psOf y)[i]? = some (ptn z) := by rw [e2, List.getElem?_map, hz]; rfl
        have htk : (psOf y).take i = ((Txt.split y ", ").take i).map ptn := by rw [e2, List.map_take]
        refine ⟨_, rfl, z, rfl, fun s hs w hw ez H2 t s3 nt ht => ?_, fun hnt H2 s3 => ?_⟩
        · have epz : ptn z = (s, w) := by rw [ez]; exact ptn_tx s hs w hw
          have hD3 := s3 _ _ hD2
          have hzs3 := Al.mono (fun _ _ h => PairV.same h s3) hzs
          refine ⟨_, rfl, rfl, _, rfl, iteDF (by intro z; cases z) ?_⟩
          refine ⟨_, rfl, t, _, _, _, rfl, rfl, SqT.of ht, (rfl : atI [V.str s, V.str w] 1 = some (.str w)), _, rfl, D, rfl, ⟨_, SqL.of hD3⟩, fun W hW => lc_list (K := K) (a := D) (xs := zs) (fun k H4 => Same H2 H4 ∧ H4 W = some (.lst ((((Txt.split y ", ").take i).map ptn).take k |>.map (·.2) |>.map V.str)))
            ⟨same_upd hW, upd_same⟩ (fun k H4 _ ⟨s4, _⟩ => SqL.of (s4 _ _ hD3)) ?_ ?_⟩
          · rintro k x H4 hx ⟨s4, hW4⟩
            obtain ⟨pr, hpr, pt, rfl, hpt⟩ := hzs3.at hx
            have kl := (List.getElem?_eq_some_iff.mp hpr).1
            rw [List.length_map, List.length_take] at kl
            refine ⟨rfl, tyes ⟨_, rfl, pt, _, _, _, rfl, rfl, sqt_same hpt s4, y1p, _, hW4, small1000 (by rw [List.length_map, List.length_map, List.length_take]; omega), same_app s4 hW, ?_⟩⟩
            rw [upd_same, ← take_snoc hpr, List.map_append, List.map_append]
            rfl
          · rintro H4 ⟨s4, hW4⟩
            rw [hzs.len, List.take_length] at hW4
            have hD4 := s4 _ _ hD3
            refine ⟨W, _, rfl, .inl (SqL.of hW4), rfl, flat_strs _, _, rfl, iteB (fun hc => ?_) (fun hc => ?_)⟩
            · have hc2 : inV (.str w) (((((Txt.split y ", ").take i).map ptn).map (·.2)).map V.str) = true := hc
              rw [inV_str] at hc2
              have hb : badP (psOf y) i := ⟨_, hpi, .inr (.inr (by rw [epz, htk]; exact of_decide_eq_true hc2))⟩
              refine ⟨_, rfl, D, zs, rfl, .inl (SqL.of hD4), (by show 2 ≤ sizeLine; decide), fun g hg => ?_⟩
              rw [hzl]
              exact q1 i hb hno _ g (((s2.trans s3).trans s4).trans (same_upd hg)) upd_same
            · have hc2 : inV (.str w) (((((Txt.split y ", ").take i).map ptn).map (·.2)).map V.str) = false := hc
              rw [inV_str] at hc2
              have hn : ¬ w ∈ (((Txt.split y ", ").take i).map ptn).map (·.2) := fun z => by rw [decide_eq_true z] at hc2; cases hc2
              refine ⟨_, rfl, .inl ⟨rfl, _, SqL.of hD4⟩, _, rfl, D, _, _, rfl, rfl, hD4, small1000 (by omega), ?_⟩
              have s24 := (s2.trans s3).trans s4
              refine ⟨_, _, _, rfl, same_app s24 hD, ?_, upd_same, ?_, fun j hj => ?_⟩
              · rw [upd_ne nDl.symm]
                exact s4 _ _ (s3 _ _ hl2)
              · rw [← take_snoc hz, List.map_append]
                have ntD : t ≠ D := fun z => by rw [z, hD2] at nt; cases nt
                refine (Al.mono (fun _ _ h => (h.same s4).lst Kp.upd hD4) hzs3).snoc ⟨t, rfl, SqT.of ?_⟩
                rw [upd_ne ntD, s4 _ _ ht, epz]
              · by_cases ej : j = i
                · subst ej
                  rintro ⟨p', hp', h⟩
                  rw [hpi] at hp'
                  cases hp'
                  rw [epz, htk] at h
                  rcases h with h | h | h
                  · exact h hs
                  · exact h hw
                  · exact hn h
                · exact hno j (by omega)
        · have hD3 := s3 _ _ hD2
          refine ⟨_, rfl, rfl, _, rfl, iteDT rfl ?_⟩
          have hb : badP (psOf y) i := ⟨_, hpi, by
            by_cases h2 : (ptn z).2 ∈ wordsL
            · by_cases h1 : (ptn z).1 ∈ sidesL
              · exact absurd (ptn_ok h2) (hnt _ h1 _ h2)
              · exact .inl h1
            · exact .inr (.inl h2)⟩
          refine ⟨_, rfl, D, zs, rfl, .inl (SqL.of hD3), (by show 2 ≤ sizeLine; decide), fun g hg => ?_⟩
          rw [hzl]
          exact q1 i hb hno _ g ((s2.trans s3).trans (same_upd hg)) upd_same
      · rintro σ H' ⟨v2, v3, zs, rfl, s2, hl2, hD2, hzs, hno⟩
        rw [List.length_map] at hno hzs
        rw [List.take_length, ← e2] at hzs
        have ok : OkP (psOf y) := fun j hj => by
          by_cases h : j < (Txt.split y ", ").length
          · exact hno j h hj
          · obtain ⟨n, hn, _⟩ := hj
            have := (List.getElem?_eq_some_iff.mp hn).1
            rw [e2, List.length_map] at this
            omega
        refine ⟨_, rfl, (by show 2 ≤ sizeLine; decide), fun g hg => ?_⟩
        have sg := same_upd (o := .lst [.ref D, .non]) hg
        exact q2 ok _ g D zs (s2.trans sg) upd_same (sg _ _ hD2) (Al.mono (fun _ _ h => PairV.same h sg) hzs)
theorem ok_Lreads {f : Addr} {fd : FuncData} (F : Fun K "_law_reads" "_law_reads" s_Lreads f fd) (T : Txt P w K mg C_BadRule C_CableError C_Rule A_WORDS A_OTHER_SIDE) (c_Rule_parse : ClM (L2.CX P w) P w K mg base 3 C_Rule "parse" (sp_parseP K C_Rule C_BadRule)) (c_Lsame : Cal CX0 P w K mg base 5 "_law_same" (sp_Lsame K 4)) (c_Rule_iter : Met CX0 P w K mg base 1 C_Rule "__iter__" (sp_P_iter K C_Rule)) (c_Rule_len : Met CX0 P w K mg base 1 C_Rule "__len__" (sp_P_len K C_Rule)) (c_Rule_str : Met CX0 P w K mg base 1 C_Rule "__str__" (sp_strP K C_Rule)) :
    FnOk P w K mg base CX0 9 f fd ["_law_text", "_law_due"] (sp_Lreads K) := by
  refine F.ok sc_Lreads (fun vs H Q E h => ?_) (fun cdv A outer s H vs Q E hr h => ?_)
  · obtain ⟨y, d, rfl, _⟩ := h
    rfl
  · obtain ⟨y, d, rfl, hl, hd, q⟩ := h
    refine ⟨_, (pss_cons (ps_set (i := 2) sc_Lreads.nd rfl (Or.inl rfl) pe_non)
      (pss_cons (ps_set (i := 3) sc_Lreads.nd rfl (Or.inl rfl) pe_non)
      (pss_cons (ps_try_as (i := 4) (Wout := fun _ _ _ _ => False) rfl rfl sc_Lreads.nd rfl rfl ⟨rfl, by decide, .inl T.g_BadRule⟩ takes0 (fun W pn xe tk _ => (pss_one (ps_set (i := 2) sc_Lreads.nd rfl (Or.inl rfl) (pc_cmS c_Rule_parse hr (by decide) (fun σ => passAt tk σ) (pe_glob (v := .ref C_Rule) rfl T.g_Rule rfl) (pa_cons (pv 0) pa_nil)))))
        (fun a oe cls d pn hz hf => (pss_one (ps_set (i := 3) sc_Lreads.nd rfl (Or.inl rfl) (pe_lst (pa_cons (pe_placeE T.err_BadRule hz hf (pv 4)) (pa_cons (pe_and (pe_callB (call_isErr T.e_BadRule hz hf) (by rfl) T.n_isinstance (by decide +kernel) (pa_cons (pv 4) (pa_cons (pe_glob (v := .ref C_CableError) rfl T.g_CableError rfl) pa_nil))) (pe_one (pe_callB (call_isErr T.e_BadRule hz hf) (by rfl) T.n_isinstance (by decide +kernel) (pa_cons (pv 4) (pa_cons (pe_bltn (v := .ty "ValueError") (by rfl) T.n_ValueError (by decide +kernel) rfl) pa_nil))))) pa_nil)))))))
      (pss_cons (ps_if (pt_cmpR op_isN (pe_ix ix_list (pv 1) pe_int (fun _ _ => rfl)) pe_non (nomark _)) (pss_one (ps_ret (pe_and (pe_cmpR op_isN (pv 2) pe_non (nomark _)) (pe_one (pc_c c_Lsame hr (by decide) rfl pass0 (pa_cons (pv 3) (pa_cons (pe_lst (pa_cons (pe_ix ix_list (pv 1) pe_int (fun _ _ => rfl)) (pa_cons pe_bl pa_nil))) pa_nil))))))) pss_nil)
      (pss_cons (ps_if (PW.pt (pw_or (pt_cmpR op_notN (pv 3) pe_non (nomark _)) (pw_or1 (pt_not (pt_val (pe_callB (C8.call_isC T.i_Rule) (by rfl) T.n_isinstance (by decide +kernel) (pa_cons (pv 2) (pa_cons (pe_glob (v := .ref C_Rule) rfl T.g_Rule rfl) pa_nil)))))))) (pss_one (ps_ret pe_bl)) pss_nil)
      (pss_one (ps_ret (pc_c c_Lsame hr (by decide) rfl pass0 (pa_cons (pe_lst (pa_cons (pe_fld (pv 2) rfl) (pa_cons (pe_callTy (call_listO rfl c_Rule_iter c_Rule_len hr (by decide) (by decide)) (by rfl) T.n_list (by decide +kernel) (pa_cons (pv 2) pa_nil)) (pa_cons (pe_callTy (call_strO c_Rule_str hr (by decide) pass0) (by rfl) T.n_str (by decide +kernel) (pa_cons (pv 2) pa_nil)) pa_nil)))) (pa_cons (pe_lst (pa_cons (pe_callTy call_tuple_of (by rfl) T.n_tuple (by decide +kernel) (pa_cons (pe_ix ix_list (pv 1) pe_int (fun _ _ => rfl)) pa_nil)) (pa_cons (pe_ix ix_list (pv 1) pe_int (fun _ _ => rfl)) (pa_cons (pv 0) pa_nil)))) pa_nil)))))))))), ?_⟩
    refine ⟨rfl, _, rfl, y, rfl, hl, ?_⟩
    rcases hd with ⟨i, hi, hj, hd⟩ | ⟨ok, tl, xs, hd, htl, hxs⟩
    · refine .inl ⟨i, hi, hj, fun H' d1 s1 hd1 => ⟨true, exm_self T.b_BadRule T.ic_BadRule T.t_BadRule T.s_BadRule, fun _ a0 ha0 => ?_, fun z => absurd z (by decide)⟩⟩
      refine ⟨_, rfl, rfl, rfl, d1, _, rfl, upd_same, ?_⟩
      refine ⟨_, rfl, rfl, ⟨d1, _, rfl, upd_same⟩, _, _, true, rfl, fun u ru => ru, T.kt_cable, true, rfl, iteT ?_⟩
      refine ⟨_, rfl, rfl, ⟨d1, _, rfl, upd_same⟩, _, _, true, rfl, fun u ru => ru, T.kt_value, ?_⟩
      refine ⟨(by show 2 ≤ sizeLine; decide), fun pl hpl => ?_⟩
      have s2 := (s1.trans (same_upd hd1)).trans (same_upd (o := .lst [.int (i : Nat), .bl true]) hpl)
      refine ⟨_, rfl, d, _, _, _, rfl, rfl, Same.seq s2 hd, rfl, rfl, _, rfl, iteDT rfl ?_⟩
      refine ⟨_, rfl, rfl, _, rfl, iteDT rfl ?_⟩
      refine ⟨_, rfl, _, rfl, d, _, _, _, rfl, rfl, Same.seq s2 hd, rfl, (by show 2 ≤ sizeLine; decide), fun z hz => ?_⟩
      have s3 := same_upd (o := .lst [.int (i : Nat), .bl true]) hz
      exact ⟨_, _, rfl, two_same (s3 _ _ upd_same) upd_same rfl rfl, q _ (s2.trans s3)⟩
    · refine .inr ⟨ok, fun H1 r s1 hr0 => ?_⟩
      have l7 := okP_len ok
      obtain ⟨dx, tp, zs, ex, htp, hzs⟩ := id hr0
      refine ⟨_, rfl, d, _, _, _, rfl, rfl, Same.seq s1 hd, rfl, rfl, _, rfl, iteDF (by intro z; cases z) ?_⟩
      refine ⟨_, rfl, rfl, _, rfl, iteNe rfl ?_⟩
      refine ⟨_, rfl, r, dx, _, rfl, ex, true, rfl, iteF ?_⟩
      refine ⟨_, rfl, r, C_Rule, dx, _, _, rfl, ex, T.cl_Rule, T.nf_Rule_terms, rlf_terms _, _, rfl, r, dx, _, rfl, ex, fun u hu => ?_⟩
      have s4 := same_upd (o := .lst []) hu
      refine ⟨r, tp, dx, zs, rfl, s4 _ _ ex, s4 _ _ htp, fun it hit => ?_⟩
      have s5 := same_upd (o := itO it tp 0) hit
      have nui : u ≠ it := fun w => by rw [← w, upd_same] at hit; cases hit
      have s45 := s4.trans s5
      refine ⟨it, tp, zs, dx, _, rfl, upd_same, s45 _ _ ex, nui, r, _, rfl, hr0.same s45, (psOf y).length, rfl, by omega, (psOf y).length, rfl, by omega, SqT.of (s45 _ _ htp), upd_same, (by rw [upd_ne nui, upd_same]), fun G1 he6 hu6 => ?_⟩
      have t1 : Same H1 G1 := fun b o e => by
        have nb : b ≠ u := ne_of_none e hu
        have nb2 : b ≠ it := ne_of_none (s4 _ _ e) hit
        rw [he6 b nb2 nb]
        exact s45 _ _ e
      refine ⟨_, rfl, r, dx, _, rfl, t1 _ _ ex, r, _, rfl, hr0.same t1, ok, fun G2 sG => ?_⟩
      rw [txtP_psOf ok]
      refine ⟨_, rfl, (by show 3 ≤ sizeLine; decide), fun a1 ha1 => ?_⟩
      have u2 := same_upd (o := .lst [.ref tp, .ref u, .str y]) ha1
      have t2 := (t1.trans sG).trans u2
      have t2' := s1.trans t2
      refine ⟨_, rfl, d, _, _, _, rfl, rfl, Same.seq t2' hd, rfl, tl, xs, rfl, .inl ⟨Same.seq t2' htl, fun tt htt => ?_⟩⟩
      have u3 := same_upd (o := .tup xs) htt
      have t3 := t2.trans u3
      refine ⟨_, rfl, d, _, _, _, rfl, rfl, Same.seq (s1.trans t3) hd, rfl, _, rfl, (by show 3 ≤ sizeLine; decide), fun a2 ha2 => ?_⟩
      have u4 := same_upd (o := .lst [.ref tt, .ref tl, .str y]) ha2
      have t4 := t3.trans u4
      have zs4 := Al.mono (fun _ _ h => PairV.same h t4) hzs
      have xs4 := Al.mono (fun _ _ h => PairV.same h (s1.trans t4)) hxs
      exact ⟨_, _, rfl, .inr (.inl ⟨a1, a2, _, _, rfl, rfl, SqL.of (u4 _ _ (u3 _ _ upd_same)), SqL.of upd_same, (by show 3 ≤ sizeLine; decide), pairs3
        (pairs_sameT (SqT.of (t4 _ _ htp)) (SqT.of (u4 _ _ upd_same)) zs4 xs4 (by omega)) (pairs_sameL (SqL.of (u4 _ _ (u3 _ _ (u2 _ _ (sG _ _ hu6))))) (Same.seq (s1.trans t4) htl) zs4 xs4 (by omega)) (SameV.flat rfl)⟩), q _ (s1.trans t4)⟩
theorem ok_law {f : Addr} {fd : FuncData} (F : Fun K "law" "law" s_law f fd) (T : Txt P w K mg C_BadRule C_CableError C_Rule A_WORDS A_OTHER_SIDE) (c_Lterms : Cal CX0 P w K mg base 2 "_law_terms" (sp_Lterms K)) (c_Lpool : Cal CX0 P w K mg base 1 "_law_pool" sp_Lpool) (c_Lcell : Cal CX0 P w K mg base 1 "_law_cell" (sp_Lcell K)) (c_Lterms_text : Cal CX0 P w K mg base 1 "_law_terms_text" (sp_LtextP K)) (c_Lsame : Cal CX0 P w K mg base 5 "_law_same" (sp_Lsame K 4)) (c_Rule_str : Met CX0 P w K mg base 1 C_Rule "__str__" (sp_strP K C_Rule)) (c_Rule : Mak (L2.CX P w) P w K mg base 1 "Rule" C_Rule (sp_Rule_initP K C_Rule C_BadRule)) (c_Lreads : Cal CX0 P w K mg base 9 "_law_reads" (sp_Lreads K)) (c_Lbent : Cal CX0 P w K mg base 2 "_law_bent" sp_LbentN) (c_Lsigns : Cal CX0 P w K mg base 1 "_law_signs" sp_Lsigns) (c_Lrow_of_parts : Cal CX0 P w K mg base 3 "_law_row_of_parts" sp_Lrow) (c_Lany : Cal CX0 P w K mg base 2 "_law_any" sp_Lany) (c_Lshort_text : Cal CX0 P w K mg base 2 "_law_short_text" sp_Lrow) (c_Lreading : Cal CX0 P w K mg base 2 "_law_reading" (sp_Lreading K)) :
    FnOk P w K mg base CX0 12 f fd ["_law_script"] (sp_law K) := by
  refine F.ok sc_law (fun vs H Q E h => ?_) (fun cdv A outer s H vs Q E hr h => ?_)
  · obtain ⟨a, ns, rfl, _⟩ := h
    rfl
  · obtain ⟨a, ns, rfl, hS, hlen, q⟩ := h
    refine ⟨_, (pss_cons (ps_set (i := 1) sc_law.nd rfl (Or.inl rfl) (pc_c c_Lterms hr (by decide) rfl pass0 (pa_cons (pc_c c_Lpool hr (by decide) rfl pass0 (pa_cons (pc_c c_Lcell hr (by decide) rfl pass0 (pa_cons (pv 0) (pa_cons pe_int pa_nil))) pa_nil)) (pa_cons pe_int pa_nil))))
      (pss_cons (ps_set (i := 2) sc_law.nd rfl (Or.inl rfl) (pc_c c_Lpool hr (by decide) rfl pass0 (pa_cons (pc_c c_Lcell hr (by decide) rfl pass0 (pa_cons (pv 0) (pa_cons pe_int pa_nil))) pa_nil)))
      (pss_cons (ps_set (i := 3) sc_law.nd rfl (Or.inl rfl) (pe_op op_mod (pe_callTy call_int1 (by rfl) T.n_int (by decide +kernel) (pa_cons (pc_c c_Lcell hr (by decide) rfl pass0 (pa_cons (pv 0) (pa_cons pe_int pa_nil))) pa_nil)) pe_int))
      (pss_cons (ps_set (i := 4) sc_law.nd rfl (Or.inl rfl) (pc_c c_Lterms_text hr (by decide) rfl pass0 (pa_cons (pv 1) pa_nil)))
      (pss_cons (ps_if (PW.pt (pw_or (pt_not (pt_val (pc_c c_Lsame hr (by decide) rfl pass0 (pa_cons (pe_callTy (call_strO c_Rule_str hr (by decide) pass0) (by rfl) T.n_str (by decide +kernel) (pa_cons (pc_mk c_Rule hr (by decide) rfl passL (pa_cons (pe_callTy call_list_of (by rfl) T.n_list (by decide +kernel) (pa_cons (pv 1) pa_nil)) pa_nil)) pa_nil)) (pa_cons (pv 4) pa_nil))))) (pw_or1 (pt_not (pt_val (pc_c c_Lreads hr (by decide) rfl pass0 (pa_cons (pv 4) (pa_cons (pe_lst (pa_cons (pv 1) (pa_cons pe_non pa_nil))) pa_nil)))))))) (pss_one (ps_ret pe_bl)) pss_nil)
      (C8.pss_cut (ps_if (pt_cmpR op_eq (pv 3) pe_int (nomark _)) (pss_one (ps_set (i := 4) sc_law.nd rfl (Or.inl rfl) (pc_c c_Lbent hr (by decide) rfl pass0 (pa_cons (pv 2) (pa_cons (pv 4) (pa_cons pe_str pa_nil)))))) (pss_one (ps_if (pt_cmpR op_eq (pv 3) pe_int (nomark _)) (pss_one (ps_set (i := 4) sc_law.nd rfl (Or.inl rfl) (pc_c c_Lbent hr (by decide) rfl pass0 (pa_cons (pv 2) (pa_cons (pv 4) (pa_cons (pc_c0 c_Lsigns hr (by decide) rfl pass0) pa_nil)))))) (pss_one (ps_if (pt_cmpR op_eq (pv 3) pe_int (nomark _)) (pss_one (ps_set (i := 4) sc_law.nd rfl (Or.inl rfl) (pc_c c_Lrow_of_parts hr (by decide) rfl pass0 (pa_cons (pv 2) pa_nil)))) (pss_one (ps_if (pt_cmpR op_eq (pv 3) pe_int (nomark _)) (pss_one (ps_set (i := 4) sc_law.nd rfl (Or.inl rfl) (pc_c c_Lany hr (by decide) rfl pass0 (pa_cons (pv 2) (pa_cons pe_str pa_nil))))) (pss_one (ps_if (pt_cmpR op_eq (pv 3) pe_int (nomark _)) (pss_one (ps_set (i := 4) sc_law.nd rfl (Or.inl rfl) (pc_c c_Lany hr (by decide) rfl pass0 (pa_cons (pv 2) (pa_cons (pc_c0 c_Lsigns hr (by decide) rfl pass0) pa_nil))))) (pss_one (ps_if (pt_cmpR op_eq (pv 3) pe_int (nomark _)) (pss_one (ps_set (i := 4) sc_law.nd rfl (Or.inl rfl) (pc_c c_Lshort_text hr (by decide) rfl pass0 (pa_cons (pv 2) pa_nil)))) (pss_one (ps_if (pt_cmpR op_eq (pv 3) pe_int (nomark _)) (pss_one (ps_set (i := 4) sc_law.nd rfl (Or.inl rfl) (pe_op op_add_str (pe_op op_add_str (pv 4) pe_str) (pv 4)))) pss_nil)))))))))))))
      (pss_one (ps_ret (pc_c c_Lreads hr (by decide) rfl pass0 (pa_cons (pv 4) (pa_cons (pc_c c_Lreading hr (by decide) rfl pass0 (pa_cons (pv 4) pa_nil)) pa_nil))))))))))), ?_⟩
    refine ⟨_, rfl, a, ns, 0, rfl, hS, fun c0 _ => ⟨c0, rfl, fun z0 Ha m0 u0 P0 => ⟨z0, 7, rfl, by decide, P0, fun Hb l xs ts k0 _ n0 hl hts okt len0 => ?_⟩⟩⟩
    have S0 : Same H Hb := Kp.same u0 k0 m0
    refine ⟨_, rfl, a, ns, 1, rfl, S0.seq hS, fun c1 _ => ⟨c1, rfl, fun p Hc np sp hp => ?_⟩⟩
    refine ⟨_, rfl, a, ns, 2, rfl, (S0.trans sp).seq hS, fun c2 _ => .inl ⟨_, rfl, _, _, rfl, rfl, (by show (0 : Int) < 8; decide), ?_⟩⟩
    have okp := okt_okP okt
    have hps := terms_pairs hts
    have tl := txtP_len okp
    have l7 := okP_len okp
    generalize ts.map prT = ps at okp hps tl l7
    refine ⟨_, rfl, l, xs, ps, rfl, SqL.of (sp _ _ hl), Al.mono (fun _ _ h => PairV.same h sp) hps, okp, fun Hd s1 => ?_⟩
    have s2 := sp.trans s1
    refine ⟨_, rfl, l, xs, rfl, .inl (SqL.of (s2 _ _ hl)), fun y0 hy0 => ?_⟩
    have sy := same_upd (o := .lst xs) hy0
    intro r dr nr nd ne
    have f1 : Same (upd Hd y0 (.lst xs)) (upd (upd (upd Hd y0 (.lst xs)) dr (.own r)) r (.ins C_Rule dr [])) := mk_same nr nd Kp.refl
    refine ⟨r, dr, y0, false, xs, ps, rfl, upd_same, SqL.of (f1 _ _ upd_same), Al.mono (fun _ _ h => PairV.same h ((s2.trans sy).trans f1)) hps, by omega, .inr ⟨okp, fun J kJ hr => ⟨rfl, ?_⟩⟩⟩
    have g1 : Same Hd J := sy.trans (mk_same nr nd kJ)
    obtain ⟨dx, tp, zs, ex, htp, hzs⟩ := id hr
    refine ⟨r, dx, _, rfl, ex, r, ps, rfl, hr, okp, fun K1 s3 => ⟨_, rfl, _, rfl, _, _, rfl, SameV.flat rfl, true, rfl, iteF ?_⟩⟩
    have g2 := (s2.trans g1).trans s3
    refine ⟨_, rfl, _, rfl, (by show 2 ≤ sizeLine; decide), fun d hd => ?_⟩
    have ud := same_upd (o := .lst [.ref l, .non]) hd
    have hq := psOf_txtP okp
    refine ⟨_, d, rfl, by omega, .inr ⟨by rw [hq]; exact okp, l, xs, SqL.of upd_same, SqL.of (ud _ _ (g2 _ _ hl)), by rw [hq]; exact Al.mono (fun _ _ h => PairV.same h (g2.trans ud)) hps⟩, fun K2 s4 => ⟨true, rfl, iteF ?_⟩⟩
    have hp2 : PoolAt K2 p := hp.same (s1.trans (g1.trans (s3.trans (ud.trans s4))))
    refine ⟨fun σ' H' => ∃ z : Str, z.length ≤ 800 ∧ σ' = [some (.ref a), some (.ref l), some (.ref p), some (.int (c2 % 8)), some (.str z)], ?_, ?_⟩
    · refine ⟨_, rfl, rfl, _, rfl, ite2 (fun _ => ?_) (fun _ => ⟨_, rfl, rfl, _, rfl, ite2 (fun _ => ?_) (fun _ => ⟨_, rfl, rfl, _, rfl, ite2 (fun _ => ?_) (fun _ => ⟨_, rfl, rfl, _, rfl, ite2 (fun _ => ?_) (fun _ => ⟨_, rfl, rfl, _, rfl, ite2 (fun _ => ?_) (fun _ => ⟨_, rfl, rfl, _, rfl, ite2 (fun _ => ?_) (fun _ => ⟨_, rfl, rfl, _, rfl, ite2 (fun _ => ?_) (fun _ => ?_)⟩)⟩)⟩)⟩)⟩)⟩)⟩
      · exact ⟨_, rfl, _, rfl, p, _, _, rfl, hp2, by decide +kernel, by decide +kernel, by omega, fun H' z k p' hz => ⟨z, by omega, rfl⟩⟩
      · exact ⟨_, rfl, _, rfl, rfl, p, _, _, rfl, hp2, by rw [sgns_len]; decide, by rw [sgns_len]; decide, by omega, fun H' z k p' hz => ⟨z, by omega, rfl⟩⟩
      · exact ⟨_, rfl, p, rfl, hp2, fun H' z k hz => ⟨z, by omega, rfl⟩⟩
      · exact ⟨_, rfl, p, _, rfl, hp2, by decide +kernel, by decide +kernel, fun H' z k hz => ⟨z, by omega, rfl⟩⟩
      · exact ⟨_, rfl, rfl, p, _, rfl, hp2, by rw [sgns_len]; decide, by rw [sgns_len]; decide, fun H' z k hz => ⟨z, by omega, rfl⟩⟩
      · exact ⟨_, rfl, p, rfl, hp2, fun H' z k hz => ⟨z, by omega, rfl⟩⟩
      · have e3 : (", " : Str).length = 2 := by decide +kernel
        exact ⟨_, rfl, _, _, rfl, rfl, small_line (by omega), _, rfl, _, _, rfl, rfl, small_line (by rw [app_len]; omega), _, (by rw [app_len, app_len]; omega), rfl⟩
      · exact ⟨_, by omega, rfl⟩
    rintro σ' H' ⟨z, hz, rfl⟩
    refine ⟨_, rfl, _, rfl, z, rfl, hz, fun i hi hj H' g s hg => ?_, fun ok H' g tl xs s hg htl hxs => ?_⟩
    · exact ⟨z, g, rfl, hz, .inl ⟨i, hi, hj, SqL.of hg⟩, fun G _ => q _⟩
    · exact ⟨z, g, rfl, hz, .inr ⟨ok, tl, xs, SqL.of hg, SqL.of htl, hxs⟩, fun G _ => q _⟩
end
theorem all_mk {l : PySem.W.OpenLaw} {w : World} {K : PySem.W.Frag} {h : Heap} {mg : Str → Option Value} {fa C_BadRule C_CableError C_Rule A_WORDS A_OTHER_SIDE : Addr} {nmBadRule qqBadRule msBadRule flBadRule : Str} {NBadRule fIBadRule caBadRule ccBadRule : Addr} {bsBadRule bmBadRule sbBadRule : List Value} {snBadRule : List Str} {abBadRule : Bool} {coBadRule : Option Bool} {daBadRule odBadRule anBadRule cdBadRule clBadRule : Option Addr} {k0BadRule k1BadRule k2BadRule k3BadRule k5BadRule : Option Value} {ocBadRule doBadRule pmBadRule ctBadRule cvBadRule ceBadRule : Value} {osBadRule csBadRule cxBadRule : Array (Option Value)} {vsBadRule : Array Value} {tfBadRule : Tok} {p1BadRule p2BadRule a1BadRule a2BadRule a3BadRule a4BadRule a5BadRule a6BadRule a7BadRule a8BadRule a9BadRule b1BadRule b2BadRule b3BadRule b4BadRule : Pos} {uWORDS0 uWORDS1 uWORDS2 uWORDS3 uWORDS4 uWORDS5 uWORDS6 : Tok} {nWORDS : Nat} {ddWORDS : Option Addr} {slWORDS : Array (Option Value)} {ukOTHER_SIDE0 uvOTHER_SIDE0 ukOTHER_SIDE1 uvOTHER_SIDE1 : Tok} {nOTHER_SIDE : Nat} {uwOTHER_SIDEleast : Tok} {uwOTHER_SIDEmost : Tok} {f_uterm_of : Addr} {od_uterm_of an_uterm_of : Option Addr} {sl_uterm_of : Array (Option Value)} {oc_uterm_of kV_uterm_of dc_uterm_of pm_uterm_of cd_uterm_of ct_uterm_of : Value} {f_Rule_init : Addr} {od_Rule_init an_Rule_init : Option Addr} {sl_Rule_init : Array (Option Value)} {oc_Rule_init kV_Rule_init dc_Rule_init pm_Rule_init cd_Rule_init ct_Rule_init : Value} {f_Rule_parse : Addr} {od_Rule_parse an_Rule_parse : Option Addr} {sl_Rule_parse : Array (Option Value)} {oc_Rule_parse kV_Rule_parse dc_Rule_parse pm_Rule_parse cd_Rule_parse ct_Rule_parse : Value} {p_Rule_parse : Addr} {rp_Rule_parse : List Value} {f_Rule_str : Addr} {od_Rule_str an_Rule_str : Option Addr} {sl_Rule_str : Array (Option Value)} {oc_Rule_str kV_Rule_str dc_Rule_str pm_Rule_str cd_Rule_str ct_Rule_str : Value} {f_Rule_len : Addr} {od_Rule_len an_Rule_len : Option Addr} {sl_Rule_len : Array (Option Value)} {oc_Rule_len kV_Rule_len dc_Rule_len pm_Rule_len cd_Rule_len ct_Rule_len : Value} {f_Rule_iter : Addr} {od_Rule_iter an_Rule_iter : Option Addr} {sl_Rule_iter : Array (Option Value)} {oc_Rule_iter kV_Rule_iter dc_Rule_iter pm_Rule_iter cd_Rule_iter ct_Rule_iter : Value} {f_Lcell : Addr} {od_Lcell an_Lcell : Option Addr} {sl_Lcell : Array (Option Value)} {oc_Lcell kV_Lcell dc_Lcell pm_Lcell cd_Lcell ct_Lcell : Value} {f_Lpool : Addr} {od_Lpool an_Lpool : Option Addr} {sl_Lpool : Array (Option Value)} {oc_Lpool kV_Lpool dc_Lpool pm_Lpool cd_Lpool ct_Lpool : Value} {f_Ltake : Addr} {od_Ltake an_Ltake : Option Addr} {sl_Ltake : Array (Option Value)} {oc_Ltake kV_Ltake dc_Ltake pm_Ltake cd_Ltake ct_Ltake : Value} {f_Lsame : Addr} {od_Lsame an_Lsame : Option Addr} {sl_Lsame : Array (Option Value)} {oc_Lsame kV_Lsame dc_Lsame pm_Lsame cd_Lsame ct_Lsame : Value} {f_Lterms : Addr} {od_Lterms an_Lterms : Option Addr} {sl_Lterms : Array (Option Value)} {oc_Lterms kV_Lterms dc_Lterms pm_Lterms cd_Lterms ct_Lterms : Value} {f_Lterms_text : Addr} {od_Lterms_text an_Lterms_text : Option Addr} {sl_Lterms_text : Array (Option Value)} {oc_Lterms_text kV_Lterms_text dc_Lterms_text pm_Lterms_text cd_Lterms_text ct_Lterms_text : Value} {f_Lsigns : Addr} {od_Lsigns an_Lsigns : Option Addr} {sl_Lsigns : Array (Option Value)} {oc_Lsigns kV_Lsigns dc_Lsigns pm_Lsigns cd_Lsigns ct_Lsigns : Value} {f_Lbent : Addr} {od_Lbent an_Lbent : Option Addr} {sl_Lbent : Array (Option Value)} {oc_Lbent kV_Lbent dc_Lbent pm_Lbent cd_Lbent ct_Lbent : Value} {f_Lany : Addr} {od_Lany an_Lany : Option Addr} {sl_Lany : Array (Option Value)} {oc_Lany kV_Lany dc_Lany pm_Lany cd_Lany ct_Lany : Value} {f_Lterm_text : Addr} {od_Lterm_text an_Lterm_text : Option Addr} {sl_Lterm_text : Array (Option Value)} {oc_Lterm_text kV_Lterm_text dc_Lterm_text pm_Lterm_text cd_Lterm_text ct_Lterm_text : Value} {f_Lrow_of_parts : Addr} {od_Lrow_of_parts an_Lrow_of_parts : Option Addr} {sl_Lrow_of_parts : Array (Option Value)} {oc_Lrow_of_parts kV_Lrow_of_parts dc_Lrow_of_parts pm_Lrow_of_parts cd_Lrow_of_parts ct_Lrow_of_parts : Value} {f_Lshort_text : Addr} {od_Lshort_text an_Lshort_text : Option Addr} {sl_Lshort_text : Array (Option Value)} {oc_Lshort_text kV_Lshort_text dc_Lshort_text pm_Lshort_text cd_Lshort_text ct_Lshort_text : Value} {f_Lcut : Addr} {od_Lcut an_Lcut : Option Addr} {sl_Lcut : Array (Option Value)} {oc_Lcut kV_Lcut dc_Lcut pm_Lcut cd_Lcut ct_Lcut : Value} {f_Lterm : Addr} {od_Lterm an_Lterm : Option Addr} {sl_Lterm : Array (Option Value)} {oc_Lterm kV_Lterm dc_Lterm pm_Lterm cd_Lterm ct_Lterm : Value} {f_Lreading : Addr} {od_Lreading an_Lreading : Option Addr} {sl_Lreading : Array (Option Value)} {oc_Lreading kV_Lreading dc_Lreading pm_Lreading cd_Lreading ct_Lreading : Value} {f_Lreads : Addr} {od_Lreads an_Lreads : Option Addr} {sl_Lreads : Array (Option Value)} {oc_Lreads kV_Lreads dc_Lreads pm_Lreads cd_Lreads ct_Lreads : Value} {f_law : Addr} {od_law an_law : Option Addr} {sl_law : Array (Option Value)} {oc_law kV_law dc_law pm_law cd_law ct_law : Value}
    (X : K.In h) (G : h.Ns mainGlobals mg) (hfa : mg "law" = some (.ref fa))
    (g_BadRule : PySem.W.nsIn K mainGlobals "BadRule" = some (some (.ref C_BadRule)))
    (xl_BadRule : K.lookup C_BadRule = some (excClassObj nmBadRule qqBadRule C_BadRule NBadRule bsBadRule bmBadRule true snBadRule sbBadRule abBadRule coBadRule daBadRule k0BadRule k1BadRule k2BadRule k3BadRule k5BadRule "ValueError.__new__"))
    (rf_BadRule : PySem.HandSPX.refsVE bmBadRule = true)
    (su_BadRule : PySem.W.ks_superIn K C_BadRule C_BadRule "__init__" = some (some (.builtin "ValueError.__init__")))
    (xa_BadRule : PySem.W.findIn K (.ref C_BadRule) "__setattr__" = some (some (.builtin "object.__setattr__")))
    (xg_BadRule : PySem.W.findIn K (.ref C_BadRule) "__getattribute__" = some (some (.builtin "BaseException.__getattribute__")))
    (xh_BadRule : PySem.W.findIn K (.ref C_BadRule) "__getattr__" = some none)
    (xp_BadRule : PySem.W.findIn K (.ref C_BadRule) "place" = some none)
    (xi_BadRule : PySem.W.findIn K (.ref C_BadRule) "__init__" = some (some (.ref fIBadRule)))
    (xf_BadRule : PySem.W.typeIn K (.ref fIBadRule) = some (.type "function"))
    (xk_BadRule : PySem.W.keepIn K (.ref C_BadRule) = true)
    (xb_BadRule : PySem.W.subIn K (.ref C_BadRule) (.type "BaseException") = some true)
    (xv_BadRule : PySem.W.subIn K (.ref C_BadRule) (.type "ValueError") = some true)
    (xm_BadRule : PySem.W.mroIn K C_BadRule (.ref C_BadRule) = some true)
    (xt_BadRule : PySem.W.typeIn K (.ref C_BadRule) = some (.type "type"))
    (xd_BadRule : PySem.W.hasDictIn K C_BadRule = true)
    (xo_BadRule : PySem.W.nsIn K PySem.cStatics "thirdparty.any" = some none)
    (xs_BadRule : PySem.W.nsIn K mainGlobals "super" = some none)
    (hx_BadRule : (l.prog.main.scope.names.lookup ("super" : Str)).isSome = false)
    (lf_BadRule : K.lookup fIBadRule = some ⟨ocBadRule, odBadRule, .func (PySem.W.ksFn "__init__" "BadRule.__init__" (PySem.ErrX.eA p1BadRule p2BadRule) (PySem.ErrX.eB msBadRule a1BadRule a2BadRule a3BadRule a4BadRule a5BadRule a6BadRule a7BadRule a8BadRule a9BadRule b1BadRule b2BadRule b3BadRule b4BadRule) PySem.ErrX.eS .none .none doBadRule pmBadRule anBadRule (.ref caBadRule) ctBadRule ccBadRule), osBadRule⟩)
    (lc_BadRule : PySem.W.codeIn K (.ref caBadRule) "BadRule.__init__" = true)
    (hl_BadRule : msBadRule.length ≤ 1000)
    (lo_BadRule : K.lookup caBadRule = some ⟨cvBadRule, cdBadRule, .fields vsBadRule, csBadRule⟩)
    (hv_BadRule : vsBadRule[2]? = some (.str flBadRule tfBadRule))
    (hf_BadRule : ((l.prog.main.file : Str) == flBadRule) = true)
    (le_BadRule : K.lookup ccBadRule = some ⟨ceBadRule, clBadRule, .cell (some (.ref C_BadRule)), cxBadRule⟩)
    (he_BadRule : ∃ pl : Env → Sem Bool, ∀ env : Env, eval (PySem.ErrX.eC msBadRule a1BadRule a2BadRule a3BadRule a4BadRule a5BadRule a6BadRule a7BadRule a8BadRule) env = (do let ov ← attributeBase (.Call (.Name "super" a1BadRule) [] [] a2BadRule) "__init__" env (eval (.Call (.Name "super" a1BadRule) [] [] a2BadRule) env); standAt a3BadRule.atName; let (f, first) ← holding [ov] (getMethod ov "__init__" (pl env)); callWith a8BadRule f first (backTo a8BadRule (starEach [.JoinedStr [.Constant (.str msBadRule) 0 a4BadRule, .FormattedValue (.Name "place" a5BadRule) (-1) none a6BadRule] a7BadRule] env)) []))
    (k_BadRule : PySem.W.keepIn K (.ref C_BadRule) = true)
    (b_BadRule : PySem.W.subIn K (.ref C_BadRule) (.type "BaseException") = some true)
    (t_BadRule : PySem.W.typeIn K (.ref C_BadRule) = some (.type "type"))
    (ic_BadRule : PySem.W.isClsIn K C_BadRule = true)
    (s_BadRule : PySem.W.subIn K (.ref C_BadRule) (.ref C_BadRule) = some true)
    (eg_BadRule : PySem.W.findIn K (.ref C_BadRule) "__getattribute__" = some (some (.builtin "BaseException.__getattribute__")))
    (ek_BadRule : PySem.W.findIn K (.ref C_BadRule) "__getattr__" = some none)
    (ed_BadRule : PySem.W.hasDictIn K C_BadRule = true)
    (ea_BadRule : PySem.W.findIn K (.ref C_BadRule) "__class__" = some (some (.builtin "object.__class__")))
    (en_BadRule : PySem.W.specialIn K (.builtin "object.__class__") "__get__" = some (some (.builtin "getset_descriptor.__get__")))
    (et_BadRule : PySem.W.takesIn K (.builtin "object.__class__") = some true)
    (em_BadRule : PySem.W.mroIn K C_BadRule (.type "object") = some true)
    (g_CableError : PySem.W.nsIn K mainGlobals "CableError" = some (some (.ref C_CableError)))
    (g_Rule : PySem.W.nsIn K mainGlobals "Rule" = some (some (.ref C_Rule)))
    (pg_Rule : PySem.W.plainGet K C_Rule Str.empty = true)
    (hd_Rule : PySem.W.hasDictIn K C_Rule = true)
    (po_Rule : PySem.W.plainOver K C_Rule = true)
    (sa_Rule : PySem.W.findIn K (.ref C_Rule) "__setattr__" = some (some (.builtin "object.__setattr__")))
    (nf_Rule_terms : PySem.W.findIn K (.ref C_Rule) "terms" = some none)
    (racr_Rule : PySem.W.nsIn K PySem.cStatics "thirdparty.any" = some none)
    (rbcr_Rule : PySem.W.typeIn K (.ref C_Rule) = some (.type "type"))
    (rccr_Rule : PySem.W.findIn K (.type "type") "__getattribute__" = some (some (.builtin "type.__getattribute__")))
    (rdcr_Rule : PySem.W.subIn K (.type "type") (.type "type") = some true)
    (recr_Rule : PySem.W.specialIn K (.ref C_Rule) "__getattribute__" = some (some (.builtin "type.__getattribute__")))
    (ha_Rule : PySem.W.findIn K (.ref C_Rule) "__class__" = some (some (.builtin "object.__class__")))
    (hn_Rule : PySem.W.specialIn K (.builtin "object.__class__") "__get__" = some (some (.builtin "getset_descriptor.__get__")))
    (ht_Rule : PySem.W.takesIn K (.builtin "object.__class__") = some true)
    (hm_Rule : PySem.W.mroIn K C_Rule (.type "object") = some true)
    (me_Rule : PySem.W.kitOne K (.ref C_Rule) (.ref C_Rule) = some true)
    (c_WORDS : PySem.W.nsIn K mainGlobals "WORDS" = some (some (.ref A_WORDS)))
    (l_WORDS : K.lookup A_WORDS = some ⟨.type "tuple", ddWORDS, .seq #[.str "stay" uWORDS0, .str "need" uWORDS1, .str "left" uWORDS2, .str "want" uWORDS3, .str "here" uWORDS4, .str "got" uWORDS5, .str "slack" uWORDS6] nWORDS, slWORDS⟩)
    (c_OTHER_SIDE : PySem.W.nsIn K mainGlobals "OTHER_SIDE" = some (some (.ref A_OTHER_SIDE)))
    (l_OTHER_SIDE : K.lookup A_OTHER_SIDE = some ⟨.type "dict", none, .dict #[⟨PyData.keyHash w.params "least", .str "least" ukOTHER_SIDE0, .str "most" uvOTHER_SIDE0⟩, ⟨PyData.keyHash w.params "most", .str "most" ukOTHER_SIDE1, .str "least" uvOTHER_SIDE1⟩] nOTHER_SIDE, #[]⟩)
    (low_OTHER_SIDE : (A_OTHER_SIDE == sysModules) = false)
    (v_OTHER_SIDE_least : PySem.W.nsIn K A_OTHER_SIDE "least" = some (some (.str "most" uwOTHER_SIDEleast)))
    (v_OTHER_SIDE_most : PySem.W.nsIn K A_OTHER_SIDE "most" = some (some (.str "least" uwOTHER_SIDEmost)))
    (n_enumerate : PySem.W.nsIn K mainGlobals "enumerate" = some none)
    (n_tuple : PySem.W.nsIn K mainGlobals "tuple" = some none)
    (n_len : PySem.W.nsIn K mainGlobals "len" = some none)
    (n_iter : PySem.W.nsIn K mainGlobals "iter" = some none)
    (n_int : PySem.W.nsIn K mainGlobals "int" = some none)
    (n_abs : PySem.W.nsIn K mainGlobals "abs" = some none)
    (n_isinstance : PySem.W.nsIn K mainGlobals "isinstance" = some none)
    (n_bool : PySem.W.nsIn K mainGlobals "bool" = some none)
    (n_str : PySem.W.nsIn K mainGlobals "str" = some none)
    (n_list : PySem.W.nsIn K mainGlobals "list" = some none)
    (n_range : PySem.W.nsIn K mainGlobals "range" = some none)
    (n_ValueError : PySem.W.nsIn K mainGlobals "ValueError" = some none)
    (kt_cable : PySem.W.kitOne K (.ref C_BadRule) (.ref C_CableError) = some true)
    (kt_value : PySem.W.kitOne K (.ref C_BadRule) (.type "ValueError") = some true)
    (mk_Rule : PySem.W.makesIn K C_Rule = true)
    (mkk_Rule : PySem.W.keepIn K (.ref C_Rule) = true)
    (a_uterm_of : PySem.W.nsIn K mainGlobals "_term_of" = some (some (.ref f_uterm_of)))
    (l_uterm_of : K.lookup f_uterm_of = some ⟨oc_uterm_of, od_uterm_of, .func (PySem.W.fnOf "_term_of" "_term_of" (defArgs s_uterm_of) (defBody s_uterm_of) (defScope s_uterm_of) .none kV_uterm_of dc_uterm_of pm_uterm_of an_uterm_of cd_uterm_of ct_uterm_of), sl_uterm_of⟩)
    (q_uterm_of : PySem.W.codeIn K cd_uterm_of "_term_of" = true)
    (k_uterm_of : PySem.W.keepIn K (.ref f_uterm_of) = true)
    (a_Rule_init : PySem.W.findIn K (.ref C_Rule) "__init__" = some (some (.ref f_Rule_init)))
    (j_Rule_init : PySem.W.isFn K (.ref f_Rule_init) = true)
    (l_Rule_init : K.lookup f_Rule_init = some ⟨oc_Rule_init, od_Rule_init, .func (PySem.W.fnOf "__init__" "Rule.__init__" (defArgs s_Rule_init) (defBody s_Rule_init) (defScope s_Rule_init) .none kV_Rule_init dc_Rule_init pm_Rule_init an_Rule_init cd_Rule_init ct_Rule_init), sl_Rule_init⟩)
    (q_Rule_init : PySem.W.codeIn K cd_Rule_init "Rule.__init__" = true)
    (k_Rule_init : PySem.W.keepIn K (.ref f_Rule_init) = true)
    (pt_Rule_parse : PySem.W.findIn K (.type "type") "parse" = some none)
    (pa_Rule_parse : PySem.W.findIn K (.ref C_Rule) "parse" = some (some (.ref p_Rule_parse)))
    (pty_Rule_parse : PySem.W.typeIn K (.ref p_Rule_parse) = some (.type "classmethod"))
    (pgt_Rule_parse : PySem.W.specialIn K (.ref p_Rule_parse) "__get__" = some (some (.builtin "classmethod.__get__")))
    (prc_Rule_parse : PySem.W.recIn K p_Rule_parse "classmethod" = some (.ref f_Rule_parse :: rp_Rule_parse))
    (l_Rule_parse : K.lookup f_Rule_parse = some ⟨oc_Rule_parse, od_Rule_parse, .func (PySem.W.fnOf "parse" "Rule.parse" (defArgs s_Rule_parse) (defBody s_Rule_parse) (defScope s_Rule_parse) .none kV_Rule_parse dc_Rule_parse pm_Rule_parse an_Rule_parse cd_Rule_parse ct_Rule_parse), sl_Rule_parse⟩)
    (q_Rule_parse : PySem.W.codeIn K cd_Rule_parse "Rule.parse" = true)
    (k_Rule_parse : PySem.W.keepIn K (.ref f_Rule_parse) = true)
    (a_Rule_str : PySem.W.findIn K (.ref C_Rule) "__str__" = some (some (.ref f_Rule_str)))
    (j_Rule_str : PySem.W.isFn K (.ref f_Rule_str) = true)
    (l_Rule_str : K.lookup f_Rule_str = some ⟨oc_Rule_str, od_Rule_str, .func (PySem.W.fnOf "__str__" "Rule.__str__" (defArgs s_Rule_str) (defBody s_Rule_str) (defScope s_Rule_str) .none kV_Rule_str dc_Rule_str pm_Rule_str an_Rule_str cd_Rule_str ct_Rule_str), sl_Rule_str⟩)
    (q_Rule_str : PySem.W.codeIn K cd_Rule_str "Rule.__str__" = true)
    (k_Rule_str : PySem.W.keepIn K (.ref f_Rule_str) = true)
    (a_Rule_len : PySem.W.findIn K (.ref C_Rule) "__len__" = some (some (.ref f_Rule_len)))
    (j_Rule_len : PySem.W.isFn K (.ref f_Rule_len) = true)
    (l_Rule_len : K.lookup f_Rule_len = some ⟨oc_Rule_len, od_Rule_len, .func (PySem.W.fnOf "__len__" "Rule.__len__" (defArgs s_Rule_len) (defBody s_Rule_len) (defScope s_Rule_len) .none kV_Rule_len dc_Rule_len pm_Rule_len an_Rule_len cd_Rule_len ct_Rule_len), sl_Rule_len⟩)
    (q_Rule_len : PySem.W.codeIn K cd_Rule_len "Rule.__len__" = true)
    (k_Rule_len : PySem.W.keepIn K (.ref f_Rule_len) = true)
    (a_Rule_iter : PySem.W.findIn K (.ref C_Rule) "__iter__" = some (some (.ref f_Rule_iter)))
    (j_Rule_iter : PySem.W.isFn K (.ref f_Rule_iter) = true)
    (l_Rule_iter : K.lookup f_Rule_iter = some ⟨oc_Rule_iter, od_Rule_iter, .func (PySem.W.fnOf "__iter__" "Rule.__iter__" (defArgs s_Rule_iter) (defBody s_Rule_iter) (defScope s_Rule_iter) .none kV_Rule_iter dc_Rule_iter pm_Rule_iter an_Rule_iter cd_Rule_iter ct_Rule_iter), sl_Rule_iter⟩)
    (q_Rule_iter : PySem.W.codeIn K cd_Rule_iter "Rule.__iter__" = true)
    (k_Rule_iter : PySem.W.keepIn K (.ref f_Rule_iter) = true)
    (a_Lcell : PySem.W.nsIn K mainGlobals "_law_cell" = some (some (.ref f_Lcell)))
    (l_Lcell : K.lookup f_Lcell = some ⟨oc_Lcell, od_Lcell, .func (PySem.W.fnOf "_law_cell" "_law_cell" (defArgs s_Lcell) (defBody s_Lcell) (defScope s_Lcell) .none kV_Lcell dc_Lcell pm_Lcell an_Lcell cd_Lcell ct_Lcell), sl_Lcell⟩)
    (q_Lcell : PySem.W.codeIn K cd_Lcell "_law_cell" = true)
    (k_Lcell : PySem.W.keepIn K (.ref f_Lcell) = true)
    (a_Lpool : PySem.W.nsIn K mainGlobals "_law_pool" = some (some (.ref f_Lpool)))
    (l_Lpool : K.lookup f_Lpool = some ⟨oc_Lpool, od_Lpool, .func (PySem.W.fnOf "_law_pool" "_law_pool" (defArgs s_Lpool) (defBody s_Lpool) (defScope s_Lpool) .none kV_Lpool dc_Lpool pm_Lpool an_Lpool cd_Lpool ct_Lpool), sl_Lpool⟩)
    (q_Lpool : PySem.W.codeIn K cd_Lpool "_law_pool" = true)
    (k_Lpool : PySem.W.keepIn K (.ref f_Lpool) = true)
    (a_Ltake : PySem.W.nsIn K mainGlobals "_law_take" = some (some (.ref f_Ltake)))
    (l_Ltake : K.lookup f_Ltake = some ⟨oc_Ltake, od_Ltake, .func (PySem.W.fnOf "_law_take" "_law_take" (defArgs s_Ltake) (defBody s_Ltake) (defScope s_Ltake) .none kV_Ltake dc_Ltake pm_Ltake an_Ltake cd_Ltake ct_Ltake), sl_Ltake⟩)
    (q_Ltake : PySem.W.codeIn K cd_Ltake "_law_take" = true)
    (k_Ltake : PySem.W.keepIn K (.ref f_Ltake) = true)
    (a_Lsame : PySem.W.nsIn K mainGlobals "_law_same" = some (some (.ref f_Lsame)))
    (l_Lsame : K.lookup f_Lsame = some ⟨oc_Lsame, od_Lsame, .func (PySem.W.fnOf "_law_same" "_law_same" (defArgs s_Lsame) (defBody s_Lsame) (defScope s_Lsame) .none kV_Lsame dc_Lsame pm_Lsame an_Lsame cd_Lsame ct_Lsame), sl_Lsame⟩)
    (q_Lsame : PySem.W.codeIn K cd_Lsame "_law_same" = true)
    (k_Lsame : PySem.W.keepIn K (.ref f_Lsame) = true)
    (a_Lterms : PySem.W.nsIn K mainGlobals "_law_terms" = some (some (.ref f_Lterms)))
    (l_Lterms : K.lookup f_Lterms = some ⟨oc_Lterms, od_Lterms, .func (PySem.W.fnOf "_law_terms" "_law_terms" (defArgs s_Lterms) (defBody s_Lterms) (defScope s_Lterms) .none kV_Lterms dc_Lterms pm_Lterms an_Lterms cd_Lterms ct_Lterms), sl_Lterms⟩)
    (q_Lterms : PySem.W.codeIn K cd_Lterms "_law_terms" = true)
    (k_Lterms : PySem.W.keepIn K (.ref f_Lterms) = true)
    (a_Lterms_text : PySem.W.nsIn K mainGlobals "_law_terms_text" = some (some (.ref f_Lterms_text)))
    (l_Lterms_text : K.lookup f_Lterms_text = some ⟨oc_Lterms_text, od_Lterms_text, .func (PySem.W.fnOf "_law_terms_text" "_law_terms_text" (defArgs s_Lterms_text) (defBody s_Lterms_text) (defScope s_Lterms_text) .none kV_Lterms_text dc_Lterms_text pm_Lterms_text an_Lterms_text cd_Lterms_text ct_Lterms_text), sl_Lterms_text⟩)
    (q_Lterms_text : PySem.W.codeIn K cd_Lterms_text "_law_terms_text" = true)
    (k_Lterms_text : PySem.W.keepIn K (.ref f_Lterms_text) = true)
    (a_Lsigns : PySem.W.nsIn K mainGlobals "_law_signs" = some (some (.ref f_Lsigns)))
    (l_Lsigns : K.lookup f_Lsigns = some ⟨oc_Lsigns, od_Lsigns, .func (PySem.W.fnOf "_law_signs" "_law_signs" (defArgs s_Lsigns) (defBody s_Lsigns) (defScope s_Lsigns) .none kV_Lsigns dc_Lsigns pm_Lsigns an_Lsigns cd_Lsigns ct_Lsigns), sl_Lsigns⟩)
    (q_Lsigns : PySem.W.codeIn K cd_Lsigns "_law_signs" = true)
    (k_Lsigns : PySem.W.keepIn K (.ref f_Lsigns) = true)
    (a_Lbent : PySem.W.nsIn K mainGlobals "_law_bent" = some (some (.ref f_Lbent)))
    (l_Lbent : K.lookup f_Lbent = some ⟨oc_Lbent, od_Lbent, .func (PySem.W.fnOf "_law_bent" "_law_bent" (defArgs s_Lbent) (defBody s_Lbent) (defScope s_Lbent) .none kV_Lbent dc_Lbent pm_Lbent an_Lbent cd_Lbent ct_Lbent), sl_Lbent⟩)
    (q_Lbent : PySem.W.codeIn K cd_Lbent "_law_bent" = true)
    (k_Lbent : PySem.W.keepIn K (.ref f_Lbent) = true)
    (a_Lany : PySem.W.nsIn K mainGlobals "_law_any" = some (some (.ref f_Lany)))
    (l_Lany : K.lookup f_Lany = some ⟨oc_Lany, od_Lany, .func (PySem.W.fnOf "_law_any" "_law_any" (defArgs s_Lany) (defBody s_Lany) (defScope s_Lany) .none kV_Lany dc_Lany pm_Lany an_Lany cd_Lany ct_Lany), sl_Lany⟩)
    (q_Lany : PySem.W.codeIn K cd_Lany "_law_any" = true)
    (k_Lany : PySem.W.keepIn K (.ref f_Lany) = true)
    (a_Lterm_text : PySem.W.nsIn K mainGlobals "_law_term_text" = some (some (.ref f_Lterm_text)))
    (l_Lterm_text : K.lookup f_Lterm_text = some ⟨oc_Lterm_text, od_Lterm_text, .func (PySem.W.fnOf "_law_term_text" "_law_term_text" (defArgs s_Lterm_text) (defBody s_Lterm_text) (defScope s_Lterm_text) .none kV_Lterm_text dc_Lterm_text pm_Lterm_text an_Lterm_text cd_Lterm_text ct_Lterm_text), sl_Lterm_text⟩)
    (q_Lterm_text : PySem.W.codeIn K cd_Lterm_text "_law_term_text" = true)
    (k_Lterm_text : PySem.W.keepIn K (.ref f_Lterm_text) = true)
    (a_Lrow_of_parts : PySem.W.nsIn K mainGlobals "_law_row_of_parts" = some (some (.ref f_Lrow_of_parts)))
    (l_Lrow_of_parts : K.lookup f_Lrow_of_parts = some ⟨oc_Lrow_of_parts, od_Lrow_of_parts, .func (PySem.W.fnOf "_law_row_of_parts" "_law_row_of_parts" (defArgs s_Lrow_of_parts) (defBody s_Lrow_of_parts) (defScope s_Lrow_of_parts) .none kV_Lrow_of_parts dc_Lrow_of_parts pm_Lrow_of_parts an_Lrow_of_parts cd_Lrow_of_parts ct_Lrow_of_parts), sl_Lrow_of_parts⟩)
    (q_Lrow_of_parts : PySem.W.codeIn K cd_Lrow_of_parts "_law_row_of_parts" = true)
    (k_Lrow_of_parts : PySem.W.keepIn K (.ref f_Lrow_of_parts) = true)
    (a_Lshort_text : PySem.W.nsIn K mainGlobals "_law_short_text" = some (some (.ref f_Lshort_text)))
    (l_Lshort_text : K.lookup f_Lshort_text = some ⟨oc_Lshort_text, od_Lshort_text, .func (PySem.W.fnOf "_law_short_text" "_law_short_text" (defArgs s_Lshort_text) (defBody s_Lshort_text) (defScope s_Lshort_text) .none kV_Lshort_text dc_Lshort_text pm_Lshort_text an_Lshort_text cd_Lshort_text ct_Lshort_text), sl_Lshort_text⟩)
    (q_Lshort_text : PySem.W.codeIn K cd_Lshort_text "_law_short_text" = true)
    (k_Lshort_text : PySem.W.keepIn K (.ref f_Lshort_text) = true)
    (a_Lcut : PySem.W.nsIn K mainGlobals "_law_cut" = some (some (.ref f_Lcut)))
    (l_Lcut : K.lookup f_Lcut = some ⟨oc_Lcut, od_Lcut, .func (PySem.W.fnOf "_law_cut" "_law_cut" (defArgs s_Lcut) (defBody s_Lcut) (defScope s_Lcut) .none kV_Lcut dc_Lcut pm_Lcut an_Lcut cd_Lcut ct_Lcut), sl_Lcut⟩)
    (q_Lcut : PySem.W.codeIn K cd_Lcut "_law_cut" = true)
    (k_Lcut : PySem.W.keepIn K (.ref f_Lcut) = true)
    (a_Lterm : PySem.W.nsIn K mainGlobals "_law_term" = some (some (.ref f_Lterm)))
    (l_Lterm : K.lookup f_Lterm = some ⟨oc_Lterm, od_Lterm, .func (PySem.W.fnOf "_law_term" "_law_term" (defArgs s_Lterm) (defBody s_Lterm) (defScope s_Lterm) .none kV_Lterm dc_Lterm pm_Lterm an_Lterm cd_Lterm ct_Lterm), sl_Lterm⟩)
    (q_Lterm : PySem.W.codeIn K cd_Lterm "_law_term" = true)
    (k_Lterm : PySem.W.keepIn K (.ref f_Lterm) = true)
    (a_Lreading : PySem.W.nsIn K mainGlobals "_law_reading" = some (some (.ref f_Lreading)))
    (l_Lreading : K.lookup f_Lreading = some ⟨oc_Lreading, od_Lreading, .func (PySem.W.fnOf "_law_reading" "_law_reading" (defArgs s_Lreading) (defBody s_Lreading) (defScope s_Lreading) .none kV_Lreading dc_Lreading pm_Lreading an_Lreading cd_Lreading ct_Lreading), sl_Lreading⟩)
    (q_Lreading : PySem.W.codeIn K cd_Lreading "_law_reading" = true)
    (k_Lreading : PySem.W.keepIn K (.ref f_Lreading) = true)
    (a_Lreads : PySem.W.nsIn K mainGlobals "_law_reads" = some (some (.ref f_Lreads)))
    (l_Lreads : K.lookup f_Lreads = some ⟨oc_Lreads, od_Lreads, .func (PySem.W.fnOf "_law_reads" "_law_reads" (defArgs s_Lreads) (defBody s_Lreads) (defScope s_Lreads) .none kV_Lreads dc_Lreads pm_Lreads an_Lreads cd_Lreads ct_Lreads), sl_Lreads⟩)
    (q_Lreads : PySem.W.codeIn K cd_Lreads "_law_reads" = true)
    (k_Lreads : PySem.W.keepIn K (.ref f_Lreads) = true)
    (a_law : PySem.W.nsIn K mainGlobals "law" = some (some (.ref f_law)))
    (l_law : K.lookup f_law = some ⟨oc_law, od_law, .func (PySem.W.fnOf "law" "law" (defArgs s_law) (defBody s_law) (defScope s_law) .none kV_law dc_law pm_law an_law cd_law ct_law), sl_law⟩)
    (q_law : PySem.W.codeIn K cd_law "law" = true)
    (k_law : PySem.W.keepIn K (.ref f_law) = true) :
    ∃ fd : FuncData, (∀ (s : Shared) (v : Value), BindsTo s fd ⟨[v], []⟩ [("_law_script", v)]) ∧ ∀ base : Heap, K.In base → base.Ns mainGlobals mg → FnOk l.prog w K mg base CX0 12 fa fd ["_law_script"] (sp_law K) := by
  have e := hfa.symm.trans (PySem.W.mg_of X G a_law)
  cases e
  have T : Txt l.prog w K mg C_BadRule C_CableError C_Rule A_WORDS A_OTHER_SIDE := ⟨PySem.W.mg_of X G g_BadRule, ⟨_, ⟨_, _, _, _, _, _, _, _, _, _, _, _, _, _, _, xl_BadRule, rf_BadRule⟩, su_BadRule, xa_BadRule, xg_BadRule, xh_BadRule, xp_BadRule, xi_BadRule, xf_BadRule, xk_BadRule, xb_BadRule, xv_BadRule, xm_BadRule, xt_BadRule, xd_BadRule, xo_BadRule, PySem.W.mg_none_of X G xs_BadRule, hx_BadRule, ⟨_, _, _, _, _, _, _, _, _, _, _, _, _, _, _, _, _, _, _, _, _, _, _, _, _, _, lf_BadRule, lc_BadRule, hl_BadRule, ⟨_, _, _, _, _, _, lo_BadRule, hv_BadRule, hf_BadRule⟩, ⟨_, _, _, le_BadRule⟩, he_BadRule⟩⟩, k_BadRule, b_BadRule, t_BadRule, ic_BadRule, s_BadRule, ⟨eg_BadRule, ek_BadRule, b_BadRule, ed_BadRule, ea_BadRule, en_BadRule, et_BadRule, em_BadRule⟩, PySem.W.mg_of X G g_CableError, PySem.W.mg_of X G g_Rule, ⟨pg_Rule, hd_Rule, po_Rule, sa_Rule⟩, nf_Rule_terms, clm_rd racr_Rule rbcr_Rule rccr_Rule rdcr_Rule recr_Rule, ⟨⟨pg_Rule, hd_Rule, po_Rule, sa_Rule⟩, ha_Rule, hn_Rule, ht_Rule, hm_Rule, me_Rule⟩, PySem.W.mg_of X G c_WORDS, fun H => .inr ⟨_, _, _, l_WORDS, rfl, rfl, by rw [sizeLine_eq]; show 7 ≤ 16777216; decide, (.cons ⟨_, rfl⟩ (.cons ⟨_, rfl⟩ (.cons ⟨_, rfl⟩ (.cons ⟨_, rfl⟩ (.cons ⟨_, rfl⟩ (.cons ⟨_, rfl⟩ (.cons ⟨_, rfl⟩ .nil)))))))⟩, PySem.W.mg_of X G c_OTHER_SIDE, ⟨_, _, l_OTHER_SIDE, ⟨⟨_, _, rfl, rfl⟩, ⟨⟨_, _, rfl, rfl⟩, True.intro⟩⟩, low_OTHER_SIDE⟩, fun z h => ns_none l_OTHER_SIDE (List.forall_mem_cons.mpr ⟨⟨_, _, rfl, by simp⟩, List.forall_mem_cons.mpr ⟨⟨_, _, rfl, by simp⟩, List.forall_mem_nil _⟩⟩) h, ⟨_, v_OTHER_SIDE_least, ⟨_, rfl⟩⟩, ⟨_, v_OTHER_SIDE_most, ⟨_, rfl⟩⟩, PySem.W.mg_none_of X G n_enumerate, PySem.W.mg_none_of X G n_tuple, PySem.W.mg_none_of X G n_len, PySem.W.mg_none_of X G n_iter, PySem.W.mg_none_of X G n_int, PySem.W.mg_none_of X G n_abs, PySem.W.mg_none_of X G n_isinstance, PySem.W.mg_none_of X G n_bool, PySem.W.mg_none_of X G n_str, PySem.W.mg_none_of X G n_list, PySem.W.mg_none_of X G n_range, PySem.W.mg_none_of X G n_ValueError, kt_cable, kt_value⟩
  have F_uterm_of := fun_mk (st := s_uterm_of) l_uterm_of q_uterm_of k_uterm_of
  have b_uterm_of := F_uterm_of.binds (ps := ["part"]) fun _ _ _ _ _ _ us hl => match us, hl with | [_], _ => rfl
  have F_Rule_init := fun_mk (st := s_Rule_init) l_Rule_init q_Rule_init k_Rule_init
  have b_Rule_init := F_Rule_init.binds (ps := ["self", "terms"]) fun _ _ _ _ _ _ us hl => match us, hl with | [_, _], _ => rfl
  have F_Rule_parse := fun_mk (st := s_Rule_parse) l_Rule_parse q_Rule_parse k_Rule_parse
  have b_Rule_parse := F_Rule_parse.binds (ps := ["cls", "text"]) fun _ _ _ _ _ _ us hl => match us, hl with | [_, _], _ => rfl
  have F_Rule_str := fun_mk (st := s_Rule_str) l_Rule_str q_Rule_str k_Rule_str
  have b_Rule_str := F_Rule_str.binds (ps := ["self"]) fun _ _ _ _ _ _ us hl => match us, hl with | [_], _ => rfl
  have F_Rule_len := fun_mk (st := s_Rule_len) l_Rule_len q_Rule_len k_Rule_len
  have b_Rule_len := F_Rule_len.binds (ps := ["self"]) fun _ _ _ _ _ _ us hl => match us, hl with | [_], _ => rfl
  have F_Rule_iter := fun_mk (st := s_Rule_iter) l_Rule_iter q_Rule_iter k_Rule_iter
  have b_Rule_iter := F_Rule_iter.binds (ps := ["self"]) fun _ _ _ _ _ _ us hl => match us, hl with | [_], _ => rfl
  have F_Lcell := fun_mk (st := s_Lcell) l_Lcell q_Lcell k_Lcell
  have b_Lcell := F_Lcell.binds (ps := ["_law_script", "_law_at"]) fun _ _ _ _ _ _ us hl => match us, hl with | [_, _], _ => rfl
  have F_Lpool := fun_mk (st := s_Lpool) l_Lpool q_Lpool k_Lpool
  have b_Lpool := F_Lpool.binds (ps := ["_law_cell_here"]) fun _ _ _ _ _ _ us hl => match us, hl with | [_], _ => rfl
  have F_Ltake := fun_mk (st := s_Ltake) l_Ltake q_Ltake k_Ltake
  have b_Ltake := F_Ltake.binds (ps := ["_law_pool_here", "_law_many"]) fun _ _ _ _ _ _ us hl => match us, hl with | [_, _], _ => rfl
  have F_Lsame := fun_mk (st := s_Lsame) l_Lsame q_Lsame k_Lsame
  have b_Lsame := F_Lsame.binds (ps := ["_law_told", "_law_due"]) fun _ _ _ _ _ _ us hl => match us, hl with | [_, _], _ => rfl
  have F_Lterms := fun_mk (st := s_Lterms) l_Lterms q_Lterms k_Lterms
  have b_Lterms := F_Lterms.binds (ps := ["_law_pool_here", "_law_most"]) fun _ _ _ _ _ _ us hl => match us, hl with | [_, _], _ => rfl
  have F_Lterms_text := fun_mk (st := s_Lterms_text) l_Lterms_text q_Lterms_text k_Lterms_text
  have b_Lterms_text := F_Lterms_text.binds (ps := ["_law_terms_here"]) fun _ _ _ _ _ _ us hl => match us, hl with | [_], _ => rfl
  have F_Lsigns := fun_mk (st := s_Lsigns) l_Lsigns q_Lsigns k_Lsigns
  have b_Lsigns := F_Lsigns.binds (ps := []) fun _ _ _ _ _ _ us hl => match us, hl with | [], _ => rfl
  have F_Lbent := fun_mk (st := s_Lbent) l_Lbent q_Lbent k_Lbent
  have b_Lbent := F_Lbent.binds (ps := ["_law_pool_here", "_law_text", "_law_signs_here"]) fun _ _ _ _ _ _ us hl => match us, hl with | [_, _, _], _ => rfl
  have F_Lany := fun_mk (st := s_Lany) l_Lany q_Lany k_Lany
  have b_Lany := F_Lany.binds (ps := ["_law_pool_here", "_law_signs_here"]) fun _ _ _ _ _ _ us hl => match us, hl with | [_, _], _ => rfl
  have F_Lterm_text := fun_mk (st := s_Lterm_text) l_Lterm_text q_Lterm_text k_Lterm_text
  have b_Lterm_text := F_Lterm_text.binds (ps := ["_law_pool_here"]) fun _ _ _ _ _ _ us hl => match us, hl with | [_], _ => rfl
  have F_Lrow_of_parts := fun_mk (st := s_Lrow_of_parts) l_Lrow_of_parts q_Lrow_of_parts k_Lrow_of_parts
  have b_Lrow_of_parts := F_Lrow_of_parts.binds (ps := ["_law_pool_here"]) fun _ _ _ _ _ _ us hl => match us, hl with | [_], _ => rfl
  have F_Lshort_text := fun_mk (st := s_Lshort_text) l_Lshort_text q_Lshort_text k_Lshort_text
  have b_Lshort_text := F_Lshort_text.binds (ps := ["_law_pool_here"]) fun _ _ _ _ _ _ us hl => match us, hl with | [_], _ => rfl
  have F_Lcut := fun_mk (st := s_Lcut) l_Lcut q_Lcut k_Lcut
  have b_Lcut := F_Lcut.binds (ps := ["_law_text"]) fun _ _ _ _ _ _ us hl => match us, hl with | [_], _ => rfl
  have F_Lterm := fun_mk (st := s_Lterm) l_Lterm q_Lterm k_Lterm
  have b_Lterm := F_Lterm.binds (ps := ["_law_part"]) fun _ _ _ _ _ _ us hl => match us, hl with | [_], _ => rfl
  have F_Lreading := fun_mk (st := s_Lreading) l_Lreading q_Lreading k_Lreading
  have b_Lreading := F_Lreading.binds (ps := ["_law_text"]) fun _ _ _ _ _ _ us hl => match us, hl with | [_], _ => rfl
  have F_Lreads := fun_mk (st := s_Lreads) l_Lreads q_Lreads k_Lreads
  have b_Lreads := F_Lreads.binds (ps := ["_law_text", "_law_due"]) fun _ _ _ _ _ _ us hl => match us, hl with | [_, _], _ => rfl
  refine ⟨PySem.W.fnOf "law" "law" (defArgs s_law) (defBody s_law) (defScope s_law) .none kV_law dc_law pm_law an_law cd_law ct_law, fun s v => .of_eq rfl, fun base _ _ => ?_⟩
  have c_uterm_of := cal_mk (ok_uterm_of (P := l.prog) (w := w) (base := base) F_uterm_of T ) (PySem.W.mg_of X G a_uterm_of) k_uterm_of b_uterm_of
  have c_Rule := mak_mk (ok_Rule_init (P := l.prog) (w := w) (base := base) F_Rule_init T ) (T.g_Rule) ⟨mk_Rule, a_Rule_init, j_Rule_init, mkk_Rule⟩ b_Rule_init
  have c_Rule_parse := clm_mk (ok_Rule_parse (P := l.prog) (w := w) (base := base) F_Rule_parse T c_Rule c_uterm_of) T.cr_Rule (clm_at pt_Rule_parse pa_Rule_parse pty_Rule_parse pgt_Rule_parse prc_Rule_parse (fn_in l_Rule_parse)) b_Rule_parse
  have c_Rule_str := met_mk (ok_Rule_str (P := l.prog) (w := w) (base := base) F_Rule_str T ) T.cl_Rule ⟨a_Rule_str, j_Rule_str, k_Rule_str⟩ b_Rule_str (fn_in l_Rule_str)
  have c_Rule_len := met_mk (ok_Rule_len (P := l.prog) (w := w) (base := base) F_Rule_len T ) T.cl_Rule ⟨a_Rule_len, j_Rule_len, k_Rule_len⟩ b_Rule_len (fn_in l_Rule_len)
  have c_Rule_iter := met_mk (ok_Rule_iter (P := l.prog) (w := w) (base := base) F_Rule_iter T ) T.cl_Rule ⟨a_Rule_iter, j_Rule_iter, k_Rule_iter⟩ b_Rule_iter (fn_in l_Rule_iter)
  have c_Lcell := cal_mk (ok_Lcell (P := l.prog) (w := w) (base := base) F_Lcell T ) (PySem.W.mg_of X G a_Lcell) k_Lcell b_Lcell
  have c_Lpool := cal_mk (ok_Lpool (P := l.prog) (w := w) (base := base) F_Lpool T ) (PySem.W.mg_of X G a_Lpool) k_Lpool b_Lpool
  have c_Ltake := cal_mk (ok_Ltake (P := l.prog) (w := w) (base := base) F_Ltake T ) (PySem.W.mg_of X G a_Ltake) k_Ltake b_Ltake
  have c_Lsame := cal_mk (ok_Lsame (P := l.prog) (w := w) (base := base) F_Lsame T (PySem.W.mg_of X G a_Lsame) k_Lsame b_Lsame 4) (PySem.W.mg_of X G a_Lsame) k_Lsame b_Lsame
  have c_Lterms := cal_mk (ok_Lterms (P := l.prog) (w := w) (base := base) F_Lterms T c_Ltake) (PySem.W.mg_of X G a_Lterms) k_Lterms b_Lterms
  have c_Lterms_text := cal_mk (ok_Lterms_text (P := l.prog) (w := w) (base := base) F_Lterms_text T ) (PySem.W.mg_of X G a_Lterms_text) k_Lterms_text b_Lterms_text
  have c_Lsigns := cal_mk (ok_Lsigns (P := l.prog) (w := w) (base := base) F_Lsigns T ) (PySem.W.mg_of X G a_Lsigns) k_Lsigns b_Lsigns
  have c_Lbent := cal_mk (ok_Lbent (P := l.prog) (w := w) (base := base) F_Lbent T c_Ltake) (PySem.W.mg_of X G a_Lbent) k_Lbent b_Lbent
  have c_Lany := cal_mk (ok_Lany (P := l.prog) (w := w) (base := base) F_Lany T c_Ltake) (PySem.W.mg_of X G a_Lany) k_Lany b_Lany
  have c_Lterm_text := cal_mk (ok_Lterm_text (P := l.prog) (w := w) (base := base) F_Lterm_text T c_Ltake) (PySem.W.mg_of X G a_Lterm_text) k_Lterm_text b_Lterm_text
  have c_Lrow_of_parts := cal_mk (ok_Lrow_of_parts (P := l.prog) (w := w) (base := base) F_Lrow_of_parts T c_Ltake c_Lterm_text) (PySem.W.mg_of X G a_Lrow_of_parts) k_Lrow_of_parts b_Lrow_of_parts
  have c_Lshort_text := cal_mk (ok_Lshort_text (P := l.prog) (w := w) (base := base) F_Lshort_text T c_Ltake) (PySem.W.mg_of X G a_Lshort_text) k_Lshort_text b_Lshort_text
  have c_Lcut := cal_mk (ok_Lcut (P := l.prog) (w := w) (base := base) F_Lcut T ) (PySem.W.mg_of X G a_Lcut) k_Lcut b_Lcut
  have c_Lterm := cal_mk (ok_Lterm (P := l.prog) (w := w) (base := base) F_Lterm T ) (PySem.W.mg_of X G a_Lterm) k_Lterm b_Lterm
  have c_Lreading := cal_mk (ok_Lreading (P := l.prog) (w := w) (base := base) F_Lreading T c_Lcut c_Lterm) (PySem.W.mg_of X G a_Lreading) k_Lreading b_Lreading
  have c_Lreads := cal_mk (ok_Lreads (P := l.prog) (w := w) (base := base) F_Lreads T c_Rule_parse c_Lsame c_Rule_iter c_Rule_len c_Rule_str) (PySem.W.mg_of X G a_Lreads) k_Lreads b_Lreads
  exact ok_law (fun_mk (st := s_law) l_law q_law k_law) T c_Lterms c_Lpool c_Lcell c_Lterms_text c_Lsame c_Rule_str c_Rule c_Lreads c_Lbent c_Lsigns c_Lrow_of_parts c_Lany c_Lshort_text c_Lreading

theorem walk {l : PySem.W.OpenLaw} {q : Program} {loose : List Str} {XP : (Str → Option Value) → Heap → Prop} {YP : World → Heap → Prop} {d : DefRec} {K : Params → PySem.W.Frag} (hn : l.most = some 63) (hdf : d.params.defaults = [])
    (hY : ∀ (w : World) (h : Heap), YP w h → (K w.params).In h)
    (F : ∀ (w : World) (mg : Str → Option Value) (fa : Addr) (h : Heap), (K w.params).In h → h.Ns mainGlobals mg → mg d.name = some (.ref fa) →
      ∃ fd : FuncData, (∀ (s : Shared) (u : Value), BindsTo s fd ⟨[u], []⟩ [("_law_script", u)]) ∧ ∀ base : Heap, (K w.params).In base → base.Ns mainGlobals mg → FnOk l.prog w (K w.params) mg base CX0 12 fa fd ["_law_script"] (sp_law (K w.params))) :
    PySem.W.WalkO q loose XP YP l.row.toRowW d [] (fun f vs => PySem.call f vs) :=
  L2.walk_of (n := 63) (k := 12) (x := "_law_script") (CX := fun _ => CX0) (sp := fun w => sp_law (K w.params)) hn (by decide) hdf ⟨rfl, by decide, by decide⟩ hY F (fun _ _ a ns hl _ hS => ⟨a, ns, rfl, hS, hl, fun _ => rfl⟩) fun _ _ _ _ _ z => z
end My

open PySem PySem.W PyProof.Rows in
set_option maxRecDepth 100000 in
set_option maxHeartbeats 0 in
theorem PySem.Challenge.cw_onecable_k13_rule_text_there_and_back_holds : PySem.Challenge.rw_onecable_k13_rule_text_there_and_back.Holds := by
  w_on; o_law; k_head; (case hw => w_witness2)
  k_fill
  refine My.walk (l := PySem.Challenge.rw_onecable_k13_rule_text_there_and_back) rfl rfl (fun w h Y => PySem.W.kIn_of Y) ?F
  case F =>
    intro w mg fa h KX G hmg
    refine' My.all_mk KX G hmg ?g_BadRule ?xl_BadRule ?rf_BadRule ?su_BadRule ?xa_BadRule ?xg_BadRule ?xh_BadRule ?xp_BadRule ?xi_BadRule ?xf_BadRule ?xk_BadRule ?xb_BadRule ?xv_BadRule ?xm_BadRule ?xt_BadRule ?xd_BadRule ?xo_BadRule ?xs_BadRule ?hx_BadRule ?lf_BadRule ?lc_BadRule ?hl_BadRule ?lo_BadRule ?hv_BadRule ?hf_BadRule ?le_BadRule ?he_BadRule ?k_BadRule ?b_BadRule ?t_BadRule ?ic_BadRule ?s_BadRule ?eg_BadRule ?ek_BadRule ?ed_BadRule ?ea_BadRule ?en_BadRule ?et_BadRule ?em_BadRule ?g_CableError ?g_Rule ?pg_Rule ?hd_Rule ?po_Rule ?sa_Rule ?nf_Rule_terms ?racr_Rule ?rbcr_Rule ?rccr_Rule ?rdcr_Rule ?recr_Rule ?ha_Rule ?hn_Rule ?ht_Rule ?hm_Rule ?me_Rule ?c_WORDS ?l_WORDS ?c_OTHER_SIDE ?l_OTHER_SIDE ?low_OTHER_SIDE ?v_OTHER_SIDE_least ?v_OTHER_SIDE_most ?n_enumerate ?n_tuple ?n_len ?n_iter ?n_int ?n_abs ?n_isinstance ?n_bool ?n_str ?n_list ?n_range ?n_ValueError ?kt_cable ?kt_value ?mk_Rule ?mkk_Rule ?a_uterm_of ?l_uterm_of ?q_uterm_of ?k_uterm_of ?a_Rule_init ?j_Rule_init ?l_Rule_init ?q_Rule_init ?k_Rule_init ?pt_Rule_parse ?pa_Rule_parse ?pty_Rule_parse ?pgt_Rule_parse ?prc_Rule_parse ?l_Rule_parse ?q_Rule_parse ?k_Rule_parse ?a_Rule_str ?j_Rule_str ?l_Rule_str ?q_Rule_str ?k_Rule_str ?a_Rule_len ?j_Rule_len ?l_Rule_len ?q_Rule_len ?k_Rule_len ?a_Rule_iter ?j_Rule_iter ?l_Rule_iter ?q_Rule_iter ?k_Rule_iter ?a_Lcell ?l_Lcell ?q_Lcell ?k_Lcell ?a_Lpool ?l_Lpool ?q_Lpool ?k_Lpool ?a_Ltake ?l_Ltake ?q_Ltake ?k_Ltake ?a_Lsame ?l_Lsame ?q_Lsame ?k_Lsame ?a_Lterms ?l_Lterms ?q_Lterms ?k_Lterms ?a_Lterms_text ?l_Lterms_text ?q_Lterms_text ?k_Lterms_text ?a_Lsigns ?l_Lsigns ?q_Lsigns ?k_Lsigns ?a_Lbent ?l_Lbent ?q_Lbent ?k_Lbent ?a_Lany ?l_Lany ?q_Lany ?k_Lany ?a_Lterm_text ?l_Lterm_text ?q_Lterm_text ?k_Lterm_text ?a_Lrow_of_parts ?l_Lrow_of_parts ?q_Lrow_of_parts ?k_Lrow_of_parts ?a_Lshort_text ?l_Lshort_text ?q_Lshort_text ?k_Lshort_text ?a_Lcut ?l_Lcut ?q_Lcut ?k_Lcut ?a_Lterm ?l_Lterm ?q_Lterm ?k_Lterm ?a_Lreading ?l_Lreading ?q_Lreading ?k_Lreading ?a_Lreads ?l_Lreads ?q_Lreads ?k_Lreads ?a_law ?l_law ?q_law ?k_law
    (case g_BadRule => k_is)
    (case xl_BadRule => k_is)
    (case rf_BadRule => first | rfl | decide | kernel_rfl | decide +kernel)
    (case su_BadRule => ks_is)
    (case xa_BadRule => k_is)
    (case xg_BadRule => k_is)
    (case xh_BadRule => k_is)
    (case xp_BadRule => k_is)
    (case xi_BadRule => k_is)
    (case xf_BadRule => k_is)
    (case xk_BadRule => k_is)
    (case xb_BadRule => k_is)
    (case xv_BadRule => k_is)
    (case xm_BadRule => k_is)
    (case xt_BadRule => k_is)
    (case xd_BadRule => k_is)
    (case xo_BadRule => k_is)
    (case xs_BadRule => k_is)
    (case hx_BadRule => first | rfl | decide | kernel_rfl | decide +kernel)
    (case lf_BadRule => k_is)
    (case lc_BadRule => k_is)
    (case hl_BadRule => first | rfl | decide | kernel_rfl | decide +kernel)
    (case lo_BadRule => k_is)
    (case hv_BadRule => first | rfl | decide | kernel_rfl | decide +kernel)
    (case hf_BadRule => first | rfl | decide | kernel_rfl | decide +kernel)
    (case le_BadRule => k_is)
    (case he_BadRule => exact ⟨_, fun env => rfl⟩)
    (case k_BadRule => k_is)
    (case b_BadRule => k_is)
    (case t_BadRule => k_is)
    (case ic_BadRule => k_is)
    (case s_BadRule => first | rfl | decide | k_is)
    (case eg_BadRule => k_is)
    (case ek_BadRule => k_is)
    (case ed_BadRule => k_is)
    (case ea_BadRule => k_is)
    (case en_BadRule => k_is)
    (case et_BadRule => k_is)
    (case em_BadRule => k_is)
    (case g_CableError => k_is)
    (case g_Rule => k_is)
    (case pg_Rule => k_is)
    (case hd_Rule => k_is)
    (case po_Rule => k_is)
    (case sa_Rule => k_is)
    (case nf_Rule_terms => k_is)
    (case racr_Rule => k_is)
    (case rbcr_Rule => k_is)
    (case rccr_Rule => k_is)
    (case rdcr_Rule => k_is)
    (case recr_Rule => k_is)
    (case ha_Rule => k_is)
    (case hn_Rule => k_is)
    (case ht_Rule => k_is)
    (case hm_Rule => k_is)
    (case me_Rule => kit_is)
    (case c_WORDS => k_is)
    (case l_WORDS => k_is)
    (case c_OTHER_SIDE => k_is)
    (case l_OTHER_SIDE => k_is)
    (case low_OTHER_SIDE => first | rfl | decide | k_is)
    (case v_OTHER_SIDE_least => k_is)
    (case v_OTHER_SIDE_most => k_is)
    (case n_enumerate => k_is)
    (case n_tuple => k_is)
    (case n_len => k_is)
    (case n_iter => k_is)
    (case n_int => k_is)
    (case n_abs => k_is)
    (case n_isinstance => k_is)
    (case n_bool => k_is)
    (case n_str => k_is)
    (case n_list => k_is)
    (case n_range => k_is)
    (case n_ValueError => k_is)
    (case kt_cable => kit_is)
    (case kt_value => kit_is)
    (case mk_Rule => k_is)
    (case mkk_Rule => k_is)
    (case a_uterm_of => k_is)
    (case l_uterm_of => k_is)
    (case q_uterm_of => k_is)
    (case k_uterm_of => k_is)
    (case a_Rule_init => k_is)
    (case j_Rule_init => k_is)
    (case l_Rule_init => k_is)
    (case q_Rule_init => k_is)
    (case k_Rule_init => k_is)
    (case pt_Rule_parse => k_is)
    (case pa_Rule_parse => k_is)
    (case pty_Rule_parse => k_is)
    (case pgt_Rule_parse => k_is)
    (case prc_Rule_parse => k_is)
    (case l_Rule_parse => k_is)
    (case q_Rule_parse => k_is)
    (case k_Rule_parse => k_is)
    (case a_Rule_str => k_is)
    (case j_Rule_str => k_is)
    (case l_Rule_str => k_is)
    (case q_Rule_str => k_is)
    (case k_Rule_str => k_is)
    (case a_Rule_len => k_is)
    (case j_Rule_len => k_is)
    (case l_Rule_len => k_is)
    (case q_Rule_len => k_is)
    (case k_Rule_len => k_is)
    (case a_Rule_iter => k_is)
    (case j_Rule_iter => k_is)
    (case l_Rule_iter => k_is)
    (case q_Rule_iter => k_is)
    (case k_Rule_iter => k_is)
    (case a_Lcell => k_is)
    (case l_Lcell => k_is)
    (case q_Lcell => k_is)
    (case k_Lcell => k_is)
    (case a_Lpool => k_is)
    (case l_Lpool => k_is)
    (case q_Lpool => k_is)
    (case k_Lpool => k_is)
    (case a_Ltake => k_is)
    (case l_Ltake => k_is)
    (case q_Ltake => k_is)
    (case k_Ltake => k_is)
    (case a_Lsame => k_is)
    (case l_Lsame => k_is)
    (case q_Lsame => k_is)
    (case k_Lsame => k_is)
    (case a_Lterms => k_is)
    (case l_Lterms => k_is)
    (case q_Lterms => k_is)
    (case k_Lterms => k_is)
    (case a_Lterms_text => k_is)
    (case l_Lterms_text => k_is)
    (case q_Lterms_text => k_is)
    (case k_Lterms_text => k_is)
    (case a_Lsigns => k_is)
    (case l_Lsigns => k_is)
    (case q_Lsigns => k_is)
    (case k_Lsigns => k_is)
    (case a_Lbent => k_is)
    (case l_Lbent => k_is)
    (case q_Lbent => k_is)
    (case k_Lbent => k_is)
    (case a_Lany => k_is)
    (case l_Lany => k_is)
    (case q_Lany => k_is)
    (case k_Lany => k_is)
    (case a_Lterm_text => k_is)
    (case l_Lterm_text => k_is)
    (case q_Lterm_text => k_is)
    (case k_Lterm_text => k_is)
    (case a_Lrow_of_parts => k_is)
    (case l_Lrow_of_parts => k_is)
    (case q_Lrow_of_parts => k_is)
    (case k_Lrow_of_parts => k_is)
    (case a_Lshort_text => k_is)
    (case l_Lshort_text => k_is)
    (case q_Lshort_text => k_is)
    (case k_Lshort_text => k_is)
    (case a_Lcut => k_is)
    (case l_Lcut => k_is)
    (case q_Lcut => k_is)
    (case k_Lcut => k_is)
    (case a_Lterm => k_is)
    (case l_Lterm => k_is)
    (case q_Lterm => k_is)
    (case k_Lterm => k_is)
    (case a_Lreading => k_is)
    (case l_Lreading => k_is)
    (case q_Lreading => k_is)
    (case k_Lreading => k_is)
    (case a_Lreads => k_is)
    (case l_Lreads => k_is)
    (case q_Lreads => k_is)
    (case k_Lreads => k_is)
    (case a_law => k_is)
    (case l_law => k_is)
    (case q_law => k_is)
    (case k_law => k_is)

